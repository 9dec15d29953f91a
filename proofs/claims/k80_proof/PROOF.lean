import PyProof.Rows.All
import Wide.All
import OpenK.AllK
import Wide.FinOn
import Lean
import PyProof.EqAt
import PyProof.EqKinds
import PyProof.TupleCall
import PySem.Challenge.RW_optionwood_k80_texts_of_woods

set_option Elab.async false
set_option linter.all false
set_option maxRecDepth 100000
/-! THE HAND LAYER, for ints, bools, texts, own classes, LISTS and tuples (index, slices, in, append, pop ..), calls, loops. Paste it whole ahead of your own text; what your proof does not reach may be deleted. -/
namespace L2
open PySem PySem.Spec PyProof.Rows

/-- a key: an int or a str -/
abbrev Key := Sum Int Str
def keyIs : Key → Value → Bool
  | .inl k, v => Value.isInt k v
  | .inr x, v => Value.isStrOf x v
def keyH (w : World) : Key → Int
  | .inl k => hashInt k
  | .inr x => hashStr w x
theorem keyIs_shape : ∀ {k : Key} {v : Value}, keyIs k v = true → (∃ i t, k = Sum.inl i ∧ v = Value.int i t) ∨ (∃ x t, k = Sum.inr x ∧ v = Value.str x t)
  | .inl i, v, h => by
    obtain ⟨t, e⟩ := Value.isInt_shape (k := i) (v := v) h
    exact .inl ⟨i, t, rfl, e⟩
  | .inr x, v, h => by
    obtain ⟨t, e⟩ := Value.isStrOf_shape (x := x) (v := v) h
    exact .inr ⟨x, t, rfl, e⟩
theorem key_ll (a b : Int) : decide ((Sum.inl a : Key) = Sum.inl b) = (a == b) := by
  by_cases e : a = b
  · subst e; simp
  · have h : ¬ (Sum.inl a : Key) = Sum.inl b := fun q => e (Sum.inl.inj q)
    rw [decide_eq_false h]
    exact (beq_eq_false_iff_ne.mpr e).symm
theorem key_rr (a b : Str) : decide ((Sum.inr a : Key) = Sum.inr b) = decide (a = b) := by
  by_cases e : a = b
  · subst e; simp
  · have h : ¬ (Sum.inr a : Key) = Sum.inr b := fun q => e (Sum.inr.inj q)
    rw [decide_eq_false h, decide_eq_false e]
theorem key_lr (a : Int) (b : Str) : decide ((Sum.inl a : Key) = Sum.inr b) = false := decide_eq_false (fun q => nomatch q)
theorem key_rl (a : Str) (b : Int) : decide ((Sum.inr a : Key) = Sum.inl b) = false := decide_eq_false (fun q => nomatch q)

def mixKind (prog : Program) (w : World) : PySem.KeyKind prog w Key where
  is := keyIs
  hash := keyH w
  inj := fun v a b ha hb => by
    rcases keyIs_shape ha with ⟨i, t, rfl, rfl⟩ | ⟨x, t, rfl, rfl⟩
    · rcases keyIs_shape hb with ⟨j, u, rfl, e⟩ | ⟨y, u, rfl, e⟩
      · injection e with e1 _; rw [e1]
      · exact nomatch e
    · rcases keyIs_shape hb with ⟨j, u, rfl, e⟩ | ⟨y, u, rfl, e⟩
      · exact nomatch e
      · injection e with e1 _; rw [e1]
  byValue := fun k v h => by
    rcases keyIs_shape h with ⟨i, t, rfl, rfl⟩ | ⟨x, t, rfl, rfl⟩ <;> rfl
  pyHash := fun hv h => by
    rcases keyIs_shape hv with ⟨i, t, rfl, rfl⟩ | ⟨x, t, rfl, rfl⟩
    · exact wpAny_pyHash_int h
    · exact wpAny_pyHash_str h
  eqBool := fun hu hv h => by
    rcases keyIs_shape hu with ⟨i, t, rfl, rfl⟩ | ⟨x, t, rfl, rfl⟩
    · rcases keyIs_shape hv with ⟨j, u, rfl, rfl⟩ | ⟨y, u, rfl, rfl⟩
      · rw [key_ll] at h; exact wpAny_eqBool_int h
      · rw [key_lr] at h; exact SeqAt.EqAt.int_str i t y u _ _ _ _ h
    · rcases keyIs_shape hv with ⟨j, u, rfl, rfl⟩ | ⟨y, u, rfl, rfl⟩
      · rw [key_rl] at h; exact SeqAt.EqAt.str_int x t j u _ _ _ _ h
      · rw [key_rr] at h; exact wpAny_eqBool_str h
  «strs» := fun k x t v h => by
    rcases keyIs_shape h with ⟨i, u, rfl, e⟩ | ⟨y, u, rfl, e⟩
    · exact nomatch e
    · injection e with e1 _
      subst e1
      cases v <;> rfl

end L2

namespace L2
open PySem PySem.Spec PyProof.Rows

/-- a value, without the heap -/
inductive V where
  | non | bl (b : Bool) | int (i : Int) | str (x : Str) | byt (b : Array UInt8) | flt (b : UInt64) | ref (a : Addr) | ty (n : String)
  deriving DecidableEq

def RelV : V → Value → Prop
  | .non, u => u = Value.none
  | .bl b, u => u = Value.bool b
  | .int i, u => ∃ t, u = Value.int i t
  | .str x, u => ∃ t, u = Value.str x t
  | .byt b, u => ∃ t, u = Value.bytes b t
  | .flt b, u => ∃ t, u = Value.float b t
  | .ref a, u => u = Value.ref a
  | .ty n, u => u = Value.type n

abbrev Vals : List V → List Value → Prop := Paired RelV
theorem Vals.length {xs : List V} {us : List Value} (r : Vals xs us) : xs.length = us.length := Paired.length r
theorem Vals.get : ∀ {xs : List V} {us : List Value} {i : Nat} {x : V}, Vals xs us → xs[i]? = some x → ∃ u, us[i]? = some u ∧ RelV x u
  | _, _, _, _, .nil, e => by simp at e
  | _, _, 0, _, .cons r _, e => by simp at e; subst e; exact ⟨_, rfl, r⟩
  | _, _, i + 1, x, .cons _ t, e => by
    obtain ⟨u, h1, h2⟩ := Vals.get (i := i) (x := x) t (by simpa using e)
    exact ⟨u, by simpa using h1, h2⟩
theorem Vals.set {x : V} {u : Value} (r : RelV x u) : ∀ {xs : List V} {us : List Value} (i : Nat), Vals xs us → Vals (xs.set i x) (us.set i u)
  | _, _, _, .nil => .nil
  | _, _, 0, .cons _ t => .cons r t
  | _, _, i + 1, .cons q t => .cons q (Vals.set r i t)
theorem Vals.append : ∀ {xs ys : List V} {us ws : List Value}, Vals xs us → Vals ys ws → Vals (xs ++ ys) (us ++ ws)
  | _, _, _, _, .nil, s => s
  | _, _, _, _, .cons r t, s => .cons r (Vals.append t s)
theorem Vals.take : ∀ {xs : List V} {us : List Value} (n : Nat), Vals xs us → Vals (xs.take n) (us.take n)
  | _, _, 0, _ => .nil
  | _, _, _ + 1, .nil => .nil
  | _, _, n + 1, .cons r t => .cons r (Vals.take n t)
theorem Vals.drop : ∀ {xs : List V} {us : List Value} (n : Nat), Vals xs us → Vals (xs.drop n) (us.drop n)
  | _, _, 0, r => r
  | _, _, _ + 1, .nil => .nil
  | _, _, n + 1, .cons _ t => Vals.drop n t
def RelO : Option V → Option Value → Prop
  | some v, some u => RelV v u
  | none, none => True
  | _, _ => False
def KV {κ : Type} : List (κ × V) → List (κ × Value) → Prop := Paired fun (p : κ × V) (q : κ × Value) => p.1 = q.1 ∧ RelV p.2 q.2

/-- a key of a dict (00_mix): an int or a text -/
def kV : Key → V
  | .inl i => .int i
  | .inr x => .str x

/-- what stands at a tracked address -/
inductive HO where
  /-- a list -/
  | lst (xs : List V)
  /-- a tuple (never changes) -/
  | tup (xs : List V)
  /-- a dict whose keys are ints and texts; one whose keys are tuples of ints and texts (the empty one is both) -/
  | dK (kvs : List (Key × V)) | dT (kvs : List (List Key × V))
  /-- a set of ints: its members, its size -/
  | set (S : Int → Bool) (n : Nat)
  /-- an instance of the class at C, its dict at dx, its attributes -/
  | ins (C dx : Addr) (fs : List (Str × V))
  /-- the dict of the instance at x -/
  | own (x : Addr)
  /-- the dict of an exception -/
  | xd (fs : List (Str × V))
  /-- a bound method, f of x -/
  | met (f x : Addr)
  /-- a range object lo, lo + 1, .. below hi -/
  | rng (lo hi : Int)
  /-- a thing that is known to the object (the script; a dict while a loop walks it): read, never written while it is so -/
  | frz (o : Obj) (u : HO)
  /-- a code object's table -/
  | tbl (ps : Array Value)
  /-- any other thing, by what is true of its one object (a def of one's own: SetO a S n := HO.ext fun h => ..) -/
  | ext (φ : Heap → Prop)

abbrev Hp := Addr → Option HO
def upd (H : Hp) (a : Addr) (o : HO) : Hp := fun b => if b = a then some o else H b
theorem upd_same {H : Hp} {a : Addr} {o : HO} : upd H a o a = some o := by unfold upd; rw [if_pos rfl]
theorem upd_ne {H : Hp} {a b : Addr} {o : HO} (h : b ≠ a) : upd H a o b = H b := by unfold upd; rw [if_neg h]
/-- two objects of different content stand apart -/
theorem ne_of {H : Hp} {a b : Addr} {o u : HO} (h : H a = some o) (h' : H b = some u) (d : o ≠ u) : a ≠ b := by
  intro e; subst e; rw [h] at h'; exact d (Option.some.inj h')
theorem ne_of_none {H : Hp} {a b : Addr} {o : HO} (h : H a = some o) (h' : H b = none) : a ≠ b := by
  intro e; subst e; rw [h] at h'; cases h'

section
variable (P : Program) (w : World)
def ObjOk (H : Hp) (h : Heap) (a : Addr) : HO → Prop
  | .lst xs => xs.length ≤ sizeLine ∧ ∃ (its : List Value) (n : Nat), Vals xs its ∧ h.get? a = some { cls := .type "list", data := .seq its.toArray n }
  | .tup xs => xs.length ≤ sizeLine ∧ ∃ its : List Value, Vals xs its ∧ IsTup h a its.toArray
  | .dK kvs => kvs.length ≤ sizeLine ∧ (a == sysModules) = false ∧ ∃ vs, KV kvs vs ∧ h.DictOf (mixKind P w) a vs
  | .dT kvs => kvs.length ≤ sizeLine ∧ (a == sysModules) = false ∧ ∃ xs : List (List Key × Addr × Value),
      Paired (fun (p : List Key × V) (q : List Key × Addr × Value) => p.1 = q.1 ∧ H q.2.1 = some (.tup (p.1.map kV)) ∧ RelV p.2 q.2.2) kvs xs ∧
      ∃ o es ep, h.get? a = some o ∧ o.ExactDict ∧ o.data = .dict es ep ∧ es.toList = xs.map (entryOfKey (tupleKind (mixKind P w))) ∧ (xs.map (·.1)).Nodup
  | .set S n => h.SetOf (intKind P w) a S n
  | .ins C dx fs => H dx = some (.own a) ∧ fs.length ≤ 1000 ∧ dx ≠ a ∧ h.get? a = some (PySem.W.instObj C dx) ∧
      ∃ mA, h.Ns1 dx mA ∧ (∀ f, RelO (fs.lookup f) (mA f)) ∧ PySem.Within mA (fs.map (·.1))
  | .own _ => ∃ o, h.get? a = some o
  | .xd fs => ∃ mA, h.Ns1 a mA ∧ ∀ f, RelO (fs.lookup f) (mA f)
  | .rng lo hi => ∃ t u v, h.get? a = some { cls := .type "range", data := .fields #[.int lo t, .int hi u, .int 1 v] }
  | .frz o u => h.get? a = some o ∧ ObjOk H h a u
  | .tbl ps => h.get? a = some { cls := .none, data := .fields ps }
  | .met f x => h.get? a = some (PySem.W.methodObj (.ref f) (.ref x))
  | .ext φ => φ h ∧ (∃ o, h.get? a = some o) ∧ ∀ h1 h2 : Heap, φ h1 → (∀ o, h1.get? a = some o → h2.get? a = some o) → φ h2
/-- the abstract heap is held -/
def HOk (H : Hp) (h : Heap) : Prop := ∀ a o, H a = some o → ObjOk P w H h a o
end

section
variable {P : Program} {w : World} {H H' : Hp} {h h' : Heap} {a : Addr} {o : HO}
theorem ObjOk.lt (x : ObjOk P w H h a o) : a < h.objs.size := by
  cases o with
  | lst xs => obtain ⟨_, _, _, _, e⟩ := x; exact Heap.lt_size e
  | tup xs => obtain ⟨_, _, _, p⟩ := x; exact p.lt
  | dK kvs => obtain ⟨_, _, _, _, o, _, _, e, _⟩ := x; exact Heap.lt_size e
  | dT kvs => obtain ⟨_, _, _, _, o, _, _, e, _⟩ := x; exact Heap.lt_size e
  | set S n => obtain ⟨o, _, _, _, e, _⟩ := x; exact Heap.lt_size e
  | ins C dx fs => obtain ⟨_, _, _, e, _⟩ := x; exact Heap.lt_size e
  | own y => obtain ⟨_, e⟩ := x; exact Heap.lt_size e
  | xd fs => obtain ⟨_, ⟨_, _, _, e, _⟩, _⟩ := x; exact Heap.lt_size e
  | rng lo hi => obtain ⟨_, _, _, e⟩ := x; exact Heap.lt_size e
  | frz ob u => obtain ⟨e, _⟩ := x; exact Heap.lt_size e
  | tbl ps => exact Heap.lt_size (show h.get? a = some _ from x)
  | met f y => exact Heap.lt_size (show h.get? a = some _ from x)
  | ext φ => obtain ⟨_, ⟨_, e⟩, _⟩ := x; exact Heap.lt_size e
theorem Paired.mapP {α β : Type} {F G : α → β → Prop} : ∀ {l₁ : List α} {l₂ : List β}, Paired F l₁ l₂ → (∀ a b, F a b → G a b) → Paired G l₁ l₂
  | _, _, .nil, _ => .nil
  | _, _, .cons r t, f => .cons (f _ _ r) (Paired.mapP t f)
/-- what an object's description leans on: its own object, its own dict, the tuples -/
theorem ObjOk.stay (x : ObjOk P w H h a o) (k : ∀ b u, (b = a ∨ H b = some (.own a)) → h.get? b = some u → h'.get? b = some u)
    (ho : ∀ b, H b = some (.own a) → H' b = some (.own a)) (ht : ∀ b xs, H b = some (.tup xs) → H' b = some (.tup xs)) : ObjOk P w H' h' a o := by
  induction o with
  | lst xs => obtain ⟨z, its, n, r, e⟩ := x; exact ⟨z, its, n, r, k _ _ (.inl rfl) e⟩
  | tup xs => obtain ⟨z, its, r, ob, e, c⟩ := x; exact ⟨z, its, r, ob, k _ _ (.inl rfl) e, c⟩
  | dK kvs => obtain ⟨z, y, vs, r, ob, es, ep, e, c⟩ := x; exact ⟨z, y, vs, r, ob, es, ep, k _ _ (.inl rfl) e, c⟩
  | dT kvs =>
    obtain ⟨z, y, xs, r, ob, es, ep, e, c⟩ := x
    exact ⟨z, y, xs, Paired.mapP r fun p q z => ⟨z.1, ht _ _ z.2.1, z.2.2⟩, ob, es, ep, k _ _ (.inl rfl) e, c⟩
  | set S n => obtain ⟨ob, es, ep, t, e, c⟩ := x; exact ⟨ob, es, ep, t, k _ _ (.inl rfl) e, c⟩
  | ins C dx fs =>
    obtain ⟨d, z, ne, e, mA, ⟨od, es, ep, e2, c⟩, r⟩ := x
    exact ⟨ho _ d, z, ne, k _ _ (.inl rfl) e, mA, ⟨od, es, ep, k _ _ (.inr d) e2, c⟩, r⟩
  | own y => obtain ⟨ob, e⟩ := x; exact ⟨ob, k _ _ (.inl rfl) e⟩
  | xd fs => obtain ⟨mA, ⟨od, es, ep, e, c⟩, r⟩ := x; exact ⟨mA, ⟨od, es, ep, k _ _ (.inl rfl) e, c⟩, r⟩
  | rng lo hi => obtain ⟨t, u, v, e⟩ := x; exact ⟨t, u, v, k _ _ (.inl rfl) e⟩
  | frz ob u ih => obtain ⟨e, q⟩ := x; exact ⟨k _ _ (.inl rfl) e, ih q⟩
  | tbl ps =>
    have e : h.get? a = some { cls := .none, data := .fields ps } := x
    show h'.get? a = some { cls := .none, data := .fields ps }
    exact k a _ (.inl rfl) e
  | met f y =>
    have e : h.get? a = some (PySem.W.methodObj (.ref f) (.ref y)) := x
    show h'.get? a = some (PySem.W.methodObj (.ref f) (.ref y))
    exact k a _ (.inl rfl) e
  | ext φ => obtain ⟨p, ⟨o, e⟩, st⟩ := x; exact ⟨st _ _ p fun o q => k _ _ (.inl rfl) q, ⟨o, k _ _ (.inl rfl) e⟩, st⟩
theorem HOk.lt (x : HOk P w H h) (e : H a = some o) : a < h.objs.size := (x a o e).lt
theorem HOk.fresh (x : HOk P w H h) (e : h.objs.size ≤ a) : H a = none := by
  cases q : H a with
  | none => rfl
  | some u => exact absurd (Nat.lt_of_lt_of_le (x.lt q) e) (Nat.lt_irrefl _)
/-- every object of the heap is kept -/
theorem HOk.kept (x : HOk P w H h) (k : ∀ b u, h.get? b = some u → h'.get? b = some u) : HOk P w H h' := fun a o e =>
  (x a o e).stay (fun b u _ q => k b u q) (fun _ q => q) fun _ _ q => q
/-- a new object is laid and tracked -/
theorem HOk.laid (x : HOk P w H h) (k : ∀ b u, h.get? b = some u → h'.get? b = some u) (hp : h.objs.size ≤ a) (new : ObjOk P w (upd H a o) h' a o) : HOk P w (upd H a o) h' := fun b u e => by
  have hn := x.fresh hp
  by_cases hb : b = a
  · subst hb; rw [upd_same] at e; cases e; exact new
  · rw [upd_ne hb] at e
    exact (x b u e).stay (fun c v _ q => k c v q) (fun c q => by rw [upd_ne (ne_of_none q hn)]; exact q) fun c xs q => by rw [upd_ne (ne_of_none q hn)]; exact q
end

/-- what may be read as u: it is u, or a known u -/
def Rd (H : Hp) (a : Addr) (u : HO) : Prop := H a = some u ∨ ∃ o, H a = some (.frz o u)
theorem Rd.ok {P : Program} {w : World} {H : Hp} {h : Heap} {a : Addr} {u : HO} (r : Rd H a u) (x : HOk P w H h) : ObjOk P w H h a u := by
  rcases r with r | ⟨o, r⟩
  · exact x a u r
  · obtain ⟨_, q⟩ := x a _ r
    exact q
/-- what may be written -/
def Mut : Option HO → Prop
  | some (.lst _) => True
  | some (.dK _) => True
  | some (.dT _) => True
  | some (.set _ _) => True
  | some (.ins _ _ _) => True
  | some (.ext _) => True
  | _ => False
section
variable {P : Program} {w : World} {H : Hp} {h h' : Heap} {x e : Addr} {o' : HO}
/-- the object at e is changed: x itself, or the dict of the instance x -/
theorem HOk.write (ok : HOk P w H h) (mu : Mut (H x)) (he : e = x ∨ H e = some (.own x)) (k : ∀ b u, b ≠ e → h.get? b = some u → h'.get? b = some u) (heo : ∃ u, h'.get? e = some u)
    (new : ObjOk P w (upd H x o') h' x o') : HOk P w (upd H x o') h' := fun b u q => by
  have nown : ∀ c y, H c = some (.own y) → c ≠ x := fun c y r z => by subst z; rw [r] at mu; exact mu
  have ntup : ∀ c xs, H c = some (.tup xs) → c ≠ x := fun c xs r z => by subst z; rw [r] at mu; exact mu
  by_cases hb : b = x
  · subst hb; rw [upd_same] at q; cases q; exact new
  · rw [upd_ne hb] at q
    by_cases hbe : b = e
    · have q' : H b = some (.own x) := by
        rcases he with z | z
        · exact absurd (hbe.trans z) hb
        · rw [hbe]; exact z
      rw [q] at q'; cases q'
      obtain ⟨v, hv⟩ := heo
      exact ⟨v, by rw [hbe]; exact hv⟩
    · refine (ok b u q).stay (fun c v hc r => k c v ?_ r) (fun c r => by rw [upd_ne (nown c b r)]; exact r) fun c xs r => by rw [upd_ne (ntup c xs r)]; exact r
      rcases hc with rfl | hc
      · exact hbe
      · rintro rfl
        rcases he with z | z
        · exact nown c b hc z
        · rw [hc] at z; cases z; exact hb rfl
end

/-! ### kept unless tracked; of the frames at fs (the callers') the slots may change (an exception that passes writes there); of the records at ex (iterators) nothing is said -/
structure Un (fs ex : List Addr) (H H' : Hp) (h h' : Heap) : Prop where
  keep : ∀ b o, h.get? b = some o → H b = none → b ∉ fs → b ∉ ex → h'.get? b = some o
  slot : ∀ b o, h.get? b = some o → H b = none → b ∈ fs → b ∉ ex → ∃ sl, h'.get? b = some { o with slots := sl }
  free : ∀ b o, h.get? b = some o → H b = none → b ∉ ex → H' b = none
  there : ∀ b o, h.get? b = some o → b ∉ ex → ∃ o', h'.get? b = some o'
  tups : ∀ b xs, H b = some (.tup xs) → H' b = some (.tup xs)
  frzs : ∀ b o u, H b = some (.frz o u) → H' b = some (.frz o u)
  tbls : ∀ b ps, H b = some (.tbl ps) → ∃ more, H' b = some (.tbl (ps ++ more))
section
variable {fs fs' ex ex' : List Addr} {H H1 H2 : Hp} {h h1 h2 h' : Heap} {a x e : Addr} {o : HO}
theorem Un.any (u : Un fs ex H H1 h h1) {b : Addr} {ob : Obj} (q : h.get? b = some ob) (n : H b = none) (hx : b ∉ ex) : ∃ sl, h1.get? b = some { ob with slots := sl } := by
  by_cases hb : b ∈ fs
  · exact u.slot b ob q n hb hx
  · exact ⟨ob.slots, u.keep b ob q n hb hx⟩
theorem Un.kept (k : ∀ b u, h.get? b = some u → h'.get? b = some u) : Un fs ex H H h h' :=
  ⟨fun b ob q _ _ _ => k b ob q, fun b ob q _ _ _ => ⟨ob.slots, k b ob q⟩, fun _ _ _ n _ => n, fun b ob q _ => ⟨ob, k b ob q⟩, fun _ _ q => q, fun _ _ _ q => q, fun _ ps q => ⟨#[], by rw [q]; simp⟩⟩
theorem Un.refl : Un fs ex H H h h := Un.kept fun _ _ q => q
theorem Un.laid (k : ∀ b u, h.get? b = some u → h'.get? b = some u) (hp : h.objs.size ≤ a) (hn : H a = none) : Un fs ex H (upd H a o) h h' where
  keep := fun b u q _ _ _ => k b u q
  slot := fun b u q _ _ _ => ⟨u.slots, k b u q⟩
  free := fun b u q n _ => by rw [upd_ne (Nat.ne_of_lt (Nat.lt_of_lt_of_le (Heap.lt_size q) hp))]; exact n
  there := fun b u q _ => ⟨u, k b u q⟩
  tups := fun b xs q => by rw [upd_ne (ne_of_none q hn)]; exact q
  frzs := fun b u xs q => by rw [upd_ne (ne_of_none q hn)]; exact q
  tbls := fun b ps q => ⟨#[], by rw [upd_ne (ne_of_none q hn), q]; simp⟩
theorem Un.write (mu : Mut (H x)) (he : e = x ∨ H e = some (.own x)) (k : ∀ b u, b ≠ e → h.get? b = some u → h'.get? b = some u) (heo : ∃ u, h'.get? e = some u) : Un fs ex H (upd H x o) h h' := by
  have hx : ∀ b, H b = none → b ≠ x := fun b n z => by subst z; rw [n] at mu; exact mu
  have hb : ∀ b, H b = none → b ≠ e := fun b n z => by
    subst z
    rcases he with r | r
    · exact hx b n r
    · rw [n] at r; cases r
  have hm : ∀ b u, H b = some u → ¬ Mut (some u) → b ≠ x := fun b u q nm z => by subst z; rw [q] at mu; exact nm mu
  refine ⟨fun b u q n _ _ => k b u (hb b n) q, fun b u q n _ _ => ⟨u.slots, k b u (hb b n) q⟩, fun b u q n _ => by rw [upd_ne (hx b n)]; exact n, fun b u q _ => ?_,
    fun b xs q => by rw [upd_ne (hm b _ q fun z => z)]; exact q, fun b u xs q => by rw [upd_ne (hm b _ q fun z => z)]; exact q, fun b ps q => ⟨#[], by rw [upd_ne (hm b _ q fun z => z), q]; simp⟩⟩
  by_cases hbe : b = e
  · subst hbe; exact heo
  · exact ⟨u, k b u hbe q⟩
end

/-! ### the heap without what is tracked -/
def trk (h : Heap) (H : Hp) : List Addr := (List.range h.objs.size).filter fun a => (H a).isSome
def hidT (h : Heap) (H : Hp) : Heap := PySem.W.hideAll h (trk h H)
theorem hidT_size (h : Heap) (H : Hp) : (hidT h H).objs.size = h.objs.size := PySem.W.hideAll_size _ _
theorem hidT_get {h : Heap} {H : Hp} {b : Addr} {o : Obj} (e : h.get? b = some o) (n : H b = none) : (hidT h H).get? b = some o :=
  PySem.W.hideAll_get _ e fun hm => by
    have q : (H b).isSome = true := (List.mem_filter.mp hm).2
    rw [n] at q; simp at q
theorem of_hidT {h : Heap} {H : Hp} {b : Addr} {o : Obj} (e : (hidT h H).get? b = some o) : h.get? b = some o ∧ H b = none := by
  have e' : h.get? b = some o := PySem.W.of_hideAll (trk h H) e
  refine ⟨e', ?_⟩
  cases q : H b with
  | none => rfl
  | some x =>
    have hm : b ∈ trk h H := List.mem_filter.mpr ⟨List.mem_range.mpr (Heap.lt_size e'), by simp [q]⟩
    have z : (hidT h H).get? b = none := PySem.W.hideAll_none (trk h H) hm
    rw [z] at e; cases e

/-! ### OpenK's ledger, filled with every new object but one -/
end L2

namespace L2
open PySem PySem.Spec PyProof.Rows

/-- the module's facts, over the base: the heap at the law's entry without what is tracked there -/
structure Mod (K : PySem.W.Frag) (mg : Str → Option Value) (base : Heap) : Prop where
  kin : K.In base
  glob : base.Ns mainGlobals mg
  blt : ∃ mb, base.Ns builtinsNs mb ∧ ∀ x : Str, x ≠ "__name__" → mb x = bootBuiltins x
  nolimit : base.NoLimit

/-- the context: a def's body (or a comprehension's block) running. base: fixed through the whole law; s₀, H₀: the entry; outer: the frames whose slots others may change (a def's callers); stack: all frames that run;
   ex: iterators that were made ahead of the entry and are walked here (a comprehension's); fn: the names whose cells were made at the entry (a def: all; a comprehension's block: its own); calm: not within an except suite; pn: pins that every state bears; xe: what is wanted of an exception that leaves the code -/
structure Cx where
  prog : Program
  w : World
  K : PySem.W.Frag
  mg : Str → Option Value
  base : Heap
  A : Around
  N : List Str
  s₀ : Shared
  H₀ : Hp
  env : Env
  outer : List Env
  stack : List Env
  ex : List Addr
  fn : Str → Bool
  calm : Bool
  pn : List (Addr × Obj)
  xe : Value → Shared → Prop
/-- the callers' frames -/
def frs (l : List Env) : List Addr := l.filterMap (·.frame)
abbrev Cx.fs (X : Cx) : List Addr := frs X.outer

def Vis (sc : Scope) (x : Str) : Prop := sc.names.lookup x = some .local ∨ sc.names.lookup x = some .cell ∨ sc.names.lookup x = some .free
def Loc (sc : Scope) (x : Str) : Prop := sc.names.lookup x = some .local ∨ sc.names.lookup x = some .cell
def Look (env : Env) (h : Heap) (m : Str → Option Value) (x : Str) (u : Value) : Prop :=
  (env.kindOf x = some .local ∧ m x = some u) ∨ ((env.kindOf x = some .cell ∨ env.kindOf x = some .free) ∧ ∃ c, env.cells.lookup x = some c ∧ h.IsCell c (some u))

structure Cx.Ok (X : Cx) : Prop where
  mod : Mod X.K X.mg X.base
  kind : X.env.scope.kind = .function
  glob : X.env.globals = mainGlobals
  blt : X.env.builtins = builtinsNs
  above : X.s₀.heap.objs.size ≤ X.env.locals
  inj : ∀ x y c, X.env.cells.lookup x = some c → X.env.cells.lookup y = some c → x = y
  has : ∀ x, (X.env.kindOf x = some .cell ∨ X.env.kindOf x = some .free) → ∃ c, X.env.cells.lookup x = some c
  cab : ∀ x c, X.fn x = true → X.env.cells.lookup x = some c → X.s₀.heap.objs.size ≤ c
  hd : X.calm = true → X.A.handled = none
  frames : X.A.frames = some X.stack
  stk : X.stack = X.outer ∨ (X.stack = X.env :: X.outer ∧ X.env.frame = some X.env.locals)
  exf : ∀ b ∈ X.ex, b ≠ X.env.locals ∧ ∀ x c, X.env.cells.lookup x = some c → c ≠ b
  bs : ∀ b o, X.base.get? b = some o → X.s₀.heap.get? b = some o ∧ X.H₀ b = none
  bsz : X.base.objs.size ≤ X.s₀.heap.objs.size
  noex : ∀ b o, X.base.get? b = some o → b ∉ X.ex
  exfs : ∀ b ∈ X.ex, b ∉ X.fs
  funs : X.s₀.heap.FunFrames X.base X.outer
  frf : ∀ b ∈ X.fs, X.H₀ b = none

structure Inv (X : Cx) (pins : List (Addr × Obj)) (σ : List (Option V)) (H : Hp) (s : Shared) : Prop where
  ok : X.Ok
  os : s.os = X.s₀.os
  bare : AllBare s.gens
  base : Un X.fs X.ex X.H₀ H X.s₀.heap s.heap
  loc : ∃ m, s.heap.Ns X.env.locals m ∧ ∀ (i : Nat) (x : Str) (v : V), X.N[i]? = some x → σ[i]? = some (some v) → Vis X.env.scope x → ∃ u, RelV v u ∧ Look X.env s.heap m x u
  cell : ∀ x c, X.env.cells.lookup x = some c → ∃ v, s.heap.IsCell c v
  free : H X.env.locals = none
  freeC : ∀ x c, X.env.cells.lookup x = some c → H c = none
  pin : ∀ p ∈ X.pn ++ pins, s.heap.get? p.1 = some p.2 ∧ H p.1 = none ∧ p.1 ≠ X.env.locals ∧ p.1 ∉ X.fs ∧ ∀ v, p.2.data ≠ .cell v
  hok : HOk X.prog X.w H s.heap
  len : σ.length = X.N.length

section
variable {X : Cx} {pins : List (Addr × Obj)} {σ : List (Option V)} {H H' : Hp} {s : Shared} {h' : Heap}

theorem Cx.Ok.nofr (ok : X.Ok) {b : Addr} {o : Obj} (e : X.base.get? b = some o) : b ∉ X.fs := fun hb => by
  have := (ok.funs.mem hb).1
  rw [e] at this; cases this
theorem Inv.bs (I : Inv X pins σ H s) : ∀ b o, X.base.get? b = some o → s.heap.get? b = some o ∧ H b = none := fun b o e =>
  ⟨I.base.keep b o (I.ok.bs b o e).1 (I.ok.bs b o e).2 (I.ok.nofr e) (I.ok.noex b o e), I.base.free b o (I.ok.bs b o e).1 (I.ok.bs b o e).2 (I.ok.noex b o e)⟩
theorem Inv.bk (I : Inv X pins σ H s) : ∀ b o, X.base.get? b = some o → s.heap.get? b = some o := fun b o e => (I.bs b o e).1
theorem Inv.mod (I : Inv X pins σ H s) : Mod X.K X.mg X.base := I.ok.mod
theorem Inv.kIn (I : Inv X pins σ H s) : X.K.In s.heap := I.ok.mod.kin.keeps I.bk
theorem Inv.lt (I : Inv X pins σ H s) : X.env.locals < s.heap.objs.size := let ⟨_, hn, _⟩ := I.loc; hn.lt
theorem Inv.sz (I : Inv X pins σ H s) : X.s₀.heap.objs.size ≤ s.heap.objs.size := Nat.le_trans I.ok.above (Nat.le_of_lt I.lt)
theorem Inv.nofs (I : Inv X pins σ H s) {a : Addr} (h : s.heap.objs.size ≤ a) : a ∉ X.fs := fun hb => by
  obtain ⟨_, o, ho, _⟩ := I.ok.funs.mem hb
  exact absurd (Nat.lt_of_lt_of_le (Heap.lt_size ho) (Nat.le_trans I.sz h)) (Nat.lt_irrefl _)
theorem Inv.cne (I : Inv X pins σ H s) : ∀ x c, X.env.cells.lookup x = some c → c ≠ X.env.locals := fun x c e z => by
  obtain ⟨v, o, ho, hd⟩ := I.cell x c e
  obtain ⟨m, ⟨o', es, ep, ho', hd', _⟩, _⟩ := I.loc
  rw [z, ho'] at ho; cases ho; rw [hd'] at hd; cases hd
theorem Inv.funs (I : Inv X pins σ H s) : s.heap.FunFrames X.base X.outer := by
  have all : ∀ (l : List Env), (∀ b ∈ frs l, b ∈ X.fs) → X.s₀.heap.FunFrames X.base l → s.heap.FunFrames X.base l := by
    intro l
    induction l with
    | nil => intro _ _; trivial
    | cons env r ih =>
      intro hs hl
      obtain ⟨hk, ⟨L, o, hf, hn, ho, hd⟩, hr⟩ := hl
      have hL : L ∈ X.fs := hs L (by unfold frs; rw [List.filterMap_cons, hf]; exact List.mem_cons_self)
      obtain ⟨sl, e⟩ := I.base.slot L o ho (I.ok.frf L hL) hL fun z => I.ok.exfs L z hL
      exact ⟨hk, ⟨L, _, hf, hn, e, hd⟩, ih (fun b hb => hs b (by unfold frs; rw [List.filterMap_cons, hf]; exact List.mem_cons_of_mem _ hb)) hr⟩
  exact all X.outer (fun _ hb => hb) I.ok.funs

/-- the frames that run, for a call -/
theorem Inv.stack (I : Inv X pins σ H s) : s.heap.FunFrames X.base X.stack := by
  rcases I.ok.stk with e | ⟨e, hf⟩
  · rw [e]; exact I.funs
  · rw [e]
    obtain ⟨m, hn, _⟩ := I.loc
    refine .cons (by rw [I.ok.kind]; decide) hf hn ?_ I.funs
    exact Heap.get?_none_of_le (Nat.le_trans I.ok.bsz I.ok.above)
theorem Inv.stkSub (I : Inv X pins σ H s) : ∀ b ∈ frs X.stack, b ∈ X.env.locals :: X.fs := fun b hb => by
  rcases I.ok.stk with e | ⟨e, hf⟩
  · rw [e] at hb; exact List.mem_cons_of_mem _ hb
  · rw [e] at hb
    unfold frs at hb
    rw [List.filterMap_cons, hf] at hb
    exact hb
theorem Inv.stkFree (I : Inv X pins σ H s) : ∀ b ∈ frs X.stack, H b = none := fun b hb => by
  rcases List.mem_cons.mp (I.stkSub b hb) with e | hb
  · rw [e]; exact I.free
  · obtain ⟨_, o, ho, _⟩ := I.ok.funs.mem hb
    exact I.base.free b o ho (I.ok.frf b hb) fun z => I.ok.exfs b z hb

/-- THE STEP: the untracked objects but the frame and the records at ch are kept (the callers' frames up to slots), the frame's map is kept, the new abstract heap is held -/
theorem Inv.step {g' : Array GenState} {t' : Nat} {d' : Drawn} {ch : List Addr} (I : Inv X pins σ H s)
    (hch : ∀ b ∈ ch, (b ∈ X.ex ∨ X.s₀.heap.objs.size ≤ b) ∧ b ≠ X.env.locals ∧ (∀ x c, X.env.cells.lookup x = some c → c ≠ b) ∧ ∀ p ∈ X.pn ++ pins, p.1 ≠ b)
    (keep : ∀ b o, b ≠ X.env.locals → b ∉ X.fs → b ∉ ch → s.heap.get? b = some o → H b = none → h'.get? b = some o)
    (slot : ∀ b o, b ≠ X.env.locals → b ∈ X.fs → b ∉ ch → s.heap.get? b = some o → H b = none → ∃ sl, h'.get? b = some { o with slots := sl }) (free : ∀ b o, b ∉ ch → s.heap.get? b = some o → H b = none → H' b = none)
    (there : ∀ b o, b ∉ ch → s.heap.get? b = some o → ∃ o', h'.get? b = some o')
    (tups : ∀ b xs, H b = some (.tup xs) → H' b = some (.tup xs)) (frzs : ∀ b o u, H b = some (.frz o u) → H' b = some (.frz o u)) (tbls : ∀ b ps, H b = some (.tbl ps) → ∃ more, H' b = some (.tbl (ps ++ more)))
    (ns : ∀ m, s.heap.Ns X.env.locals m → h'.Ns X.env.locals m) (hok : HOk X.prog X.w H' h') (hg : AllBare g') :
    Inv X pins σ H' { s with heap := h', gens := g', drawn := d', toks := t' } := by
  have neL : ∀ b o, X.s₀.heap.get? b = some o → b ≠ X.env.locals := fun b o e => Nat.ne_of_lt (Nat.lt_of_lt_of_le (Heap.lt_size e) I.ok.above)
  have neC : ∀ b o, X.s₀.heap.get? b = some o → b ∉ X.ex → b ∉ ch := fun b o e hx hb => by
    rcases (hch b hb).1 with z | z
    · exact hx z
    · exact absurd (Nat.lt_of_lt_of_le (Heap.lt_size e) z) (Nat.lt_irrefl _)
  have cellK : ∀ x c, X.env.cells.lookup x = some c → ∀ v, s.heap.IsCell c v → h'.IsCell c v := fun x c e v ⟨o, ho, hd⟩ => by
    have nch : c ∉ ch := fun z => (hch c z).2.2.1 x c e rfl
    by_cases hc : c ∈ X.fs
    · obtain ⟨sl, q⟩ := slot c o (I.cne x c e) hc nch ho (I.freeC x c e)
      exact ⟨_, q, hd⟩
    · exact ⟨o, keep c o (I.cne x c e) hc nch ho (I.freeC x c e), hd⟩
  refine ⟨I.ok, I.os, hg, ⟨fun b o e n hb hx => ?_, fun b o e n hb hx => ?_, fun b o e n hx => ?_, fun b o e hx => ?_, fun b xs e => tups b xs (I.base.tups b xs e), fun b o xs e => frzs b o xs (I.base.frzs b o xs e), fun b ps e => ?_⟩, ?_, fun x c e => ?_, ?_, fun x c e => ?_, fun p hp => ?_, hok, I.len⟩
  · exact keep b o (neL b o e) hb (neC b o e hx) (I.base.keep b o e n hb hx) (I.base.free b o e n hx)
  · obtain ⟨sl, e1⟩ := I.base.slot b o e n hb hx
    obtain ⟨sl', e2⟩ := slot b _ (neL b o e) hb (neC b o e hx) e1 (I.base.free b o e n hx)
    exact ⟨sl', e2⟩
  · obtain ⟨o', e1⟩ := I.base.there b o e hx
    exact free b o' (neC b o e hx) e1 (I.base.free b o e n hx)
  · obtain ⟨o', e1⟩ := I.base.there b o e hx
    exact there b o' (neC b o e hx) e1
  · obtain ⟨m1, e1⟩ := I.base.tbls b ps e
    obtain ⟨m2, e2⟩ := tbls b _ e1
    exact ⟨m1 ++ m2, by rw [e2, Array.append_assoc]⟩
  · obtain ⟨m, hn, hl⟩ := I.loc
    refine ⟨m, ns m hn, fun i x v e1 e2 e3 => ?_⟩
    obtain ⟨u, r, l⟩ := hl i x v e1 e2 e3
    refine ⟨u, r, ?_⟩
    rcases l with l | ⟨k, c, e, z⟩
    · exact .inl l
    · exact .inr ⟨k, c, e, cellK x c e _ z⟩
  · obtain ⟨v, z⟩ := I.cell x c e
    exact ⟨v, cellK x c e v z⟩
  · obtain ⟨m, ⟨o, _, _, ho, _⟩, _⟩ := I.loc
    exact free _ o (fun z => (hch _ z).2.1 rfl) ho I.free
  · obtain ⟨v, o, ho, hd⟩ := I.cell x c e
    exact free c o (fun z => (hch c z).2.2.1 x c e rfl) ho (I.freeC x c e)
  · obtain ⟨e, n, ne, nf, d⟩ := I.pin p hp
    have nch : p.1 ∉ ch := fun z => (hch p.1 z).2.2.2 p hp rfl
    exact ⟨keep p.1 p.2 ne nf nch e n, free p.1 p.2 nch e n, ne, nf, d⟩
/-- .. where the frame's own object is kept too -/
theorem Inv.un {t' : Nat} (I : Inv X pins σ H s) (u : Un X.fs [] H H' s.heap h') (hok : HOk X.prog X.w H' h') : Inv X pins σ H' { s with heap := h', toks := t' } := by
  obtain ⟨m, ⟨o, es, ep, ho, r⟩, _⟩ := id I.loc
  obtain ⟨sl, hL⟩ := u.any ho I.free (by simp)
  exact I.step (g' := s.gens) (d' := s.drawn) (ch := []) (fun _ z => nomatch z) (fun b o _ hb _ e n => u.keep b o e n hb (by simp)) (fun b o _ hb _ e n => u.slot b o e n hb (by simp)) (fun b o _ e n => u.free b o e n (by simp)) (fun b o _ e => u.there b o e (by simp)) u.tups u.frzs u.tbls (fun m' hm => by
    obtain ⟨o', es', ep', ho', r'⟩ := hm
    rw [ho] at ho'; cases ho'
    exact ⟨_, es', ep', hL, r'⟩) hok I.bare
/-- behind a call (or a comprehension's block): the slots of this frame may have changed too, the records at ch may have turned -/
theorem Inv.call {g' : Array GenState} {t' : Nat} {d' : Drawn} {ch : List Addr} (I : Inv X pins σ H s) (u : Un (frs X.stack) ch H H' s.heap h') (hok : HOk X.prog X.w H' h') (hg : AllBare g')
    (hch : ∀ b ∈ ch, (b ∈ X.ex ∨ X.s₀.heap.objs.size ≤ b) ∧ b ≠ X.env.locals ∧ (∀ x c, X.env.cells.lookup x = some c → c ≠ b) ∧ ∀ p ∈ X.pn ++ pins, p.1 ≠ b) :
    Inv X pins σ H' { s with heap := h', gens := g', drawn := d', toks := t' } := by
  obtain ⟨m, ⟨o, es, ep, ho, r⟩, _⟩ := id I.loc
  obtain ⟨sl, hL⟩ := u.any ho I.free fun z => (hch _ z).2.1 rfl
  exact I.step (ch := ch) hch (fun b o hL hb hc e n => u.keep b o e n (fun z => (List.mem_cons.mp (I.stkSub b z)).elim hL hb) hc) (fun b o _ _ hc e n => u.any e n hc) (fun b o hc e n => u.free b o e n hc) (fun b o hc e => u.there b o e hc) u.tups u.frzs u.tbls (fun m' hm => by
    obtain ⟨o', es', ep', ho', r'⟩ := hm
    rw [ho] at ho'; cases ho'
    exact ⟨_, es', ep', hL, r'⟩) hok hg
/-- an untracked record of ours (an iterator) has turned -/
theorem Inv.turned {t' : Nat} {it : Addr} (I : Inv X pins σ H s) (k : ∀ b o, b ≠ it → s.heap.get? b = some o → h'.get? b = some o) (hn : H it = none) (hL : it ≠ X.env.locals)
    (h1 : it ∈ X.ex ∨ X.s₀.heap.objs.size ≤ it) (h2 : ∀ x c, X.env.cells.lookup x = some c → c ≠ it) (h3 : ∀ p ∈ X.pn ++ pins, p.1 ≠ it) : Inv X pins σ H { s with heap := h', toks := t' } := by
  have nit : ∀ b u, H b = some u → b ≠ it := fun b u e z => by rw [z, hn] at e; cases e
  refine I.step (g' := s.gens) (d' := s.drawn) (ch := [it]) (fun b hb => ?_) (fun b o _ _ hc e _ => k b o (fun z => hc (by simp [z])) e) (fun b o _ _ hc e _ => ⟨o.slots, k b o (fun z => hc (by simp [z])) e⟩) (fun _ _ _ _ n => n)
    (fun b o hc e => ⟨o, k b o (fun z => hc (by simp [z])) e⟩) (fun _ _ e => e) (fun _ _ _ e => e) (fun b ps e => ⟨#[], by rw [e]; simp⟩) (fun m hm => ?_) (fun b u e => ?_) I.bare
  · have e : b = it := by simpa using hb
    subst e
    exact ⟨h1, hL, h2, h3⟩
  · obtain ⟨o, es, ep, ho, r⟩ := hm
    exact ⟨o, es, ep, k _ o (Ne.symm hL) ho, r⟩
  · refine (I.hok b u e).stay (fun c v hc q => k c v ?_ q) (fun _ q => q) fun _ _ q => q
    rcases hc with z | z
    · rw [z]; exact nit b u e
    · exact nit c _ z
theorem Inv.tok (I : Inv X pins σ H s) (t : Nat) : Inv X pins σ H { s with toks := t } := I.un (h' := s.heap) (t' := t) Un.refl I.hok
/-- all objects kept -/
theorem Inv.kept {t' : Nat} (I : Inv X pins σ H s) (k : ∀ b u, s.heap.get? b = some u → h'.get? b = some u) : Inv X pins σ H { s with heap := h', toks := t' } := I.un (Un.kept k) (I.hok.kept k)
/-- a new object laid and tracked -/
theorem Inv.laid {a : Addr} {o : HO} {t' : Nat} (I : Inv X pins σ H s) (k : ∀ b u, s.heap.get? b = some u → h'.get? b = some u) (hp : s.heap.objs.size ≤ a) (new : ObjOk X.prog X.w (upd H a o) h' a o) :
    Inv X pins σ (upd H a o) { s with heap := h', toks := t' } := I.un (Un.laid k hp (I.hok.fresh hp)) (I.hok.laid k hp new)
/-- an object written -/
theorem Inv.write {x e : Addr} {o : HO} {t' : Nat} (I : Inv X pins σ H s) (mu : Mut (H x)) (he : e = x ∨ H e = some (.own x)) (k : ∀ b u, b ≠ e → s.heap.get? b = some u → h'.get? b = some u) (heo : ∃ u, h'.get? e = some u)
    (new : ObjOk X.prog X.w (upd H x o) h' x o) : Inv X pins σ (upd H x o) { s with heap := h', toks := t' } := I.un (Un.write mu he k heo) (I.hok.write mu he k heo new)
theorem Inv.pins_of {pins' : List (Addr × Obj)} (I : Inv X pins σ H s) (h : ∀ p ∈ pins', s.heap.get? p.1 = some p.2 ∧ H p.1 = none ∧ p.1 ≠ X.env.locals ∧ p.1 ∉ X.fs ∧ ∀ v, p.2.data ≠ .cell v) : Inv X pins' σ H s :=
  ⟨I.ok, I.os, I.bare, I.base, I.loc, I.cell, I.free, I.freeC, fun p hp => (List.mem_append.mp hp).elim (fun z => I.pin p (List.mem_append_left _ z)) (h p), I.hok, I.len⟩

theorem nodup_ix {N : List Str} (hN : N.Nodup) {i j : Nat} {x : Str} (a : N[i]? = some x) (b : N[j]? = some x) : i = j := by
  obtain ⟨h1, e1⟩ := List.getElem?_eq_some_iff.mp a
  obtain ⟨h2, e2⟩ := List.getElem?_eq_some_iff.mp b
  exact (List.getElem_inj hN).mp (e1.trans e2.symm)

/-- a name is stored; what changed -/
theorem store_ok2 {M : Model} {A : Around} {E : Value → Shared → Prop} {i : Nat} {x : Str} {v : V} {u : Value} {Q : Unit → Shared → Prop} (I : Inv X pins σ H s) (hN : X.N.Nodup) (hi : X.N[i]? = some x) (hx : Loc X.env.scope x) (r : RelV v u)
    (h : ∀ s', Inv X pins (σ.set i (some v)) H s' → (∃ a, Heap.SameBut a s.heap s'.heap ∧ (a = X.env.locals ∨ X.env.cells.lookup x = some a)) → Q () s') (hf : X.fn x = true ∨ X.env.scope.names.lookup x = some .local := by first | exact .inl rfl | exact .inr rfl | assumption) : wpAny M A (storeName X.env x u) Q E s := by
  obtain ⟨m, hn, hl⟩ := id I.loc
  have hcls : (X.env.scope.kind == .class || (X.env.scope.kind == .module && X.env.locals != X.env.globals)) = false := by rw [I.ok.kind]; rfl
  have hiσ : i < σ.length := by rw [I.len]; exact (List.getElem?_eq_some_iff.mp hi).1
  have cne := I.cne
  have tracked : ∀ {a : Addr} {h' : Heap}, (∃ o, s.heap.get? a = some o ∧ H a = none) → Heap.SameBut a s.heap h' → HOk X.prog X.w H h' := fun {a h'} ha hs b ob e => by
    obtain ⟨_, _, hfree⟩ := ha
    refine (I.hok b ob e).stay (fun c w' hc q => (hs.2 c ?_).trans q) (fun _ q => q) fun _ _ q => q
    rintro rfl
    rcases hc with rfl | hc
    · rw [hfree] at e; cases e
    · rw [hfree] at hc; cases hc
  rcases hx with hk | hk
  · refine wpAny_storeName_local hk hn (fun h' hn' hs => ?_) hcls
    obtain ⟨oL, _, _, hoL, _⟩ := id hn
    refine h _ ⟨I.ok, I.os, I.bare, ⟨fun b o e n hb hx => ?_, fun b o e n hb hx => ?_, I.base.free, fun b o e hx => ?_, I.base.tups, I.base.frzs, I.base.tbls⟩, ⟨_, hn', fun j y v' e1 e2 e3 => ?_⟩, fun y c e => ?_, I.free, I.freeC, fun p hp => ?_, tracked ⟨oL, hoL, I.free⟩ hs, by simpa using I.len⟩ ⟨_, hs, .inl rfl⟩
    · exact (hs.2 b (Nat.ne_of_lt (Nat.lt_of_lt_of_le (Heap.lt_size e) I.ok.above))).trans (I.base.keep b o e n hb hx)
    · obtain ⟨sl, e1⟩ := I.base.slot b o e n hb hx
      exact ⟨sl, (hs.2 b (Nat.ne_of_lt (Nat.lt_of_lt_of_le (Heap.lt_size e) I.ok.above))).trans e1⟩
    · obtain ⟨o', e1⟩ := I.base.there b o e hx
      exact ⟨o', (hs.2 b (Nat.ne_of_lt (Nat.lt_of_lt_of_le (Heap.lt_size e) I.ok.above))).trans e1⟩
    · by_cases hj : j = i
      · subst hj
        rw [hi] at e1; cases e1
        rw [List.getElem?_set_self hiσ] at e2
        cases e2
        exact ⟨u, r, .inl ⟨hk, by simp⟩⟩
      · rw [List.getElem?_set_ne (Ne.symm hj)] at e2
        obtain ⟨u', r', q⟩ := hl j y v' e1 e2 e3
        refine ⟨u', r', ?_⟩
        rcases q with ⟨k, e⟩ | ⟨k, c, e, z⟩
        · refine .inl ⟨k, ?_⟩
          have : y ≠ x := fun e => hj (nodup_ix hN e1 (e ▸ hi))
          simp [this, e]
        · exact .inr ⟨k, c, e, z.sameBut hs (cne y c e)⟩
    · obtain ⟨w', z⟩ := I.cell y c e
      exact ⟨w', z.sameBut hs (cne y c e)⟩
    · obtain ⟨e, n, ne, nf, d⟩ := I.pin p hp
      exact ⟨(hs.2 p.1 ne).trans e, n, ne, nf, d⟩
  · have hfn : X.fn x = true := by
      rcases hf with z | z
      · exact z
      · rw [z] at hk; cases hk
    obtain ⟨c, hc⟩ := I.ok.has x (.inl hk)
    obtain ⟨w', z⟩ := I.cell x c hc
    refine wpAny_storeName_cell I.ok.kind hk hc z (fun h' hc' hs => ?_)
    obtain ⟨oc, hoc, hocd⟩ := id z
    refine h { s with heap := h' } ⟨I.ok, I.os, I.bare, ⟨fun b o e n hb hx => ?_, fun b o e n hb hx => ?_, I.base.free, fun b o e hx => ?_, I.base.tups, I.base.frzs, I.base.tbls⟩, ⟨m, hn.sameBut hs (Ne.symm (cne x c hc)), fun j y v' e1 e2 e3 => ?_⟩, fun y c' e => ?_, I.free, I.freeC, fun p hp => ?_, tracked ⟨oc, hoc, I.freeC x c hc⟩ hs, by simpa using I.len⟩ ⟨c, hs, .inr hc⟩
    · exact (hs.2 b (Nat.ne_of_lt (Nat.lt_of_lt_of_le (Heap.lt_size e) (I.ok.cab x c hfn hc)))).trans (I.base.keep b o e n hb hx)
    · obtain ⟨sl, e1⟩ := I.base.slot b o e n hb hx
      exact ⟨sl, (hs.2 b (Nat.ne_of_lt (Nat.lt_of_lt_of_le (Heap.lt_size e) (I.ok.cab x c hfn hc)))).trans e1⟩
    · obtain ⟨o', e1⟩ := I.base.there b o e hx
      exact ⟨o', (hs.2 b (Nat.ne_of_lt (Nat.lt_of_lt_of_le (Heap.lt_size e) (I.ok.cab x c hfn hc)))).trans e1⟩
    · by_cases hj : j = i
      · subst hj
        rw [hi] at e1; cases e1
        rw [List.getElem?_set_self hiσ] at e2
        cases e2
        exact ⟨u, r, .inr ⟨.inl hk, c, hc, hc'⟩⟩
      · rw [List.getElem?_set_ne (Ne.symm hj)] at e2
        obtain ⟨u', r', q⟩ := hl j y v' e1 e2 e3
        refine ⟨u', r', ?_⟩
        rcases q with q | ⟨k, c', e, z'⟩
        · exact .inl q
        · refine .inr ⟨k, c', e, z'.sameBut hs ?_⟩
          rintro rfl
          exact hj (nodup_ix hN e1 (I.ok.inj _ _ _ e hc ▸ hi))
    · by_cases hcc : c' = c
      · subst hcc; exact ⟨_, hc'⟩
      · obtain ⟨w2, z2⟩ := I.cell y c' e
        exact ⟨w2, z2.sameBut hs hcc⟩
    · obtain ⟨e, n, ne, nf, d⟩ := I.pin p hp
      refine ⟨(hs.2 p.1 ?_).trans e, n, ne, nf, d⟩
      intro q
      rw [q, hoc] at e
      have q' : oc = p.2 := Option.some.inj e
      exact d w' (by rw [← q']; exact hocd)
theorem store_ok {M : Model} {A : Around} {E : Value → Shared → Prop} {i : Nat} {x : Str} {v : V} {u : Value} {Q : Unit → Shared → Prop} (I : Inv X pins σ H s) (hN : X.N.Nodup) (hi : X.N[i]? = some x) (hx : Loc X.env.scope x) (r : RelV v u)
    (h : ∀ s', Inv X pins (σ.set i (some v)) H s' → Q () s') (hf : X.fn x = true ∨ X.env.scope.names.lookup x = some .local := by first | exact .inl rfl | exact .inr rfl | assumption) : wpAny M A (storeName X.env x u) Q E s :=
  store_ok2 I hN hi hx r (fun s' I' _ => h s' I') hf
/-- behind a call or a block, the state as it is -/
theorem Inv.call' {s' : Shared} {ch : List Addr} (I : Inv X pins σ H s) (ho : s'.os = s.os) (u : Un (frs X.stack) ch H H' s.heap s'.heap) (hok : HOk X.prog X.w H' s'.heap) (hg : AllBare s'.gens)
    (hch : ∀ b ∈ ch, (b ∈ X.ex ∨ X.s₀.heap.objs.size ≤ b) ∧ b ≠ X.env.locals ∧ (∀ x c, X.env.cells.lookup x = some c → c ≠ b) ∧ ∀ p ∈ X.pn ++ pins, p.1 ≠ b) : Inv X pins σ H' s' := by
  obtain ⟨h', g', d', t', o'⟩ := s'
  have e : o' = s.os := ho
  subst e
  exact I.call (g' := g') (t' := t') (d' := d') u hok hg hch
end

/-! ### the judgements -/
/-- an exception: its class, its own dict's address (where it has one), the abstract heap behind it -/
abbrev XK := Value → Option Addr → Hp → Prop
abbrev St := List (Option V)
abbrev VK := V → Hp → Prop
/-- an expression's reading; a test's; an argument list's -/
abbrev TE := St → Hp → VK → Prop
abbrev TT := St → Hp → (Bool → Hp → Prop) → Prop
abbrev TA := St → Hp → (List V → Hp → Prop) → Prop
/-- what is wanted behind a statement -/
structure Ends where
  nx : St → Hp → Prop
  rt : VK
  bk : St → Hp → Prop := fun _ _ => False
  ct : St → Hp → Prop := fun _ _ => False
abbrev TS := Ends → St → Hp → Prop

def EP (X : Cx) (pins : List (Addr × Obj)) (σ : St) (Q : VK) (u : Value) (s' : Shared) : Prop := ∃ v H', Inv X pins σ H' s' ∧ RelV v u ∧ Q v H'
def TP (X : Cx) (pins : List (Addr × Obj)) (σ : St) (Q : Bool → Hp → Prop) (b : Bool) (s' : Shared) : Prop := ∃ H', Inv X pins σ H' s' ∧ Q b H'
def AP (X : Cx) (pins : List (Addr × Obj)) (σ : St) (Q : List V → Hp → Prop) (us : List Value) (s' : Shared) : Prop := ∃ vs H', Inv X pins σ H' s' ∧ Vals vs us ∧ Q vs H'
def SP (X : Cx) (pins : List (Addr × Obj)) (D : Ends) (f : Flow) (s' : Shared) : Prop :=
  match f with
  | .next => ∃ σ' H', Inv X pins σ' H' s' ∧ D.nx σ' H'
  | .brk => ∃ σ' H', Inv X pins σ' H' s' ∧ D.bk σ' H'
  | .cont => ∃ σ' H', Inv X pins σ' H' s' ∧ D.ct σ' H'
  | .ret u => ∃ v σ' H', Inv X pins σ' H' s' ∧ RelV v u ∧ D.rt v H'

def PE (X : Cx) (e : Expr) (t : TE) : Prop :=
  ∀ (pins : List (Addr × Obj)) (s : Shared) (σ : St) (H : Hp) (Q : VK), Inv X pins σ H s → t σ H Q → wpAny (model X.prog X.w) X.A (eval e X.env) (EP X pins σ Q) X.xe s
def PT (X : Cx) (e : Expr) (t : TT) : Prop :=
  ∀ (pins : List (Addr × Obj)) (s : Shared) (σ : St) (H : Hp) (Q : Bool → Hp → Prop), Inv X pins σ H s → t σ H Q → wpAny (model X.prog X.w) X.A (isTrue e X.env (eval e X.env)) (TP X pins σ Q) X.xe s
/-- a test whatever its 'whole' is (and, or) -/
def PW (X : Cx) (e : Expr) (t : TT) : Prop :=
  ∀ (whole : Sem Value) (pins : List (Addr × Obj)) (s : Shared) (σ : St) (H : Hp) (Q : Bool → Hp → Prop), Inv X pins σ H s → t σ H Q → wpAny (model X.prog X.w) X.A (isTrue e X.env whole) (TP X pins σ Q) X.xe s
theorem PW.pt {X : Cx} {e : Expr} {t : TT} (h : PW X e t) : PT X e t := h _
/-- an argument list (no star), from the left -/
def PA (X : Cx) (es : List Expr) (t : TA) : Prop :=
  ∀ (pos : Pos) (pins : List (Addr × Obj)) (s : Shared) (σ : St) (H : Hp) (Q : List V → Hp → Prop), Inv X pins σ H s → t σ H Q → wpAny (model X.prog X.w) X.A (spliced (backTo pos (starEach es X.env))) (AP X pins σ Q) X.xe s
def PS (X : Cx) (st : Stmt) (t : TS) : Prop :=
  ∀ (pins : List (Addr × Obj)) (s : Shared) (σ : St) (H : Hp) (D : Ends), Inv X pins σ H s → t D σ H → wpAny (model X.prog X.w) X.A (exec st X.env) (SP X pins D) X.xe s
def PSs (X : Cx) (st : List Stmt) (t : TS) : Prop :=
  ∀ (pins : List (Addr × Obj)) (s : Shared) (σ : St) (H : Hp) (D : Ends), Inv X pins σ H s → t D σ H → wpAny (model X.prog X.w) X.A (execs st X.env) (SP X pins D) X.xe s
/-- weaken the end -/
theorem thn {α : Type} {t : Sem α} {Q Q' : α → Shared → Prop} {M : Model} {A : Around} {E : Value → Shared → Prop} {s : Shared} (h : wpAny M A t Q E s) (hQ : ∀ a s, Q a s → Q' a s) : wpAny M A t Q' E s := wpAny_mono h hQ fun _ _ x => x
end L2

namespace L2
open PySem PySem.Spec PyProof.Rows
section
variable {X : Cx}

/-! ### names and constants -/
def tVar (i : Nat) : TE := fun σ H Q => ∃ v, σ[i]? = some (some v) ∧ Q v H
def tC (v : V) : TE := fun _ H Q => Q v H
theorem pe_var {i : Nat} {x : Str} {pos : Pos} (hN : X.N[i]? = some x) (hv : Vis X.env.scope x) (hd : (x == ("__debug__" : Str)) = false := by decide) (hcd : (x == ("__classdict__" : Str)) = false := by decide) : PE X (.Name x pos) (tVar i) := by
  intro pins s σ H Q I h
  obtain ⟨v, e, h⟩ := h
  obtain ⟨m, hn, hl⟩ := I.loc
  obtain ⟨u, r, l⟩ := hl i x v hN e hv
  have fin : EP X pins σ Q u s := ⟨v, H, I, r, h⟩
  rcases l with ⟨hk, hm⟩ | ⟨hk, c, hc, hcell⟩
  · exact wpAny_Name (wpAny_loadName_local I.ok.kind hk hn hm fin) hd
  · rcases hk with hk | hk
    · exact wpAny_Name (wpAny_loadName_cell I.ok.kind hk hc hcell fin) hd
    · exact wpAny_Name (wpAny_loadName_free I.ok.kind hk hc hcell fin hcd) hd
theorem pe_int {i j pos} : PE X (.Constant (.int i) j pos) (tC (.int i)) := fun _ _ _ H _ I h => wpAny_Constant_int ⟨.int i, H, I.tok _, ⟨_, rfl⟩, h⟩
theorem pe_bl {b j pos} : PE X (.Constant (.bool b) j pos) (tC (.bl b)) := fun _ _ _ H _ I h => Constant_bool ⟨.bl b, H, I, rfl, h⟩
theorem pe_str {x j pos} : PE X (.Constant (.str x) j pos) (tC (.str x)) := fun _ _ _ H _ I h => Calls.Constant_str ⟨.str x, H, I.tok _, ⟨_, rfl⟩, h⟩

/-- a global name of the def -/
def Gl (X : Cx) (x : Str) : Prop := X.env.kindOf x = some .globalImplicit
theorem ld_glob {E : Value → Shared → Prop} {pins : List (Addr × Obj)} {s : Shared} {σ : St} {H : Hp} {x : Str} {u : Value} {pos : Pos} {Q : Value → Shared → Prop} (I : Inv X pins σ H s) (hg : Gl X x) (hm : X.mg x = some u) (h : Q u s)
    (hd : (x == ("__debug__" : Str)) = false := by decide) : wpAny (model X.prog X.w) X.A (eval (.Name x pos) X.env) Q E s :=
  Calls.Name_function_global I.ok.kind hg (Calls.loadGlobal_global (by rw [I.ok.glob]; exact I.mod.glob.keeps I.bk) hm h) hd
theorem ld_blt {E : Value → Shared → Prop} {pins : List (Addr × Obj)} {s : Shared} {σ : St} {H : Hp} {x : Str} {u : Value} {pos : Pos} {Q : Value → Shared → Prop} (I : Inv X pins σ H s) (hg : Gl X x) (hm : X.mg x = none) (hv : bootBuiltins x = some u) (h : Q u s)
    (hn : x ≠ "__name__" := by decide) (hd : (x == ("__debug__" : Str)) = false := by decide) : wpAny (model X.prog X.w) X.A (eval (.Name x pos) X.env) Q E s := by
  obtain ⟨mb, h1, h2⟩ := I.mod.blt
  exact Calls.Name_function_global I.ok.kind hg (Calls.loadGlobal_builtin (by rw [I.ok.glob]; exact I.mod.glob.keeps I.bk) hm (by rw [I.ok.blt]; exact h1.keeps I.bk) ((h2 x hn).trans hv) h) hd
/-- a module's constant, a class, a function, as a value -/
theorem pe_glob {x : Str} {v : V} {u : Value} {pos : Pos} (hg : Gl X x) (hm : X.mg x = some u) (r : RelV v u) (hd : (x == ("__debug__" : Str)) = false := by decide) : PE X (.Name x pos) (tC v) :=
  fun _ _ _ H _ I h => ld_glob I hg hm ⟨v, H, I, r, h⟩ hd
theorem pe_bltn {x : Str} {v : V} {u : Value} {pos : Pos} (hg : Gl X x) (hm : X.mg x = none) (hv : bootBuiltins x = some u) (r : RelV v u) (hn : x ≠ "__name__" := by decide) (hd : (x == ("__debug__" : Str)) = false := by decide) : PE X (.Name x pos) (tC v) :=
  fun _ _ _ H _ I h => ld_blt I hg hm hv ⟨v, H, I, r, h⟩ hn hd

/-! ### arithmetic -/
variable {a b : Expr} {ta tb : TE} {pos : Pos}
/-! ### comparisons -/
/-- a comparison as a value, as a test -/
def tB (t : TE) : TT := fun σ H Q => t σ H fun x H1 => ∃ c, x = .bl c ∧ Q c H1
/-- an expression whose value is a bool, as a test -/
theorem pt_val {e : Expr} {t : TE} (h : PE X e t) (he : ∀ whole, isTrue e X.env whole = (do let v ← whole; standAt e.pos; holding [v] (truthy v)) := by intro _; rfl) : PT X e (tB t) := by
  intro pins s σ H Q I hw
  refine isTrue_plain (thn (h pins s σ H _ I hw) fun v s1 ⟨x, H1, I1, r1, q1⟩ => ?_) (he _)
  obtain ⟨d, rfl, q⟩ := q1
  cases r1
  exact wpAny_truthy_bool ⟨H1, I1, q⟩

/-! ### and, or, not -/
variable {tA tB' : TT} {rest : List Expr}
def tAnd (t u : TT) : TT := fun σ H Q => t σ H fun c H1 => if c = true then u σ H1 Q else Q false H1
def tOr (t u : TT) : TT := fun σ H Q => t σ H fun c H1 => if c = true then Q true H1 else u σ H1 Q
def tNot (t : TT) : TT := fun σ H Q => t σ H fun c H1 => Q (!c) H1
theorem pw_and1 (ha : PT X a tA) : PW X (.BoolOp .And [a] pos) tA := by
  intro wh pins s σ H Q I h
  refine isTrue_and (thn (ha pins s σ H Q I h) fun c s1 e => ?_)
  cases c with
  | true => exact isTrue_and_nil e
  | false => exact e
theorem pw_or1 (ha : PT X a tA) : PW X (.BoolOp .Or [a] pos) tA := by
  intro wh pins s σ H Q I h
  refine isTrue_or (thn (ha pins s σ H Q I h) fun c s1 e => ?_)
  cases c with
  | false => exact isTrue_or_nil e
  | true => exact e
theorem pw_and (ha : PT X a tA) (hb : PW X (.BoolOp .And (b :: rest) pos) tB') : PW X (.BoolOp .And (a :: b :: rest) pos) (tAnd tA tB') := by
  intro wh pins s σ H Q I h
  refine isTrue_and (thn (ha pins s σ H _ I h) fun c s1 ⟨H1, I1, q1⟩ => ?_)
  cases c with
  | true => exact hb wh pins s1 σ H1 Q I1 q1
  | false => exact ⟨H1, I1, q1⟩
theorem pw_or (ha : PT X a tA) (hb : PW X (.BoolOp .Or (b :: rest) pos) tB') : PW X (.BoolOp .Or (a :: b :: rest) pos) (tOr tA tB') := by
  intro wh pins s σ H Q I h
  refine isTrue_or (thn (ha pins s σ H _ I h) fun c s1 ⟨H1, I1, q1⟩ => ?_)
  cases c with
  | true => exact ⟨H1, I1, q1⟩
  | false => exact hb wh pins s1 σ H1 Q I1 q1
theorem pt_not (ha : PT X a tA) : PT X (.UnaryOp .Not a pos) (tNot tA) := by
  intro pins s σ H Q I h
  exact isTrue_not (ha pins s σ H (fun c H1 => Q (!c) H1) I h)
/-- .. as values (bools) -/
def tAndV (ta tb : TE) : TE := fun σ H Q => ta σ H fun x H1 => ∃ c, x = .bl c ∧ if c = true then tb σ H1 Q else Q (.bl false) H1
def tOrV (ta tb : TE) : TE := fun σ H Q => ta σ H fun x H1 => ∃ c, x = .bl c ∧ if c = true then Q (.bl true) H1 else tb σ H1 Q
def tNotV (ta : TE) : TE := fun σ H Q => ta σ H fun x H1 => ∃ c, x = .bl c ∧ Q (.bl (!c)) H1
theorem pe_one {op} {t : TE} (h : PE X a t) : PE X (.BoolOp op [a] pos) t := fun pins s σ H Q I hw => BoolOp_one (h pins s σ H Q I hw)
theorem pe_and (ha : PE X a ta) (hb : PE X (.BoolOp .And (b :: rest) pos) tb) : PE X (.BoolOp .And (a :: b :: rest) pos) (tAndV ta tb) := by
  intro pins s σ H Q I h
  refine BoolOp_and (thn (ha pins s σ H _ I h) fun v s1 ⟨x, H1, I1, r1, q1⟩ => ?_)
  obtain ⟨c, rfl, q1⟩ := q1
  cases r1
  refine wpAny_truthy_bool ?_
  cases c with
  | true => exact hb pins s1 σ H1 Q I1 q1
  | false => exact ⟨.bl false, H1, I1, rfl, q1⟩
theorem pe_or (ha : PE X a ta) (hb : PE X (.BoolOp .Or (b :: rest) pos) tb) : PE X (.BoolOp .Or (a :: b :: rest) pos) (tOrV ta tb) := by
  intro pins s σ H Q I h
  refine BoolOp_or (thn (ha pins s σ H _ I h) fun v s1 ⟨x, H1, I1, r1, q1⟩ => ?_)
  obtain ⟨c, rfl, q1⟩ := q1
  cases r1
  refine wpAny_truthy_bool ?_
  cases c with
  | false => exact hb pins s1 σ H1 Q I1 q1
  | true => exact ⟨.bl true, H1, I1, rfl, q1⟩
theorem pe_not (ha : PE X a ta) : PE X (.UnaryOp .Not a pos) (tNotV ta) := by
  intro pins s σ H Q I h
  refine UnaryOp_ (thn (ha pins s σ H _ I h) fun v s1 ⟨x, H1, I1, r1, q1⟩ => ?_)
  obtain ⟨c, rfl, q1⟩ := q1
  cases r1
  exact not_of (wpAny_truthy_bool ⟨.bl (!c), H1, I1, rfl, q1⟩)
/-- a if t else b -/
def tIf (t : TT) (ta tb : TE) : TE := fun σ H Q => t σ H fun c H1 => if c = true then ta σ H1 Q else tb σ H1 Q
theorem pe_ifExp {c : Expr} (hc : PT X c tA) (ha : PE X a ta) (hb : PE X b tb) : PE X (.IfExp c a b pos) (tIf tA ta tb) := by
  intro pins s σ H Q I h
  refine wpAny_IfExp (thn (hc pins s σ H _ I h) fun d s1 ⟨H1, I1, q1⟩ => ?_)
  cases d with
  | true => exact ha pins s1 σ H1 Q I1 q1
  | false => exact hb pins s1 σ H1 Q I1 q1
end
end L2

namespace L2
open PySem PySem.Spec PyProof.Rows

/-! ### a list, a tuple that is read: tracked, frozen, or an object of the module -/
def SqL (K : PySem.W.Frag) (H : Hp) (a : Addr) (xs : List V) : Prop :=
  Rd H a (.lst xs) ∨
    ∃ (o : Obj) (its : Array Value) (n : Nat), K.lookup a = some o ∧ o.cls = .type "list" ∧ o.dict = none ∧ o.data = .seq its n ∧ its.size ≤ sizeLine ∧ Vals xs its.toList
def SqT (K : PySem.W.Frag) (H : Hp) (a : Addr) (xs : List V) : Prop :=
  Rd H a (.tup xs) ∨
    ∃ (o : Obj) (its : Array Value) (n : Nat), K.lookup a = some o ∧ o.cls = .type "tuple" ∧ o.data = .seq its n ∧ its.size ≤ sizeLine ∧ Vals xs its.toList
def absV : Value → Option V
  | .none => some .non
  | .bool b => some (.bl b)
  | .int i _ => some (.int i)
  | .str x _ => some (.str x)
  | .bytes b _ => some (.byt b)
  | .float b _ => some (.flt b)
  | .ref a => some (.ref a)
  | .type n => some (.ty n)
  | _ => none
theorem RelV.abs {x : V} {u : Value} (r : RelV x u) : absV u = some x := by
  cases x with
  | non => cases r; rfl
  | bl _ => cases r; rfl
  | int _ => obtain ⟨t, rfl⟩ := r; rfl
  | str _ => obtain ⟨t, rfl⟩ := r; rfl
  | byt _ => obtain ⟨t, rfl⟩ := r; rfl
  | flt _ => obtain ⟨t, rfl⟩ := r; rfl
  | ref _ => cases r; rfl
  | ty _ => cases r; rfl
theorem RelV.inj {x y : V} {u : Value} (r : RelV x u) (q : RelV y u) : x = y := Option.some.inj (r.abs.symm.trans q.abs)
theorem Vals.inj : ∀ {xs ys : List V} {us : List Value}, Vals xs us → Vals ys us → xs = ys
  | _, _, _, .nil, .nil => rfl
  | _, _, _, .cons r t, .cons r' t' => by rw [r.inj r', Vals.inj t t']
section
variable {X : Cx} {pins : List (Addr × Obj)} {σ : St} {H : Hp} {s : Shared} {a : Addr} {xs ys : List V}
theorem SqL.of {K : PySem.W.Frag} (h : H a = some (.lst xs)) : SqL K H a xs := .inl (.inl h)
theorem SqT.of {K : PySem.W.Frag} (h : H a = some (.tup xs)) : SqT K H a xs := .inl (.inl h)
theorem Inv.list (I : Inv X pins σ H s) (h : SqL X.K H a xs) : ∃ its : List Value, Vals xs its ∧ PlainL s.heap a its.toArray ∧ xs.length ≤ sizeLine := by
  rcases h with h | ⟨o, its, n, hk, hc, hd, hs, hz, r⟩
  · obtain ⟨z, its, n, r, e⟩ := h.ok I.hok
    exact ⟨its, r, ⟨_, n, e, rfl, rfl, rfl⟩, z⟩
  · refine ⟨its.toList, r, ⟨o, n, I.kIn a o hk, hc, hd, by simpa using hs⟩, ?_⟩
    have e := r.length
    simp only [Array.length_toList] at e
    omega
theorem Inv.tuple (I : Inv X pins σ H s) (h : SqT X.K H a xs) : ∃ its : List Value, Vals xs its ∧ IsTup s.heap a its.toArray ∧ xs.length ≤ sizeLine := by
  rcases h with h | ⟨o, its, n, hk, hc, hs, hz, r⟩
  · obtain ⟨z, its, r, p⟩ := h.ok I.hok
    exact ⟨its, r, p, z⟩
  · refine ⟨its.toList, r, ⟨o, I.kIn a o hk, hc, n, by simpa using hs⟩, ?_⟩
    have e := r.length
    simp only [Array.length_toList] at e
    omega
theorem Inv.list_inj (I : Inv X pins σ H s) (h : SqL X.K H a xs) (h' : SqL X.K H a ys) : xs = ys := by
  obtain ⟨its, r, ⟨o, n, e, _, _, d⟩, _⟩ := I.list h
  obtain ⟨its', r', ⟨o', n', e', _, _, d'⟩, _⟩ := I.list h'
  rw [e] at e'; cases e'
  rw [d] at d'
  injection d' with d1 _
  have : its = its' := by simpa using congrArg Array.toList d1
  subst this
  exact r.inj r'
theorem Inv.tuple_inj (I : Inv X pins σ H s) (h : SqT X.K H a xs) (h' : SqT X.K H a ys) : xs = ys := by
  obtain ⟨its, r, ⟨o, e, _, n, d⟩, _⟩ := I.tuple h
  obtain ⟨its', r', ⟨o', e', _, n', d'⟩, _⟩ := I.tuple h'
  rw [e] at e'; cases e'
  rw [d] at d'
  injection d' with d1 _
  have : its = its' := by simpa using congrArg Array.toList d1
  subst this
  exact r.inj r'
end

/-! ### another wish about exceptions -/
abbrev Cx.wish (X : Cx) (E : Value → Shared → Prop) : Cx := { X with xe := E }
/-- no exception leaves -/
abbrev Cx.nox (X : Cx) : Cx := X.wish fun _ _ => False
theorem Cx.Ok.wish {X : Cx} (ok : X.Ok) (E : Value → Shared → Prop) : (X.wish E).Ok :=
  ⟨ok.mod, ok.kind, ok.glob, ok.blt, ok.above, ok.inj, ok.has, ok.cab, ok.hd, ok.frames, ok.stk, ok.exf, ok.bs, ok.bsz, ok.noex, ok.exfs, ok.funs, ok.frf⟩
theorem Cx.Ok.unwish {X : Cx} {E : Value → Shared → Prop} (ok : (X.wish E).Ok) : X.Ok :=
  ⟨ok.mod, ok.kind, ok.glob, ok.blt, ok.above, ok.inj, ok.has, ok.cab, ok.hd, ok.frames, ok.stk, ok.exf, ok.bs, ok.bsz, ok.noex, ok.exfs, ok.funs, ok.frf⟩
section
variable {X : Cx} {pins : List (Addr × Obj)} {σ : St} {H : Hp} {s : Shared} {E : Value → Shared → Prop}
theorem Inv.wish (I : Inv X pins σ H s) (E : Value → Shared → Prop) : Inv (X.wish E) pins σ H s := ⟨I.ok.wish E, I.os, I.bare, I.base, I.loc, I.cell, I.free, I.freeC, I.pin, I.hok, I.len⟩
theorem Inv.unwish (I : Inv (X.wish E) pins σ H s) : Inv X pins σ H s := ⟨I.ok.unwish, I.os, I.bare, I.base, I.loc, I.cell, I.free, I.freeC, I.pin, I.hok, I.len⟩
theorem SP.unwish {D : Ends} {f : Flow} {s' : Shared} (h : SP (X.wish E) pins D f s') : SP X pins D f s' := by
  cases f with
  | next => obtain ⟨σ', H', I, q⟩ := h; exact ⟨σ', H', I.unwish, q⟩
  | brk => obtain ⟨σ', H', I, q⟩ := h; exact ⟨σ', H', I.unwish, q⟩
  | cont => obtain ⟨σ', H', I, q⟩ := h; exact ⟨σ', H', I.unwish, q⟩
  | ret u => obtain ⟨v, σ', H', I, r, q⟩ := h; exact ⟨v, σ', H', I.unwish, r, q⟩
theorem PSs.nox {st : List Stmt} {t : TS} (h : PSs X.nox st t) : PSs X st t := fun pins s σ H D I hw =>
  wpAny_mono (h pins s σ H D (I.wish _) hw) (fun _ _ q => q.unwish) fun _ _ z => False.elim z
end

/-! ### blocks and small statements -/
section
variable {X : Cx} {st : Stmt} {rest : List Stmt} {t u : TS} {e : Expr} {te : TE} {pos : Pos}
def tNext : TS := fun D σ H => D.nx σ H
def tSeq (t u : TS) : TS := fun D σ H => t { D with nx := u D } σ H
theorem pss_nil : PSs X [] tNext := fun _ _ σ H _ I h => wpAny_execs_nil ⟨σ, H, I, h⟩
theorem pss_cons (h1 : PS X st t) (h2 : PSs X rest u) : PSs X (st :: rest) (tSeq t u) := by
  intro pins s σ H D I h
  refine wpAny_execs_cons (thn (h1 pins s σ H { D with nx := u D } I h) fun f s1 q => ?_)
  cases f with
  | next =>
    obtain ⟨σ', H', I', q⟩ := q
    exact h2 pins s1 σ' H' D I' q
  | ret v => exact q
  | brk => exact q
  | cont => exact q
theorem pss_one (h1 : PS X st t) : PSs X [st] t := by
  intro pins s σ H D I h
  refine wpAny_execs_cons (thn (h1 pins s σ H D I h) fun f s1 q => ?_)
  cases f with
  | next => exact wpAny_execs_nil q
  | ret v => exact q
  | brk => exact q
  | cont => exact q
/-- in a def's body nothing is shown -/
theorem Inv.quiet {pins : List (Addr × Obj)} {σ : St} {H : Hp} {s : Shared} (I : Inv X pins σ H s) : interactive X.env = false := by simp [interactive, I.ok.kind]
/-- an expression whose value is dropped -/
def tDrop (te : TE) : TS := fun D σ H => te σ H fun _ H1 => D.nx σ H1
theorem ps_expr (he : PE X e te) (hs : swapsWith e none pos.line X.env = pure false := by rfl) : PS X (.Expr e pos) (tDrop te) := by
  intro pins s σ H D I h
  exact wpAny_Expr_any (thn (he pins s σ H _ I h) fun v s1 ⟨x, H1, I1, r1, q1⟩ => ⟨σ, H1, I1, q1⟩) I.quiet hs
def tRet (te : TE) : TS := fun D σ H => te σ H D.rt
theorem ps_ret (he : PE X e te) : PS X (.Return (some e) pos) (tRet te) := by
  intro pins s σ H D I h
  exact wpAny_Return_some (thn (he pins s σ H _ I h) fun v s1 ⟨x, H1, I1, r1, q1⟩ => ⟨x, σ, H1, I1, r1, q1⟩)
def tIfS (c : TT) (t u : TS) : TS := fun D σ H => c σ H fun b H1 => if b = true then t D σ H1 else u D σ H1
theorem ps_if {c : Expr} {a b : List Stmt} {tc : TT} (hc : PT X c tc) (ha : PSs X a t) (hb : PSs X b u) : PS X (.If c a b pos) (tIfS tc t u) := by
  intro pins s σ H D I h
  refine wpAny_If (thn (hc pins s σ H _ I h) fun d s1 ⟨H1, I1, q1⟩ => ?_)
  cases d with
  | true => exact ha pins s1 σ H1 D I1 q1
  | false => exact hb pins s1 σ H1 D I1 q1
/-- code that the proof never comes to -/
def tNever : TS := fun _ _ _ => False
theorem ps_never : PS X st tNever := fun _ _ _ _ _ _ h => h.elim
end

/-! ### targets -/
abbrev TG := V → St → Hp → (St → Hp → Prop) → Prop
abbrev TGs := List V → St → Hp → (St → Hp → Prop) → Prop
def PG (X : Cx) (target : Expr) (t : TG) : Prop :=
  ∀ (pins : List (Addr × Obj)) (s : Shared) (σ : St) (H : Hp) (v : V) (u : Value) (Q : St → Hp → Prop), Inv X pins σ H s → RelV v u → t v σ H Q →
    wpAny (model X.prog X.w) X.A (assign target X.env u) (fun _ s' => ∃ σ' H', Inv X pins σ' H' s' ∧ Q σ' H') X.xe s
/-- several targets, one after another -/
def PGs (X : Cx) (ts : List Expr) (t : TGs) : Prop :=
  ∀ (pins : List (Addr × Obj)) (s : Shared) (σ : St) (H : Hp) (vs : List V) (us : List Value) (Q : St → Hp → Prop), Inv X pins σ H s → Vals vs us → t vs σ H Q →
    wpAny (model X.prog X.w) X.A (assignInOrder ((assignEach ts X.env).map (·.2)) us) (fun _ s' => ∃ σ' H', Inv X pins σ' H' s' ∧ Q σ' H') X.xe s
/-- o[i] = v, by values -/
abbrev TSet := V → V → V → Hp → (Hp → Prop) → Prop
def PSet (X : Cx) (t : TSet) : Prop :=
  ∀ (pins : List (Addr × Obj)) (s : Shared) (σ : St) (H : Hp) (o i v : V) (ov iv u : Value) (Q : Hp → Prop), Inv X pins σ H s → RelV o ov → RelV i iv → RelV v u → t o i v H Q →
    wpAny (model X.prog X.w) X.A (setItem ov iv u) (fun _ s' => ∃ H', Inv X pins σ H' s' ∧ Q H') X.xe s
section
variable {X : Cx} {pos : Pos}
def gName (i : Nat) : TG := fun v σ H Q => Q (σ.set i (some v)) H
theorem pg_name {i : Nat} {x : Str} (hN : X.N.Nodup) (hi : X.N[i]? = some x) (hx : Loc X.env.scope x) (hf : X.fn x = true ∨ X.env.scope.names.lookup x = some .local := by first | exact .inl rfl | exact .inr rfl | assumption) : PG X (.Name x pos) (gName i) := by
  intro pins s σ H v u Q I r h
  exact wpAny_assign_Name (store_ok I hN hi hx r (fun s' I' => ⟨_, H, I', h⟩) hf)
def gNil : TGs := fun vs σ H Q => vs = [] ∧ Q σ H
def gCons (t : TG) (u : TGs) : TGs := fun vs σ H Q => ∃ v r, vs = v :: r ∧ t v σ H fun σ' H' => u r σ' H' Q
theorem pgs_nil : PGs X [] gNil := by
  intro pins s σ H vs us Q I r h
  obtain ⟨e, h⟩ := h
  subst e
  cases r
  exact assignInOrder_nil ⟨σ, H, I, h⟩
theorem pgs_cons {e : Expr} {es : List Expr} {t : TG} {u : TGs} (h1 : PG X e t) (h2 : PGs X es u)
    (hs : (assignEach (e :: es) X.env).map (·.2) = assign e X.env :: (assignEach es X.env).map (·.2) := by rfl) : PGs X (e :: es) (gCons t u) := by
  intro pins s σ H vs us Q I r h
  obtain ⟨v, vr, e1, h⟩ := h
  subst e1
  cases r with
  | cons r rr =>
    rw [hs]
    refine assignInOrder_cons (thn (h1 pins s σ H _ _ _ I r h) fun _ s1 ⟨σ1, H1, I1, q1⟩ => ?_)
    exact h2 pins s1 σ1 H1 _ _ Q I1 rr q1
/-- (a, b, ..) = a tuple of that length -/
def gTup (K : PySem.W.Frag) (n : Nat) (t : TGs) : TG := fun v σ H Q => ∃ a xs, v = .ref a ∧ SqT K H a xs ∧ xs.length = n ∧ t xs σ H Q
theorem pg_tup {es : List Expr} {k : Nat} {t : TGs} {n : Nat} (hc : X.calm = true) (h : PGs X es t)
    (hn : (assignEach es X.env).length = n := by rfl) (hst : (assignEach es X.env).findIdx? (·.1) = none := by rfl) : PG X (.Tuple es k pos) (gTup X.K n t) := by
  intro pins s σ H v u Q I r hw
  obtain ⟨a, xs, e1, hq, hl, hw⟩ := hw
  subst e1
  cases r
  obtain ⟨its, rv, ht, hz⟩ := I.tuple hq
  refine assign_Tuple_tuple (I.ok.hd hc) ht (by simp [hn, ← hl, rv.length]) hst fun h' hx => ?_
  have I1 : Inv X pins σ H { s with heap := h' } := I.kept (t' := s.toks) fun b o e => hx b o (Nat.ne_of_lt (Heap.lt_size e)) e
  exact h pins _ σ H xs _ Q I1 (by simpa using rv) hw
/-- o[i] = .. -/
def gSub (to ti : TE) (t : TSet) : TG := fun v σ H Q => to σ H fun o H1 => ti σ H1 fun i H2 => t o i v H2 fun H3 => Q σ H3
theorem pg_sub {o i : Expr} {to ti : TE} {t : TSet} (ho : PE X o to) (hi : PE X i ti) (hs : PSet X t)
    (ha : ∀ v, assign (.Subscript o i pos) X.env v = (do
      let ov ← holding [v] (eval o X.env)
      let iv ← holding [v, ov] (eval i X.env)
      standAt pos
      holding [v, ov, iv] (setItem ov iv v)
      release [v, ov, iv] []) := by intro _; rfl) : PG X (.Subscript o i pos) (gSub to ti t) := by
  intro pins s σ H v u Q I r h
  rw [ha]
  refine wpAny_bind (wpAny_holding (thn (ho pins s σ H _ I h) fun ov s1 ⟨x, H1, I1, r1, q1⟩ => ?_))
  refine wpAny_bind (wpAny_holding (thn (hi pins s1 σ H1 _ I1 q1) fun iv s2 ⟨y, H2, I2, r2, q2⟩ => ?_))
  refine wpAny_bind (wpAny_standAt (wpAny_bind (wpAny_holding (thn (hs pins s2 σ H2 x y v ov iv u _ I2 r1 r2 r q2) fun _ s3 ⟨H3, I3, q3⟩ => ?_))))
  exact wpAny_release ⟨σ, H3, I3, q3⟩
/-- target = value -/
def tAsg (te : TE) (g : TG) : TS := fun D σ H => te σ H fun x H1 => g x σ H1 D.nx
theorem ps_asg {tg e : Expr} {te : TE} {g : TG} (he : PE X e te) (hg : PG X tg g) (hs : swapsWithSole [tg] e pos.line X.env = pure false := by rfl) (hw : swappedStores [tg] e X.env = pure none := by rfl)
    (h1 : (assignEach [tg] X.env).map (·.2) = [assign tg X.env] := by rfl) : PS X (.Assign [tg] e pos) (tAsg te g) := by
  intro pins s σ H D I h
  refine wpAny_Assign_stores (thn (he pins s σ H _ I h) fun v s1 ⟨x, H1, I1, r1, q1⟩ => ?_) hs hw
  rw [h1]
  exact thn (hg pins s1 σ H1 x v _ I1 r1 q1) fun _ s2 q => q
/-- name = value -/
theorem ps_set {i : Nat} {x : Str} {e : Expr} {te : TE} {pos' : Pos} (hN : X.N.Nodup) (hi : X.N[i]? = some x) (hx : Loc X.env.scope x) (he : PE X e te) (hs : swapsWith e (some (.Name x pos')) pos.line X.env = pure false := by rfl) (hf : X.fn x = true ∨ X.env.scope.names.lookup x = some .local := by first | exact .inl rfl | exact .inr rfl | assumption) :
    PS X (.Assign [.Name x pos'] e pos) (tAsg te (gName i)) := by
  intro pins s σ H D I h
  refine wpAny_Assign_Name (thn (he pins s σ H _ I h) fun v s1 ⟨y, H1, I1, r1, q1⟩ => ?_) hs
  exact store_ok I1 hN hi hx r1 (fun s2 I2 => ⟨_, H1, I2, q1⟩) hf
end

/-! ### while -/
section
variable {X : Cx} {pos : Pos}
/-- the invariant W with its measure -/
def tWhile (c : TT) (tb : TS) : TS := fun D σ H => ∃ W : Nat → St → Hp → Prop, (∃ m, W m σ H) ∧ ∀ m σ H, W m σ H →
  c σ H fun b H1 => if b = true then ∃ N : St → Hp → Prop, (∀ σ' H', N σ' H' → ∃ m', m' < m ∧ W m' σ' H') ∧ tb { D with nx := N, ct := N, bk := D.nx } σ H1 else D.nx σ H1
theorem ps_while {c : Expr} {body : List Stmt} {tc : TT} {tb : TS} (hp : PassesOwn (model X.prog X.w) X.A X.env X.xe) (hc : PT X c tc) (hb : PSs X body tb) : PS X (.While c body [] pos) (tWhile tc tb) := by
  intro pins s σ H D I h
  obtain ⟨W, ⟨m0, w0⟩, turn⟩ := h
  refine wpAny_While (codeAny_whileLoop (fun n s' => ∃ σ' H', Inv X pins σ' H' s' ∧ W n σ' H') ?_ m0 ⟨σ, H, I, w0⟩)
  rintro n s1 ⟨σ1, H1, I1, w1⟩
  refine wpAny_passesOwn hp (thn (hc pins s1 σ1 H1 _ I1 (turn n σ1 H1 w1)) fun b s2 ⟨H2, I2, q2⟩ => ?_)
  cases b with
  | true =>
    obtain ⟨N, hN, q2⟩ := q2
    rw [if_pos rfl]
    refine wpAny_passesOwn hp (thn (hb pins s2 σ1 H2 _ I2 q2) fun f s3 q3 => ?_)
    cases f with
    | next =>
      obtain ⟨σ3, H3, I3, n3⟩ := q3
      obtain ⟨m', hm, w3⟩ := hN σ3 H3 n3
      exact ⟨m', hm, σ3, H3, I3, w3⟩
    | cont =>
      obtain ⟨σ3, H3, I3, n3⟩ := q3
      obtain ⟨m', hm, w3⟩ := hN σ3 H3 n3
      exact ⟨m', hm, σ3, H3, I3, w3⟩
    | brk => exact q3
    | ret v => exact q3
  | false =>
    rw [if_neg Bool.false_ne_true]
    exact wpAny_execs_nil ⟨σ1, H2, I2, q2⟩
end

/-! ### what a loop or a comprehension walks -/
/-- at turn i: it yields x (the heap may grow), or it stops -/
structure It where
  go : Nat → Hp → Prop
  yld : Nat → Hp → V → Hp → Prop
  stop : Nat → Hp → Prop
/-- the iterator's own objects may turn: they are not the frame's, not pinned, younger than the entry (or a comprehension's own) -/
def FpOk (X : Cx) (pins : List (Addr × Obj)) (H : Hp) (b : Addr) : Prop :=
  H b = none ∧ b ≠ X.env.locals ∧ b ∉ X.fs ∧ (b ∈ X.ex ∨ X.s₀.heap.objs.size ≤ b) ∧ (∀ x c, X.env.cells.lookup x = some c → c ≠ b) ∧ ∀ p ∈ X.pn ++ pins, p.1 ≠ b
theorem Inv.fpOk {X : Cx} {pins : List (Addr × Obj)} {σ : St} {H H' : Hp} {s : Shared} {b : Addr} (I : Inv X pins σ H s) (hb : s.heap.objs.size ≤ b) (hn : H' b = none) : FpOk X pins H' b := by
  refine ⟨hn, Nat.ne_of_gt (Nat.lt_of_lt_of_le I.lt hb), I.nofs hb, .inr (Nat.le_trans I.sz hb), fun x c e z => ?_, fun p hp z => ?_⟩
  · obtain ⟨v, q⟩ := I.cell x c e
    exact absurd (Nat.lt_of_lt_of_le q.lt (by rw [z]; exact hb)) (Nat.lt_irrefl _)
  · exact absurd (Nat.lt_of_lt_of_le (Heap.lt_size (I.pin p hp).1) (by rw [z]; exact hb)) (Nat.lt_irrefl _)
structure Turn (P : Program) (w : World) (K : PySem.W.Frag) (tg : Expr) (J : It) (fp : List Addr) (it : Addr) (tn : Nat → Heap → Prop) : Prop where
  mem : it ∈ fp
  obj : ∀ i h, tn i h → ∀ b ∈ fp, ∃ o, h.get? b = some o ∧ ∀ v, o.data ≠ .cell v
  keep : ∀ i h h', tn i h → (∀ b ∈ fp, ∀ o, h.get? b = some o → h'.get? b = some o) → tn i h'
  item : ∀ (X : Cx), X.prog = P → X.w = w → X.K = K → X.calm = true → ∀ (i : Nat) (pins : List (Addr × Obj)) (s : Shared) (σ : St) (H : Hp) (E : Value → Shared → Prop), Inv X pins σ H s → (∀ b ∈ fp, FpOk X pins H b) → tn i s.heap → J.go i H →
    wpAny (model P w) X.A (pyNext (.ref it)) (fun r s1 => ∃ u, r = some u ∧
      wpAny (model P w) X.A (letOwnedTupleGo tg (.ref it) u) (fun _ s2 => ∃ x H', Inv X pins σ H' s2 ∧ RelV x u ∧ J.yld i H x H' ∧ tn (i + 1) s2.heap ∧ ∀ b ∈ fp, H' b = none) E s1) E s
  done : ∀ (X : Cx), X.prog = P → X.w = w → X.K = K → X.calm = true → ∀ (i : Nat) (pins : List (Addr × Obj)) (s : Shared) (σ : St) (H : Hp) (E : Value → Shared → Prop), Inv X pins σ H s → (∀ b ∈ fp, FpOk X pins H b) → tn i s.heap → J.stop i H →
    wpAny (model P w) X.A (pyNext (.ref it)) (fun r s1 => r = none ∧ Inv X pins σ H s1) E s
  self : ∀ (A : Around) (i : Nat) (s : Shared) (Q : Value → Shared → Prop) (E : Value → Shared → Prop), tn i s.heap → Q (.ref it) s → wpAny (model P w) A (pyIter (.ref it)) Q E s
abbrev TI := St → Hp → (It → Hp → Prop) → Prop
/-- an iterator has come -/
def PIE (X : Cx) (pins : List (Addr × Obj)) (σ : St) (tg : Expr) (R : It → Hp → Prop) (itv : Value) (s2 : Shared) : Prop :=
  ∃ (it : Addr) (fp : List Addr) (tn : Nat → Heap → Prop) (J : It) (H' : Hp), itv = .ref it ∧ Inv X pins σ H' s2 ∧ Turn X.prog X.w X.K tg J fp it tn ∧ tn 0 s2.heap ∧ (∀ b ∈ fp, FpOk X pins H' b) ∧ R J H'
def PI (X : Cx) (tg iter : Expr) (wi : TI) : Prop :=
  ∀ (pins : List (Addr × Obj)) (s : Shared) (σ : St) (H : Hp) (R : It → Hp → Prop), Inv X pins σ H s → wi σ H R →
    wpAny (model X.prog X.w) X.A (eval iter X.env) (fun v s1 => wpAny (model X.prog X.w) X.A (pyIter v) (PIE X pins σ tg R) X.xe s1) X.xe s

/-- the step ahead of the store is nothing for an iterator that keeps no tuple -/
theorem go_of {M : Model} {A : Around} {E : Value → Shared → Prop} {s : Shared} {tg : Expr} {it : Addr} {u : Value} {o : Obj} {n : String} {vs : Array Value} {Q : Unit → Shared → Prop} (ho : s.heap.get? it = some o) (hc : o.cls = .type n) (hd : o.data = .fields vs)
    (hn : ["enumerate", "zip", "dict_itemiterator", "dict_reverseitemiterator", "odict_iterator", "itertools.zip_longest", "itertools.pairwise"].contains n = false) (hQ : Q () s) : wpAny M A (letOwnedTupleGo tg (.ref it) u) Q E s := by
  unfold letOwnedTupleGo
  cases tg <;> first
    | exact wpAny_pure hQ
    | (cases u <;> first
        | exact wpAny_pure hQ
        | (refine wpAny_bind (wpAny_load ho ?_)
           rw [hc, hd]
           show wpAny M A (if (["enumerate", "zip", "dict_itemiterator", "dict_reverseitemiterator", "odict_iterator", "itertools.zip_longest", "itertools.pairwise"].contains n && vs[0]? == some (rawInt _)) = true then _ else _) Q E s
           rw [if_neg (by intro h; rw [hn, Bool.false_and] at h; cases h)]
           exact wpAny_pure hQ))

/-- the list at a, as it stands at each turn (a loop may append to it) -/
def Itl (K : PySem.W.Frag) (a : Addr) : It :=
  ⟨fun i H => ∃ xs x, SqL K H a xs ∧ xs[i]? = some x, fun i H x H' => H' = H ∧ ∀ xs, SqL K H a xs → xs[i]? = some x, fun i H => ∃ xs, SqL K H a xs ∧ xs.length ≤ i⟩
def Itt (K : PySem.W.Frag) (a : Addr) : It :=
  ⟨fun i H => ∃ xs x, SqT K H a xs ∧ xs[i]? = some x, fun i H x H' => H' = H ∧ ∀ xs, SqT K H a xs → xs[i]? = some x, fun i H => ∃ xs, SqT K H a xs ∧ xs.length ≤ i⟩
/-- lo, lo + 1, .. (n of them) -/
def Itr (lo : Int) (n : Nat) : It := ⟨fun i _ => i < n, fun i H x H' => H' = H ∧ x = .int (lo + i), fun i _ => n ≤ i⟩
theorem turn_list {P : Program} {w : World} {K : PySem.W.Frag} {tg : Expr} (a it : Addr) : Turn P w K tg (Itl K a) [it] it (fun i h => h.IsListIter it a i) where
  mem := by simp
  obj := fun i h st b hb => by
    have e : b = it := by simpa using hb
    subst e
    obtain ⟨o, e, c, d⟩ := st
    exact ⟨o, e, fun v z => by rw [d] at z; cases z⟩
  keep := fun i h h' st k => st.at fun o e => k it (by simp) o e
  item := by
    intro X hP hw hK hc i pins s σ H E I hf st hg
    subst hP hw hK
    obtain ⟨xs, x, hq, hx⟩ := hg
    obtain ⟨its, rv, p, hz⟩ := I.list hq
    obtain ⟨u, hu, ru⟩ := rv.get hx
    obtain ⟨f0, f1, f2, f3, f4, f5⟩ := hf it (by simp)
    refine wpAny_pyNext_list_item st p.isList (x := u) (by simpa using hu) fun h' st' sb => ?_
    have I1 : Inv X pins σ H { s with heap := h' } := I.turned (t' := s.toks) (fun b o hb e => (sb.2 b hb).trans e) f0 f1 f3 f4 f5
    obtain ⟨o, e, c, d⟩ := id st'
    exact ⟨u, rfl, go_of (s := { s with heap := h' }) e c d (by decide) ⟨x, H, I1, ru, ⟨rfl, fun ys hy => by rw [I.list_inj hy hq]; exact hx⟩, st', fun b hb => (hf b hb).1⟩⟩
  done := by
    intro X hP hw hK hc i pins s σ H E I hf st hg
    subst hP hw hK
    obtain ⟨xs, hq, hx⟩ := hg
    obtain ⟨its, rv, p, hz⟩ := I.list hq
    obtain ⟨f0, f1, f2, f3, f4, f5⟩ := hf it (by simp)
    have hl := rv.length
    exact wpAny_pyNext_list_end (I.ok.hd hc) st p.isList (by simp; omega) fun h' eb => ⟨rfl, I.turned (t' := s.toks) (fun b o hb e => eb b o hb e) f0 f1 f3 f4 f5⟩
  self := fun _ _ _ _ _ st h => wpAny_pyIter_listiter st h
theorem turn_tuple {P : Program} {w : World} {K : PySem.W.Frag} {tg : Expr} (a it : Addr) : Turn P w K tg (Itt K a) [it] it (fun i h => h.IsTupleIter it a i) where
  mem := by simp
  obj := fun i h st b hb => by
    have e : b = it := by simpa using hb
    subst e
    obtain ⟨o, e, c, d⟩ := st
    exact ⟨o, e, fun v z => by rw [d] at z; cases z⟩
  keep := fun i h h' st k => st.at fun o e => k it (by simp) o e
  item := by
    intro X hP hw hK hc i pins s σ H E I hf st hg
    subst hP hw hK
    obtain ⟨xs, x, hq, hx⟩ := hg
    obtain ⟨its, rv, p, hz⟩ := I.tuple hq
    obtain ⟨u, hu, ru⟩ := rv.get hx
    obtain ⟨f0, f1, f2, f3, f4, f5⟩ := hf it (by simp)
    refine wpAny_pyNext_tuple_item st (show s.heap.IsTuple a its.toArray from p) (x := u) (by simpa using hu) fun h' st' sb => ?_
    have I1 : Inv X pins σ H { s with heap := h' } := I.turned (t' := s.toks) (fun b o hb e => (sb.2 b hb).trans e) f0 f1 f3 f4 f5
    obtain ⟨o, e, c, d⟩ := id st'
    exact ⟨u, rfl, go_of (s := { s with heap := h' }) e c d (by decide) ⟨x, H, I1, ru, ⟨rfl, fun ys hy => by rw [I.tuple_inj hy hq]; exact hx⟩, st', fun b hb => (hf b hb).1⟩⟩
  done := by
    intro X hP hw hK hc i pins s σ H E I hf st hg
    subst hP hw hK
    obtain ⟨xs, hq, hx⟩ := hg
    obtain ⟨its, rv, p, hz⟩ := I.tuple hq
    obtain ⟨f0, f1, f2, f3, f4, f5⟩ := hf it (by simp)
    have hl := rv.length
    exact wpAny_pyNext_tuple_end (I.ok.hd hc) st (show s.heap.IsTuple a its.toArray from p) (by simp; omega) fun h' eb => ⟨rfl, I.turned (t' := s.toks) (fun b o hb e => eb b o hb e) f0 f1 f3 f4 f5⟩
  self := fun _ _ _ _ _ st h => wpAny_pyIter_tupleiter st h
theorem turn_range {P : Program} {w : World} {K : PySem.W.Frag} {tg : Expr} (it : Addr) (lo : Int) (n : Nat) : Turn P w K tg (Itr lo n) [it] it (fun i h => IsRangeIter h it (lo + (i : Nat) * 1) ((n : Int) - (i : Nat)) 1) where
  mem := by simp
  obj := fun i h st b hb => by
    have e : b = it := by simpa using hb
    subst e
    exact ⟨_, st, fun v z => by
      have z' : Data.fields _ = Data.cell v := z
      cases z'⟩
  keep := fun i h h' st k => k it (by simp) _ st
  item := by
    intro X hP hw hK hc i pins s σ H E I hf st hg
    subst hP hw hK
    obtain ⟨f0, f1, f2, f3, f4, f5⟩ := hf it (by simp)
    have W := Walks.range (prog := X.prog) (w := X.w) (I.ok.hd hc) it lo 1 n
    refine W.item i s _ _ hg st fun v h' tk hv st' kk => ?_
    obtain ⟨t, rfl⟩ := hv
    have I1 : Inv X pins σ H { s with heap := h', toks := tk } := I.turned (fun b o hb e => kk b o (by simpa using hb) e) f0 f1 f3 f4 f5
    refine ⟨_, rfl, go_of (s := { s with heap := h', toks := tk }) (n := "range_iterator") st' rfl rfl (by decide) ⟨.int (lo + i), H, I1, ⟨t, ?_⟩, ⟨rfl, rfl⟩, st', fun b hb => (hf b hb).1⟩⟩
    rw [Int.mul_one]
  done := by
    intro X hP hw hK hc i pins s σ H E I hf st hg
    subst hP hw hK
    obtain ⟨f0, f1, f2, f3, f4, f5⟩ := hf it (by simp)
    exact wpAny_pyNext_range_end (I.ok.hd hc) st (by have : n ≤ i := hg; omega) fun h' eb => ⟨rfl, I.turned (t' := s.toks) (fun b o hb e => eb b o hb e) f0 f1 f3 f4 f5⟩
  self := fun _ _ _ _ _ st h => wpAny_pyIter_rangeiter st h
end L2

namespace L2
open PySem PySem.Spec PyProof.Rows
section
variable {X : Cx} {tg : Expr}
def iList (K : PySem.W.Frag) (tl : TE) : TI := fun σ H R => tl σ H fun x H1 => ∃ a, x = .ref a ∧ (∃ xs, SqL K H1 a xs) ∧ R (Itl K a) H1
def iTup (K : PySem.W.Frag) (tl : TE) : TI := fun σ H R => tl σ H fun x H1 => ∃ a, x = .ref a ∧ (∃ xs, SqT K H1 a xs) ∧ R (Itt K a) H1
theorem pi_list {l : Expr} {tl : TE} (hl : PE X l tl) : PI X tg l (iList X.K tl) := by
  intro pins s σ H R I h
  refine thn (hl pins s σ H _ I h) fun v s1 ⟨x, H1, I1, r1, q1⟩ => ?_
  obtain ⟨a, e, ⟨xs, hq⟩, q⟩ := q1
  subst e
  cases r1
  obtain ⟨its, rv, p, hz⟩ := I1.list hq
  refine wpAny_pyIter_list p.isList ?_
  refine ⟨s1.heap.objs.size, [s1.heap.objs.size], _, _, H1, rfl, I1.kept (t' := s1.toks) fun b o e => Heap.get?_push_of_some _ e, turn_list a _, ⟨_, Heap.get?_push_size _ rfl, rfl, rfl⟩, fun b hb => ?_, q⟩
  have e : b = s1.heap.objs.size := by simpa using hb
  subst e
  exact I1.fpOk (Nat.le_refl _) (I1.hok.fresh (Nat.le_refl _))
theorem pi_tup {l : Expr} {tl : TE} (hl : PE X l tl) : PI X tg l (iTup X.K tl) := by
  intro pins s σ H R I h
  refine thn (hl pins s σ H _ I h) fun v s1 ⟨x, H1, I1, r1, q1⟩ => ?_
  obtain ⟨a, e, ⟨xs, hq⟩, q⟩ := q1
  subst e
  cases r1
  obtain ⟨its, rv, p, hz⟩ := I1.tuple hq
  refine wpAny_pyIter_tuple (show s1.heap.IsTuple a its.toArray from p) ?_
  refine ⟨s1.heap.objs.size, [s1.heap.objs.size], _, _, H1, rfl, I1.kept (t' := s1.toks) fun b o e => Heap.get?_push_of_some _ e, turn_tuple a _, ⟨_, Heap.get?_push_size _ rfl, rfl, rfl⟩, fun b hb => ?_, q⟩
  have e : b = s1.heap.objs.size := by simpa using hb
  subst e
  exact I1.fpOk (Nat.le_refl _) (I1.hok.fresh (Nat.le_refl _))
/-- a range object just made, walked -/
theorem range_it {pins : List (Addr × Obj)} {σ : St} {H : Hp} {s : Shared} {R : It → Hp → Prop} {E : Value → Shared → Prop} {lo hi : Int} {t u v : Tok} {tk : Nat} (I : Inv X pins σ H s) (h1 : -(2 ^ 62) ≤ lo) (h2 : lo < 2 ^ 62) (h3 : -(2 ^ 62) ≤ hi) (h4 : hi < 2 ^ 62)
    (q : R (Itr lo (hi - lo).toNat) H) : wpAny (model X.prog X.w) X.A (pyIter (.ref s.heap.objs.size)) (PIE X pins σ tg R) E { s with heap := s.heap.push { cls := .type "range", data := .fields #[.int lo t, .int hi u, .int 1 v] }, toks := tk } := by
  refine wpAny_pyIter_range (IsRange.new ..) (small_one h1 h2 h3 h4) ?_
  have I1 : Inv X pins σ H { s with heap := s.heap.push { cls := .type "range", data := .fields #[.int lo t, .int hi u, .int 1 v] }, toks := tk } := I.kept fun b o e => Heap.get?_push_of_some _ e
  refine ⟨(s.heap.push { cls := .type "range", data := .fields #[.int lo t, .int hi u, .int 1 v] }).objs.size, [(s.heap.push { cls := .type "range", data := .fields #[.int lo t, .int hi u, .int 1 v] }).objs.size], _, _, H, rfl,
    I1.kept (t' := tk) fun b o e => Heap.get?_push_of_some _ e, turn_range _ lo (hi - lo).toNat, ?_, fun b hb => ?_, q⟩
  · have e1 : lo + ((0 : Nat) : Int) * 1 = lo := by simp
    have e2 : (((hi - lo).toNat : Nat) : Int) - ((0 : Nat) : Int) = Builtin.Range.rangeSize lo hi 1 := by rw [rangeSize_one]; split <;> omega
    show IsRangeIter _ _ (lo + ((0 : Nat) : Int) * 1) ((((hi - lo).toNat : Nat) : Int) - ((0 : Nat) : Int)) 1
    rw [e1, e2]
    exact Heap.get?_push_size _ rfl
  · have e : b = (s.heap.push { cls := .type "range", data := .fields #[.int lo t, .int hi u, .int 1 v] }).objs.size := by simpa using hb
    subst e
    exact I1.fpOk (Nat.le_refl _) (I1.hok.fresh (Nat.le_refl _))
def iRng1 (ta : TA) : TI := fun σ H R => ta σ H fun vs H1 => ∃ j : Int, vs = [.int j] ∧ -(2 ^ 62) ≤ j ∧ j < 2 ^ 62 ∧ R (Itr 0 j.toNat) H1
def iRng2 (ta : TA) : TI := fun σ H R => ta σ H fun vs H1 => ∃ i j : Int, vs = [.int i, .int j] ∧ (-(2 ^ 62) ≤ i ∧ i < 2 ^ 62 ∧ -(2 ^ 62) ≤ j ∧ j < 2 ^ 62) ∧ R (Itr i (j - i).toNat) H1
theorem pi_range1 {a : Expr} {ta : TA} {p pos : Pos} (hg : Gl X "range") (hm : X.mg "range" = none) (ha : PA X [a] ta) (hs : starEach [a] X.env = [(false, eval a X.env)] := by rfl) : PI X tg (.Call (.Name "range" p) [a] [] pos) (iRng1 ta) := by
  intro pins s σ H R I h
  refine Call_ (ld_blt I hg hm boot_range (PyProof.Rows.callWith_type1 (thn (ha pos pins s σ H _ I h) fun us s1 ⟨vs, H1, I1, r1, q1⟩ => ?_) hs rfl))
  obtain ⟨j, e, q1, q2, q⟩ := q1
  subst e
  cases r1 with
  | cons r rr =>
    cases rr
    obtain ⟨t, rfl⟩ := r
    exact call_range_1 (range_it I1 (by omega) (by omega) q1 q2 (by simpa using q))
theorem pi_range2 {a b : Expr} {ta : TA} {p pos : Pos} (hg : Gl X "range") (hm : X.mg "range" = none) (ha : PA X [a, b] ta) (hs : starEach [a, b] X.env = [(false, eval a X.env), (false, eval b X.env)] := by rfl) (hs2 : starEach [b] X.env = [(false, eval b X.env)] := by rfl) :
    PI X tg (.Call (.Name "range" p) [a, b] [] pos) (iRng2 ta) := by
  intro pins s σ H R I h
  refine Call_ (ld_blt I hg hm boot_range (PyProof.Rows.callWith_type1 (thn (ha pos pins s σ H _ I h) fun us s1 ⟨vs, H1, I1, r1, q1⟩ => ?_) (by rw [hs, hs2]) (by rw [hs2]; rfl)))
  obtain ⟨i, j, e, ⟨q1, q2, q3, q4⟩, q⟩ := q1
  subst e
  cases r1 with
  | cons r rr =>
    cases rr with
    | cons r' rr =>
      cases rr
      obtain ⟨t, rfl⟩ := r
      obtain ⟨t', rfl⟩ := r'
      exact call_range_2 (range_it I1 q1 q2 q3 q4 q)

/-! ### for -/
/-- W: the invariant by the turn and a measure; N: what the body is to reach -/
def tFor (wi : TI) (g : TG) (tb : TS) : TS := fun D σ H => wi σ H fun J H1 => ∃ W : Nat → Nat → St → Hp → Prop, (∃ m, W 0 m σ H1) ∧ ∀ i m σ H, W i m σ H →
  (J.stop i H ∧ D.nx σ H) ∨ (J.go i H ∧ ∃ N : St → Hp → Prop, (∀ σ' H', N σ' H' → ∃ m', m' < m ∧ W (i + 1) m' σ' H') ∧ ∀ x H', J.yld i H x H' → g x σ H' fun σ2 H2 => tb { D with nx := N, ct := N, bk := D.nx } σ2 H2)
/-- the records at fp as they stand -/
def pinsAt (fp : List Addr) (h : Heap) : List (Addr × Obj) := fp.filterMap fun b => (h.get? b).map fun o => (b, o)
theorem mem_pinsAt {fp : List Addr} {h : Heap} {b : Addr} {o : Obj} (hb : b ∈ fp) (e : h.get? b = some o) : (b, o) ∈ pinsAt fp h := List.mem_filterMap.mpr ⟨b, hb, by rw [e]; rfl⟩
theorem of_pinsAt {fp : List Addr} {h : Heap} {p : Addr × Obj} (hp : p ∈ pinsAt fp h) : p.1 ∈ fp ∧ h.get? p.1 = some p.2 := by
  obtain ⟨b, hb, e⟩ := List.mem_filterMap.mp hp
  cases q : h.get? b with
  | none => rw [q] at e; cases e
  | some o =>
    rw [q] at e
    have e' : (b, o) = p := Option.some.inj e
    subst e'
    exact ⟨hb, q⟩
theorem Inv.pinned {pins : List (Addr × Obj)} {σ : St} {H : Hp} {s : Shared} {fp : List Addr} (I : Inv X pins σ H s) (hf : ∀ b ∈ fp, FpOk X pins H b) (ho : ∀ b ∈ fp, ∃ o, s.heap.get? b = some o ∧ ∀ v, o.data ≠ .cell v) : Inv X (pins ++ pinsAt fp s.heap) σ H s :=
  I.pins_of fun p hp => (List.mem_append.mp hp).elim (fun z => I.pin p (List.mem_append_right _ z)) fun z => by
    obtain ⟨hb, e⟩ := of_pinsAt z
    obtain ⟨f0, f1, f2, _⟩ := hf p.1 hb
    obtain ⟨o, e', d⟩ := ho p.1 hb
    rw [e] at e'; cases e'
    exact ⟨e, f0, f1, f2, d⟩
theorem Inv.unpinned {pins pl : List (Addr × Obj)} {σ : St} {H : Hp} {s : Shared} (I : Inv X (pins ++ pl) σ H s) : Inv X pins σ H s := I.pins_of fun p hp => I.pin p (List.mem_append_right _ (List.mem_append_left _ hp))
theorem ps_for {iter : Expr} {body : List Stmt} {wi : TI} {g : TG} {tb : TS} {pos : Pos} (hp : PassesOwn (model X.prog X.w) X.A X.env X.xe) (hc : X.calm = true) (hi : PI X tg iter wi) (hg : PG X tg g) (hb : PSs X body tb)
    (hs : ∀ x, foldedSetIterable iter X.env x = pure x := by intro _; rfl) : PS X (.For tg iter body [] pos) (tFor wi g tb) := by
  intro pins s σ H D I h
  refine wpAny_For (thn (hi pins s σ H _ I h) fun v s1 h1 => thn h1 fun itv s2 h2 => ?_) hs
  obtain ⟨it, fp, tn, J, H2, e, I2, T, st2, f2, W, ⟨m0, w0⟩, turn⟩ := h2
  subst e
  -- what stays true of the iterator's objects through the loop
  have stat : ∀ {H' : Hp}, (∀ b ∈ fp, H' b = none) → ∀ b ∈ fp, FpOk X pins H' b := fun hn b hb => ⟨hn b hb, (f2 b hb).2⟩
  refine codeAny_forLoop_any (fun n s' => ∃ i σ' H', Inv X pins σ' H' s' ∧ tn i s'.heap ∧ (∀ b ∈ fp, H' b = none) ∧ W i n σ' H') ?_ m0 ⟨0, σ, H2, I2, st2, fun b hb => (f2 b hb).1, w0⟩
  rintro n s3 ⟨i, σ3, H3, I3, st3, fr3, w3⟩
  rcases turn i n σ3 H3 w3 with ⟨stop, qn⟩ | ⟨go, N, hN, step⟩
  · refine wpAny_passesOwn hp (thn (T.done X rfl rfl rfl hc i pins s3 σ3 H3 X.xe I3 (stat fr3) st3 stop) fun r s4 ⟨hr, I4⟩ => ?_)
    subst hr
    exact wpAny_execs_nil ⟨σ3, H3, I4, qn⟩
  · refine wpAny_passesOwn hp (thn (T.item X rfl rfl rfl hc i pins s3 σ3 H3 X.xe I3 (stat fr3) st3 go) fun r s4 ⟨u, hr, h4⟩ => ?_)
    subst hr
    refine wpAny_passesOwn hp (thn h4 fun _ s5 ⟨x, H5, I5, r5, y5, st5, fr5⟩ => ?_)
    have I5' := I5.pinned (stat fr5) (T.obj _ _ st5)
    refine wpAny_passesOwn hp (thn (hg _ s5 σ3 H5 x u _ I5' r5 (step x H5 y5)) fun _ s6 ⟨σ6, H6, I6, q6⟩ => ?_)
    refine wpAny_passesOwn hp (thn (hb _ s6 σ6 H6 _ I6 q6) fun f s7 q7 => ?_)
    have again : ∀ {σ7 : St} {H7 : Hp}, Inv X (pins ++ pinsAt fp s5.heap) σ7 H7 s7 → N σ7 H7 → ∃ m, m < n ∧ ∃ i σ' H', Inv X pins σ' H' s7 ∧ tn i s7.heap ∧ (∀ b ∈ fp, H' b = none) ∧ W i m σ' H' := fun {σ7 H7} I7 n7 => by
      obtain ⟨m', hm, w7⟩ := hN σ7 H7 n7
      refine ⟨m', hm, i + 1, σ7, H7, I7.unpinned, T.keep _ _ _ st5 fun b hb o e => (I7.pin (b, o) (List.mem_append_right _ (List.mem_append_right _ (mem_pinsAt hb e)))).1, fun b hb => ?_, w7⟩
      obtain ⟨o, e, d⟩ := T.obj _ _ st5 b hb
      exact (I7.pin (b, o) (List.mem_append_right _ (List.mem_append_right _ (mem_pinsAt hb e)))).2.1
    cases f with
    | next => obtain ⟨σ7, H7, I7, n7⟩ := q7; exact again I7 n7
    | cont => obtain ⟨σ7, H7, I7, n7⟩ := q7; exact again I7 n7
    | brk => obtain ⟨σ7, H7, I7, q7⟩ := q7; exact ⟨σ7, H7, I7.unpinned, q7⟩
    | ret v => obtain ⟨x7, σ7, H7, I7, r7, q7⟩ := q7; exact ⟨x7, σ7, H7, I7.unpinned, r7, q7⟩
end

/-! ### the forms one uses -/
/-- over a list that the body leaves as it is -/
theorem for_list {K : PySem.W.Frag} {a : Addr} {xs : List V} {g : TG} {tb : TS} {D : Ends} {σ : St} {H : Hp} (Pv : Nat → St → Hp → Prop) (h0 : Pv 0 σ H) (hl : ∀ i σ H, i ≤ xs.length → Pv i σ H → SqL K H a xs)
    (hs : ∀ i x σ H, xs[i]? = some x → Pv i σ H → g x σ H fun σ2 H2 => tb { D with nx := Pv (i + 1), ct := Pv (i + 1), bk := D.nx } σ2 H2) (hd : ∀ σ H, Pv xs.length σ H → D.nx σ H) :
    ∃ W : Nat → Nat → St → Hp → Prop, (∃ m, W 0 m σ H) ∧ ∀ i m σ H, W i m σ H →
      ((Itl K a).stop i H ∧ D.nx σ H) ∨ ((Itl K a).go i H ∧ ∃ N : St → Hp → Prop, (∀ σ' H', N σ' H' → ∃ m', m' < m ∧ W (i + 1) m' σ' H') ∧ ∀ x H', (Itl K a).yld i H x H' → g x σ H' fun σ2 H2 => tb { D with nx := N, ct := N, bk := D.nx } σ2 H2) := by
  refine ⟨fun i m σ H => m = xs.length - i ∧ i ≤ xs.length ∧ Pv i σ H, ⟨xs.length, by simp, Nat.zero_le _, h0⟩, ?_⟩
  rintro i m σ H ⟨rfl, hi, p⟩
  have q := hl i σ H hi p
  by_cases hlt : i < xs.length
  · refine .inr ⟨⟨xs, xs[i], q, by simp [hlt]⟩, Pv (i + 1), fun σ' H' p' => ⟨xs.length - (i + 1), by omega, rfl, hlt, p'⟩, fun x H' y => ?_⟩
    obtain ⟨e, y⟩ := y
    subst e
    exact hs i x σ _ (y xs q) p
  · have e : i = xs.length := by omega
    subst e
    exact .inl ⟨⟨xs, q, Nat.le_refl _⟩, hd σ H p⟩
theorem for_tup {K : PySem.W.Frag} {a : Addr} {xs : List V} {g : TG} {tb : TS} {D : Ends} {σ : St} {H : Hp} (Pv : Nat → St → Hp → Prop) (h0 : Pv 0 σ H) (hl : ∀ i σ H, i ≤ xs.length → Pv i σ H → SqT K H a xs)
    (hs : ∀ i x σ H, xs[i]? = some x → Pv i σ H → g x σ H fun σ2 H2 => tb { D with nx := Pv (i + 1), ct := Pv (i + 1), bk := D.nx } σ2 H2) (hd : ∀ σ H, Pv xs.length σ H → D.nx σ H) :
    ∃ W : Nat → Nat → St → Hp → Prop, (∃ m, W 0 m σ H) ∧ ∀ i m σ H, W i m σ H →
      ((Itt K a).stop i H ∧ D.nx σ H) ∨ ((Itt K a).go i H ∧ ∃ N : St → Hp → Prop, (∀ σ' H', N σ' H' → ∃ m', m' < m ∧ W (i + 1) m' σ' H') ∧ ∀ x H', (Itt K a).yld i H x H' → g x σ H' fun σ2 H2 => tb { D with nx := N, ct := N, bk := D.nx } σ2 H2) := by
  refine ⟨fun i m σ H => m = xs.length - i ∧ i ≤ xs.length ∧ Pv i σ H, ⟨xs.length, by simp, Nat.zero_le _, h0⟩, ?_⟩
  rintro i m σ H ⟨rfl, hi, p⟩
  have q := hl i σ H hi p
  by_cases hlt : i < xs.length
  · refine .inr ⟨⟨xs, xs[i], q, by simp [hlt]⟩, Pv (i + 1), fun σ' H' p' => ⟨xs.length - (i + 1), by omega, rfl, hlt, p'⟩, fun x H' y => ?_⟩
    obtain ⟨e, y⟩ := y
    subst e
    exact hs i x σ _ (y xs q) p
  · have e : i = xs.length := by omega
    subst e
    exact .inl ⟨⟨xs, q, Nat.le_refl _⟩, hd σ H p⟩
theorem for_range {lo : Int} {n : Nat} {g : TG} {tb : TS} {D : Ends} {σ : St} {H : Hp} (Pv : Nat → St → Hp → Prop) (h0 : Pv 0 σ H)
    (hs : ∀ i σ H, i < n → Pv i σ H → g (.int (lo + i)) σ H fun σ2 H2 => tb { D with nx := Pv (i + 1), ct := Pv (i + 1), bk := D.nx } σ2 H2) (hd : ∀ σ H, Pv n σ H → D.nx σ H) :
    ∃ W : Nat → Nat → St → Hp → Prop, (∃ m, W 0 m σ H) ∧ ∀ i m σ H, W i m σ H →
      ((Itr lo n).stop i H ∧ D.nx σ H) ∨ ((Itr lo n).go i H ∧ ∃ N : St → Hp → Prop, (∀ σ' H', N σ' H' → ∃ m', m' < m ∧ W (i + 1) m' σ' H') ∧ ∀ x H', (Itr lo n).yld i H x H' → g x σ H' fun σ2 H2 => tb { D with nx := N, ct := N, bk := D.nx } σ2 H2) := by
  refine ⟨fun i m σ H => m = n - i ∧ i ≤ n ∧ Pv i σ H, ⟨n, by simp, Nat.zero_le _, h0⟩, ?_⟩
  rintro i m σ H ⟨rfl, hi, p⟩
  by_cases hlt : i < n
  · refine .inr ⟨hlt, Pv (i + 1), fun σ' H' p' => ⟨n - (i + 1), by omega, rfl, hlt, p'⟩, fun x H' y => ?_⟩
    obtain ⟨e, y⟩ := y
    subst e y
    exact hs i σ _ hlt p
  · have e : i = n := by omega
    subst e
    exact .inl ⟨Nat.le_refl _, hd σ H p⟩
/-- while, by a word and a measure of the state -/
theorem while_by {c : TT} {tb : TS} {D : Ends} {σ : St} {H : Hp} (Pv : St → Hp → Prop) (μ : St → Hp → Nat) (h0 : Pv σ H)
    (hs : ∀ σ H, Pv σ H → c σ H fun b H1 => if b = true then tb { D with nx := fun σ' H' => Pv σ' H' ∧ μ σ' H' < μ σ H, ct := fun σ' H' => Pv σ' H' ∧ μ σ' H' < μ σ H, bk := D.nx } σ H1 else D.nx σ H1)
    (mono : ∀ σ H Q Q', (∀ b H1, Q b H1 → Q' b H1) → c σ H Q → c σ H Q') : tWhile c tb D σ H := by
  refine ⟨fun m σ H => m = μ σ H ∧ Pv σ H, ⟨_, rfl, h0⟩, ?_⟩
  rintro m σ H ⟨rfl, p⟩
  refine mono σ H _ _ (fun b H1 q => ?_) (hs σ H p)
  cases b with
  | true => exact ⟨_, fun σ' H' ⟨p', l⟩ => ⟨_, l, rfl, p'⟩, q⟩
  | false => exact q
end L2

namespace L2
open PySem PySem.Spec PyProof.Rows

abbrev R2 := V → V → Hp → VK → Prop
/-- a two-place operation on values: f is binaryOp op, inplaceOp op or compareOp op -/
def OpR (X : Cx) (f : Value → Value → Sem Value) (r : R2) : Prop :=
  ∀ (pins : List (Addr × Obj)) (s : Shared) (σ : St) (H : Hp) (x y : V) (v u : Value) (Q : VK), Inv X pins σ H s → RelV x v → RelV y u → r x y H Q →
    wpAny (model X.prog X.w) X.A (f v u) (EP X pins σ Q) X.xe s
/-- a one-place operation -/
def UnR (X : Cx) (f : Value → Sem Value) (r : V → Hp → VK → Prop) : Prop :=
  ∀ (pins : List (Addr × Obj)) (s : Shared) (σ : St) (H : Hp) (x : V) (v : Value) (Q : VK), Inv X pins σ H s → RelV x v → r x H Q →
    wpAny (model X.prog X.w) X.A (f v) (EP X pins σ Q) X.xe s
/-- a call of a value that is known (a builtin, a type) with values -/
def CallR (X : Cx) (f : Value) (r : List V → Hp → VK → Prop) : Prop :=
  ∀ (pins : List (Addr × Obj)) (s : Shared) (σ : St) (H : Hp) (xs : List V) (us : List Value) (Q : VK), Inv X pins σ H s → Vals xs us → r xs H Q →
    wpAny (model X.prog X.w) X.A (call f us) (EP X pins σ Q) X.xe s
def tOp (r : R2) (ta tb : TE) : TE := fun σ H Q => ta σ H fun x H1 => tb σ H1 fun y H2 => r x y H2 Q
def tUn (r : V → Hp → VK → Prop) (ta : TE) : TE := fun σ H Q => ta σ H fun x H1 => r x H1 Q
/-- ints in, under C, and a value out -/
def rI (C : Int → Int → Prop) (g : Int → Int → V) : R2 := fun x y H Q => ∃ i j, x = .int i ∧ y = .int j ∧ C i j ∧ Q (g i j) H
def rI0 (g : Int → Int → V) : R2 := fun x y H Q => ∃ i j, x = .int i ∧ y = .int j ∧ Q (g i j) H
def rU (g : Int → V) : V → Hp → VK → Prop := fun x H Q => ∃ i, x = .int i ∧ Q (g i) H

section
variable {X : Cx} {a b c : Expr} {ta tb tc : TE} {pos : Pos}

theorem binT (ha : PE X a ta) (hb : PE X b tb) {pins : List (Addr × Obj)} {s : Shared} {σ : St} {H : Hp} {R : V → V → Hp → Prop} (I : Inv X pins σ H s)
    (h : ta σ H fun x H1 => tb σ H1 fun y H2 => R x y H2) {Q : Value → Shared → Prop} {f : Value → Value → Sem Value}
    (hf : ∀ v u s2 x y H2, Inv X pins σ H2 s2 → RelV x v → RelV y u → R x y H2 → wpAny (model X.prog X.w) X.A (f v u) Q X.xe s2) :
    wpAny (model X.prog X.w) X.A (eval a X.env) (fun v s₁ => wpAny (model X.prog X.w) X.A (eval b X.env) (fun u s₂ => wpAny (model X.prog X.w) X.A (f v u) Q X.xe s₂) X.xe s₁) X.xe s := by
  refine thn (ha pins s σ H _ I h) fun v s1 ⟨x, H1, I1, r1, q1⟩ => ?_
  refine thn (hb pins s1 σ H1 _ I1 q1) fun u s2 ⟨y, H2, I2, r2, q2⟩ => ?_
  exact hf v u s2 x y H2 I2 r1 r2 q2

theorem pe_op {op : Operator} {r : R2} (ho : OpR X (binaryOp op) r) (ha : PE X a ta) (hb : PE X b tb) : PE X (.BinOp a op b pos) (tOp r ta tb) := by
  intro pins s σ H Q I h
  exact wpAny_BinOp (binT ha hb I h fun v u s2 x y H2 I2 rx ry q => ho pins s2 σ H2 x y v u Q I2 rx ry q)
theorem pe_un {op : UnaryOp} {r : V → Hp → VK → Prop} (ho : UnR X (unaryOp op) r) (ha : PE X a ta) : PE X (.UnaryOp op a pos) (tUn r ta) := by
  intro pins s σ H Q I h
  exact UnaryOp_ (thn (ha pins s σ H _ I h) fun v s1 ⟨x, H1, I1, r1, q1⟩ => ho pins s1 σ H1 x v Q I1 r1 q1)
/-! ### ints -/
theorem opI {f : Value → Value → Sem Value} {C : Int → Int → Prop} {g : Int → Int → Int}
    (rule : ∀ (i j : Int) (t u : Tok) (s : Shared) (Q : Value → Shared → Prop) (E : Value → Shared → Prop), C i j → Q (.int (g i j) s.toks) { s with toks := s.toks + 1 } → wpAny (model X.prog X.w) X.A (f (.int i t) (.int j u)) Q E s) :
    OpR X f (rI C fun i j => .int (g i j)) := by
  intro pins s σ H x y v u Q I rx ry h
  obtain ⟨i, j, rfl, rfl, hc, q⟩ := h
  obtain ⟨t, rfl⟩ := rx
  obtain ⟨t', rfl⟩ := ry
  exact rule i j t t' s _ _ hc ⟨.int (g i j), H, I.tok _, ⟨_, rfl⟩, q⟩
theorem opI0 {f : Value → Value → Sem Value} {g : Int → Int → Int}
    (rule : ∀ (i j : Int) (t u : Tok) (s : Shared) (Q : Value → Shared → Prop) (E : Value → Shared → Prop), Q (.int (g i j) s.toks) { s with toks := s.toks + 1 } → wpAny (model X.prog X.w) X.A (f (.int i t) (.int j u)) Q E s) :
    OpR X f (rI0 fun i j => .int (g i j)) := by
  intro pins s σ H x y v u Q I rx ry h
  obtain ⟨i, j, rfl, rfl, q⟩ := h
  obtain ⟨t, rfl⟩ := rx
  obtain ⟨t', rfl⟩ := ry
  exact rule i j t t' s _ _ ⟨.int (g i j), H, I.tok _, ⟨_, rfl⟩, q⟩
theorem opB0 {f : Value → Value → Sem Value} {g : Int → Int → Bool}
    (rule : ∀ (i j : Int) (t u : Tok) (s : Shared) (Q : Value → Shared → Prop) (E : Value → Shared → Prop), Q (.bool (g i j)) s → wpAny (model X.prog X.w) X.A (f (.int i t) (.int j u)) Q E s) :
    OpR X f (rI0 fun i j => .bl (g i j)) := by
  intro pins s σ H x y v u Q I rx ry h
  obtain ⟨i, j, rfl, rfl, q⟩ := h
  obtain ⟨t, rfl⟩ := rx
  obtain ⟨t', rfl⟩ := ry
  exact rule i j t t' s _ _ ⟨.bl (g i j), H, I, rfl, q⟩

def CDiv (i j : Int) : Prop := 0 < j ∧ j < 1073741824
def CPow (i j : Int) : Prop := 0 ≤ j ∧ j ≤ 1000000 ∧ i.natAbs < 2 ^ 64
def CMul (i j : Int) : Prop := (-(2 ^ 64) < i ∧ i < 2 ^ 64) ∨ (-(2 ^ 64) < j ∧ j < 2 ^ 64)
theorem CMul.ok {i j : Int} (h : CMul i j) : IntMulOk i j := by
  rcases h with ⟨h1, h2⟩ | ⟨h1, h2⟩
  · exact .of_left (intBits_le_64 h1 h2)
  · exact .of_right (intBits_le_64 h1 h2)
theorem two_pow_nn (k : Nat) : (0 : Int) ≤ 2 ^ k := by
  rw [two_pow_cast]
  exact Int.natCast_nonneg _

theorem op_add : OpR X (binaryOp .Add) (rI0 fun i j => .int (i + j)) := opI0 fun _ _ _ _ _ _ _ q => add_int q
theorem op_sub : OpR X (binaryOp .Sub) (rI0 fun i j => .int (i - j)) := opI0 fun _ _ _ _ _ _ _ q => sub_int q
theorem op_mul : OpR X (binaryOp .Mult) (rI CMul fun i j => .int (i * j)) := opI fun _ _ _ _ _ _ _ hc q => mul_int q hc.ok
/-- // by a positive divisor -/
theorem op_fdiv : OpR X (binaryOp .FloorDiv) (rI CDiv fun i j => .int (i / j)) := opI fun i j _ _ _ _ _ hc q => by
  have h1 : (0 : Int) < j := hc.1
  have h2 : j < 1073741824 := hc.2
  exact floordiv_int (by omega) (by rw [Int.fdiv_eq_ediv_of_nonneg i (by omega)]; exact q) (.inl (PyProof.noPylong_small (by omega)))
/-- % by a positive divisor of any size -/
theorem op_mod : OpR X (binaryOp .Mod) (rI (fun _ j => 0 < j) fun i j => .int (i % j)) := opI fun i j _ _ _ _ _ hc q => by
  have h1 : (0 : Int) < j := hc
  exact mod_int' (by omega) (by rw [Int.fmod_eq_emod_of_nonneg i (by omega)]; exact q)
theorem op_pow : OpR X (binaryOp .Pow) (rI CPow fun i j => .int (i ^ j.toNat)) := opI fun _ _ _ _ _ _ _ hc q => pow_int_small hc.1 hc.2.1 hc.2.2 q
theorem op_shl : OpR X (binaryOp .LShift) (rI CPow fun i j => .int (i * 2 ^ j.toNat)) := opI fun _ _ _ _ _ _ _ hc q => lshift_int_small hc.1 hc.2.1 hc.2.2 q
theorem op_shr : OpR X (binaryOp .RShift) (rI (fun _ j => 0 ≤ j) fun i j => .int (i / 2 ^ j.toNat)) := opI fun i j _ _ _ _ _ hc q =>
  rshift_int hc (by rw [Int.fdiv_eq_ediv_of_nonneg i (two_pow_nn _)]; exact q)
theorem op_and : OpR X (binaryOp .BitAnd) (rI0 fun i j => .int (Builtin.bitAnd i j)) := opI0 fun _ _ _ _ _ _ _ q => and_int q
theorem unI {f : Value → Sem Value} {g : Int → Int}
    (rule : ∀ (i : Int) (t : Tok) (s : Shared) (Q : Value → Shared → Prop) (E : Value → Shared → Prop), Q (.int (g i) s.toks) { s with toks := s.toks + 1 } → wpAny (model X.prog X.w) X.A (f (.int i t)) Q E s) :
    UnR X f (rU fun i => .int (g i)) := by
  intro pins s σ H x v Q I rx h
  obtain ⟨i, rfl, q⟩ := h
  obtain ⟨t, rfl⟩ := rx
  exact rule i t s _ _ ⟨.int (g i), H, I.tok _, ⟨_, rfl⟩, q⟩
theorem un_neg : UnR X (unaryOp .USub) (rU fun i => .int (-i)) := unI fun _ _ _ _ _ q => neg_int q
/-! ### bools among ints: n += (a < b) -/
end

/-! ### comparisons -/
/-- the scalars that == tells apart as data does -/
def scal : V → V → Bool
  | .non, .non => true | .non, .int _ => true | .int _, .non => true | .non, .bl _ => true | .bl _, .non => true | .non, .str _ => true | .str _, .non => true
  | .int _, .int _ => true | .bl _, .bl _ => true | .str _, .str _ => true | .byt _, .byt _ => true
  | .int _, .str _ => true | .str _, .int _ => true | .bl _, .str _ => true | .str _, .bl _ => true
  | _, _ => false
def rEq : R2 := fun x y H Q => scal x y = true ∧ Q (.bl (decide (x = y))) H
def rNe : R2 := fun x y H Q => scal x y = true ∧ Q (.bl (!decide (x = y))) H

theorem dec_int {i j : Int} : decide (V.int i = V.int j) = (i == j) := by
  rw [Bool.eq_iff_iff]
  simp
theorem dec_bl {i j : Bool} : decide (V.bl i = V.bl j) = (i == j) := by
  rw [Bool.eq_iff_iff]
  simp
theorem dec_str {i j : Str} : decide (V.str i = V.str j) = (i == j) := by
  rw [Bool.eq_iff_iff]
  simp
theorem dec_byt {i j : Array UInt8} : decide (V.byt i = V.byt j) = (i.toList == j.toList) := by
  rw [Bool.eq_iff_iff]
  cases i
  cases j
  simp

section
variable {X : Cx} {a b c : Expr} {ta tb tc : TE} {pos : Pos}
theorem fin_bl {pins : List (Addr × Obj)} {σ : St} {H : Hp} {s : Shared} {Q : VK} {k k' : Bool} (I : Inv X pins σ H s) (q : Q (.bl k) H) (e : k = k') : EP X pins σ Q (.bool k') s := by
  subst e
  exact ⟨.bl k, H, I, rfl, q⟩
theorem op_eq : OpR X (compareOp .Eq) rEq := by
  intro pins s σ H x y v u Q I rx ry h
  obtain ⟨hs, q⟩ := h
  cases x with
  | non =>
    cases rx
    cases y with
    | non => cases ry; exact PySem.EqNone.eq_none_none (fin_bl I q (by simp))
    | bl j => cases ry; exact PySem.EqNone.eq_none_bool (fin_bl I q (by simp))
    | int j => obtain ⟨t', rfl⟩ := ry; exact PySem.EqNone.eq_none_int (fin_bl I q (by simp))
    | str j => obtain ⟨t', rfl⟩ := ry; exact PySem.EqNone.eq_none_str (fin_bl I q (by simp))
    | _ => exact absurd (show false = true from hs) Bool.false_ne_true
  | bl i =>
    cases rx
    cases y with
    | non => cases ry; exact PySem.EqNone.eq_bool_none (fin_bl I q (by simp))
    | bl j => cases ry; exact eq_bool (fin_bl I q dec_bl)
    | str j => obtain ⟨t', rfl⟩ := ry; exact PySem.EqMixed.eq_bool_str (fin_bl I q (by simp))
    | _ => exact absurd (show false = true from hs) Bool.false_ne_true
  | int i =>
    obtain ⟨t, rfl⟩ := rx
    cases y with
    | non => cases ry; exact PySem.EqNone.eq_int_none (fin_bl I q (by simp))
    | int j => obtain ⟨t', rfl⟩ := ry; exact eq_int (fin_bl I q dec_int)
    | str j => obtain ⟨t', rfl⟩ := ry; exact PySem.EqMixed.eq_int_str (fin_bl I q (by simp))
    | _ => exact absurd (show false = true from hs) Bool.false_ne_true
  | str i =>
    obtain ⟨t, rfl⟩ := rx
    cases y with
    | non => cases ry; exact PySem.EqNone.eq_str_none (fin_bl I q (by simp))
    | bl j => cases ry; exact PySem.EqMixed.eq_str_bool (fin_bl I q (by simp))
    | int j => obtain ⟨t', rfl⟩ := ry; exact PySem.EqMixed.eq_str_int (fin_bl I q (by simp))
    | str j => obtain ⟨t', rfl⟩ := ry; exact eq_str (fin_bl I q dec_str)
    | _ => exact absurd (show false = true from hs) Bool.false_ne_true
  | byt i =>
    obtain ⟨t, rfl⟩ := rx
    cases y with
    | byt j => obtain ⟨t', rfl⟩ := ry; exact PySem.W.eq_bytes (fin_bl I q dec_byt)
    | _ => exact absurd (show false = true from hs) Bool.false_ne_true
  | _ => cases y <;> exact absurd (show false = true from hs) Bool.false_ne_true
theorem op_ne : OpR X (compareOp .NotEq) rNe := by
  intro pins s σ H x y v u Q I rx ry h
  obtain ⟨hs, q⟩ := h
  cases x with
  | non =>
    cases rx
    cases y with
    | non => cases ry; exact PySem.EqNone.ne_none_none (fin_bl I q (by simp))
    | bl j => cases ry; exact PySem.EqNone.ne_none_bool (fin_bl I q (by simp))
    | int j => obtain ⟨t', rfl⟩ := ry; exact PySem.EqNone.ne_none_int (fin_bl I q (by simp))
    | str j => obtain ⟨t', rfl⟩ := ry; exact PySem.EqNone.ne_none_str (fin_bl I q (by simp))
    | _ => exact absurd (show false = true from hs) Bool.false_ne_true
  | bl i =>
    cases rx
    cases y with
    | non => cases ry; exact PySem.EqNone.ne_bool_none (fin_bl I q (by simp))
    | bl j => cases ry; exact ne_bool (fin_bl I q (congrArg not dec_bl))
    | str j => obtain ⟨t', rfl⟩ := ry; exact PySem.EqMixed.ne_bool_str (fin_bl I q (by simp))
    | _ => exact absurd (show false = true from hs) Bool.false_ne_true
  | int i =>
    obtain ⟨t, rfl⟩ := rx
    cases y with
    | non => cases ry; exact PySem.EqNone.ne_int_none (fin_bl I q (by simp))
    | int j => obtain ⟨t', rfl⟩ := ry; exact ne_int (fin_bl I q (congrArg not dec_int))
    | str j => obtain ⟨t', rfl⟩ := ry; exact PySem.EqMixed.ne_int_str (fin_bl I q (by simp))
    | _ => exact absurd (show false = true from hs) Bool.false_ne_true
  | str i =>
    obtain ⟨t, rfl⟩ := rx
    cases y with
    | non => cases ry; exact PySem.EqNone.ne_str_none (fin_bl I q (by simp))
    | bl j => cases ry; exact PySem.EqMixed.ne_str_bool (fin_bl I q (by simp))
    | int j => obtain ⟨t', rfl⟩ := ry; exact PySem.EqMixed.ne_str_int (fin_bl I q (by simp))
    | str j => obtain ⟨t', rfl⟩ := ry; exact ne_str (fin_bl I q (congrArg not dec_str))
    | _ => exact absurd (show false = true from hs) Bool.false_ne_true
  | byt i =>
    obtain ⟨t, rfl⟩ := rx
    cases y with
    | byt j => obtain ⟨t', rfl⟩ := ry; exact PySem.W.ne_bytes (fin_bl I q (congrArg not dec_byt))
    | _ => exact absurd (show false = true from hs) Bool.false_ne_true
  | _ => cases y <;> exact absurd (show false = true from hs) Bool.false_ne_true

theorem op_lt : OpR X (compareOp .Lt) (rI0 fun i j => .bl (decide (i < j))) := opB0 fun _ _ _ _ _ _ _ q => lt_int q
theorem op_le : OpR X (compareOp .LtE) (rI0 fun i j => .bl (decide (i ≤ j))) := opB0 fun _ _ _ _ _ _ _ q => le_int q
theorem op_gt : OpR X (compareOp .Gt) (rI0 fun i j => .bl (decide (j < i))) := opB0 fun _ _ _ _ _ _ _ q => gt_int q
theorem op_ge : OpR X (compareOp .GtE) (rI0 fun i j => .bl (decide (j ≤ i))) := opB0 fun _ _ _ _ _ _ _ q => ge_int q
/-- the one string within the other -/
theorem op_in_str : OpR X (compareOp .In) (fun x y H Q => ∃ i j, x = .str i ∧ y = .str j ∧ Q (.bl (!(Builtin.Str.occurrences j i 0 j.length 1).isEmpty)) H) := by
  intro pins s σ H x y v u Q I rx ry h
  obtain ⟨i, j, rfl, rfl, q⟩ := h
  obtain ⟨t, rfl⟩ := rx
  obtain ⟨t', rfl⟩ := ry
  exact in_str (fin_bl I q rfl)

theorem nomark (b : Expr) {op : CmpOp} (h : op ≠ .In := by decide) (h2 : op ≠ .NotIn := by decide) : behindInMarks op b = false := by
  have e1 : (op == CmpOp.In) = false := by cases op <;> first | rfl | exact absurd rfl h
  have e2 : (op == CmpOp.NotIn) = false := by cases op <;> first | rfl | exact absurd rfl h2
  cases b <;> simp [behindInMarks, e1, e2]
/-- a comparison as a value; hm: nomark b, or (for in, not in) by with_unfolding_all rfl -/
theorem pe_cmpR {op : CmpOp} {r : R2} (ho : OpR X (compareOp op) r) (ha : PE X a ta) (hb : PE X b tb) (hm : behindInMarks op b = false) : PE X (.Compare a [op] [b] pos) (tOp r ta tb) := by
  intro pins s σ H Q I h
  exact wpAny_Compare1 (binT ha hb I h fun v u s2 x y H2 I2 rx ry q => ho pins s2 σ H2 x y v u Q I2 rx ry q) hm
/-- a reading of a value as a test -/
def tTest (t : TE) : TT := fun σ H Q => t σ H fun x H' => ∃ k, x = .bl k ∧ Q k H'
theorem pt_cmpR {op : CmpOp} {r : R2} (ho : OpR X (compareOp op) r) (ha : PE X a ta) (hb : PE X b tb) (hm : behindInMarks op b = false) : PT X (.Compare a [op] [b] pos) (tTest (tOp r ta tb)) := by
  intro pins s σ H Q I h
  refine wpAny_isTrue_Compare1 (thn (ha pins s σ H _ I h) fun v s1 ⟨x, H1, I1, r1, q1⟩ => thn (hb pins s1 σ H1 _ I1 q1) fun u s2 ⟨y, H2, I2, r2, q2⟩ =>
    thn (ho pins s2 σ H2 x y v u _ I2 r1 r2 q2) fun c s3 ⟨z, H3, I3, r3, k, e, q3⟩ => ?_) hm
  subst e
  cases r3
  exact wpAny_truthy_bool ⟨H3, I3, q3⟩
/-- a op1 b op2 c -/
def tChain (r r' : R2) (ta tb tc : TE) : TE := fun σ H Q => ta σ H fun x H1 => tb σ H1 fun y H2 => r x y H2 fun z H3 => ∃ k, z = .bl k ∧
  (if k = true then tc σ H3 fun w' H4 => r' y w' H4 Q else Q (.bl false) H3)
theorem pe_chain {op op' : CmpOp} {r r' : R2} (ho : OpR X (compareOp op) r) (ho' : OpR X (compareOp op') r') (ha : PE X a ta) (hb : PE X b tb) (hc : PE X c tc)
    (hm : lastMarks [op, op'] [b, c] = false := by with_unfolding_all rfl) : PE X (.Compare a [op, op'] [b, c] pos) (tChain r r' ta tb tc) := by
  intro pins s σ H Q I h
  refine Compare_chain (thn (ha pins s σ H _ I h) fun v s1 ⟨x, H1, I1, r1, q1⟩ => chain_link (thn (hb pins s1 σ H1 _ I1 q1) fun u s2 ⟨y, H2, I2, r2, q2⟩ =>
    thn (ho pins s2 σ H2 x y v u _ I2 r1 r2 q2) fun d s3 ⟨z, H3, I3, r3, k, e, q3⟩ => ?_)) hm
  subst e
  cases r3
  refine wpAny_truthy_bool ?_
  cases k with
  | false => exact ite_ff ⟨.bl false, H3, I3, rfl, q3⟩
  | true => exact ite_tt (chain_last (thn (hc pins s3 σ H3 _ I3 q3) fun w' s4 ⟨z', H4, I4, r4, q4⟩ => ho' pins s4 σ H4 y z' u w' Q I4 r2 r4 q4))
theorem pt_chain {op op' : CmpOp} {r r' : R2} (ho : OpR X (compareOp op) r) (ho' : OpR X (compareOp op') r') (ha : PE X a ta) (hb : PE X b tb) (hc : PE X c tc)
    (hm : lastMarks [op, op'] [b, c] = false := by with_unfolding_all rfl) : PT X (.Compare a [op, op'] [b, c] pos) (tTest (tChain r r' ta tb tc)) := by
  intro pins s σ H Q I h
  refine isTrue_chain (thn (ha pins s σ H _ I h) fun v s1 ⟨x, H1, I1, r1, q1⟩ => test_link (thn (hb pins s1 σ H1 _ I1 q1) fun u s2 ⟨y, H2, I2, r2, q2⟩ =>
    thn (ho pins s2 σ H2 x y v u _ I2 r1 r2 q2) fun d s3 ⟨z, H3, I3, r3, k, e, q3⟩ => ?_)) hm
  subst e
  cases r3
  refine wpAny_truthy_bool ?_
  cases k with
  | false =>
    obtain ⟨k', e', q'⟩ := q3
    cases e'
    exact ite_ff ⟨H3, I3, q'⟩
  | true =>
    refine ite_tt (test_last (thn (hc pins s3 σ H3 _ I3 q3) fun w' s4 ⟨z', H4, I4, r4, q4⟩ => thn (ho' pins s4 σ H4 y z' u w' _ I4 r2 r4 q4) fun d' s5 ⟨z2, H5, I5, r5, k2, e2, q5⟩ => ?_))
    subst e2
    cases r5
    exact wpAny_truthy_bool ⟨H5, I5, q5⟩

/-! ### truth -/
theorem line63 : (sizeLine : Nat) < 2 ^ 63 := by rw [sizeLine_eq]; decide
/-! ### strs and bytes -/
theorem op_add_str : OpR X (binaryOp .Add) (fun x y H Q => ∃ i j, x = .str i ∧ y = .str j ∧ i.length + j.length ≤ sizeLine ∧ Q (.str (i ++ j)) H) := by
  intro pins s σ H x y v u Q I rx ry h
  obtain ⟨i, j, rfl, rfl, hz, q⟩ := h
  obtain ⟨t, rfl⟩ := rx
  obtain ⟨t', rfl⟩ := ry
  exact add_str (fun t' tk => ⟨.str (i ++ j), H, I.tok _, ⟨_, rfl⟩, q⟩) hz
/-! ### scalar builtins, by CallR -/
theorem vals1 {x : V} {us : List Value} (r : Vals [x] us) : ∃ u, us = [u] ∧ RelV x u := by
  cases r with
  | cons r1 r2 => cases r2; exact ⟨_, rfl, r1⟩
theorem vals2 {x y : V} {us : List Value} (r : Vals [x, y] us) : ∃ u w', us = [u, w'] ∧ RelV x u ∧ RelV y w' := by
  cases r with
  | cons r1 r2 =>
    cases r2 with
    | cons r3 r4 => cases r4; exact ⟨_, _, rfl, r1, r3⟩
theorem call_min2 (hc : X.calm = true) : CallR X (.builtin "min") (fun xs H Q => ∃ i j, xs = [.int i, .int j] ∧ Q (.int (if j < i then j else i)) H) := by
  intro pins s σ H xs us Q I r h
  obtain ⟨i, j, rfl, q⟩ := h
  obtain ⟨u, w', rfl, ⟨t, rfl⟩, ⟨t', rfl⟩⟩ := vals2 r
  refine min_two_ints (I.ok.hd hc) fun h' tk k => ⟨_, H, I.kept k, ?_, q⟩
  by_cases hj : j < i
  · rw [if_pos hj, if_pos hj]; exact ⟨_, rfl⟩
  · rw [if_neg hj, if_neg hj]; exact ⟨_, rfl⟩
theorem call_int1 : CallR X (.type "int") (fun xs H Q => (∃ i, xs = [.int i] ∧ Q (.int i) H) ∨ ∃ k, xs = [.bl k] ∧ Q (.int (if k then 1 else 0)) H) := by
  intro pins s σ H xs us Q I r h
  rcases h with ⟨i, rfl, q⟩ | ⟨k, rfl, q⟩
  · obtain ⟨u, rfl, t, rfl⟩ := vals1 r
    exact call_int_int ⟨.int i, H, I, ⟨_, rfl⟩, q⟩
  · obtain ⟨u, rfl, r1⟩ := vals1 r
    cases r1
    exact call_int_bool ⟨.int (if k then 1 else 0), H, I.tok _, ⟨_, rfl⟩, q⟩
theorem call_str_int : CallR X (.type "str") (fun xs H Q => ∃ i, xs = [.int i] ∧ i.natAbs.log2 < 1920 ∧ Q (.str (toString i)) H) := by
  intro pins s σ H xs us Q I r h
  obtain ⟨i, rfl, hz, q⟩ := h
  obtain ⟨u, rfl, t, rfl⟩ := vals1 r
  exact PySem.P.str_of_int hz ⟨.str _, H, I.tok _, ⟨_, rfl⟩, q⟩
end
end L2

namespace L2
open PySem PySem.Spec PyProof.Rows

/-! ### an instance, its attributes a map -/
structure ObjM (h : Heap) (x dx C : Addr) (mA : Str → Option Value) : Prop where
  obj : h.get? x = some (PySem.W.instObj C dx)
  ns : h.Ns1 dx mA
  ne : dx ≠ x

theorem lookIn_ns {h : Heap} {dx : Addr} {mA : Str → Option Value} (n : h.Ns1 dx mA) : ∃ od, h.get? dx = some od ∧ ∀ name, PySem.W.lookIn name od = some (mA name) := by
  obtain ⟨o, es, ep, ho, hd, hk, _, hm⟩ := n
  refine ⟨o, ho, fun name => ?_⟩
  have e := hm name
  unfold nsFind findBy at e
  rw [← Array.find?_toList] at e
  unfold PySem.W.lookIn
  rw [hd]
  dsimp only
  split
  · rename_i y q
    rw [q] at e
    exact congrArg some e
  · rename_i q
    rw [q] at e
    have a : es.toList.any (·.refKey) = false := by
      rw [List.any_eq_false]
      intro y hy
      obtain ⟨z, t, hkey⟩ := hk y (Array.mem_toList_iff.mp hy)
      simp [DictEntry.refKey, hkey]
    have a' : ¬ es.toList.any (·.refKey) = true := by rw [a]; exact Bool.false_ne_true
    rw [if_neg a']
    exact congrArg some e

theorem ObjM.look {h : Heap} {x dx C : Addr} {mA : Str → Option Value} (I : ObjM h x dx C mA) : ∃ od, PySem.W.InstAt h x (PySem.W.instObj C dx) C (some od) ∧ ∀ name, PySem.W.lookIn name od = some (mA name) :=
  let ⟨od, ho, hl⟩ := lookIn_ns I.ns
  ⟨od, ⟨I.obj, rfl, rfl, ho⟩, hl⟩

section
variable {prog : Program} {w : World} {A : Around} {E : Value → Shared → Prop} {s : Shared} {K : PySem.W.Frag} {x dx C f : Addr} {mA : Str → Option Value} {name : Str} {v : Value}

end

/-! ### the attributes as a list of pairs -/
section
variable {P : Program} {w : World} {H H' : Hp} {h h' : Heap} {a C dx : Addr} {fs fs' : List (Str × V)}
theorem ins_get (hok : HOk P w H h) (e : H a = some (.ins C dx fs)) : ∃ mA, ObjM h a dx C mA ∧ (∀ f, RelO (fs.lookup f) (mA f)) ∧ PySem.Within mA (fs.map (·.1)) ∧ fs.length ≤ 1000 ∧ H dx = some (.own a) := by
  obtain ⟨d, z, ne, ob, mA, n, r, q⟩ := (show ObjOk P w H h a (.ins C dx fs) from hok a _ e)
  exact ⟨mA, ⟨ob, n, ne⟩, r, q, z, d⟩
end

/-! ### what of the text a class must have -/
structure Cls (K : PySem.W.Frag) (C : Addr) : Prop where
  pg : PySem.W.plainGet K C Str.empty = true
  hd : PySem.W.hasDictIn K C = true
  po : PySem.W.plainOver K C = true
  sa : PySem.W.findIn K (.ref C) "__setattr__" = some (some (.builtin "object.__setattr__"))
theorem Cls.get {K : PySem.W.Frag} {C : Addr} (c : Cls K C) (f : Str) : PySem.W.plainGet K C f = true := c.pg
section
variable {X : Cx} {pins : List (Addr × Obj)} {σ : St} {H : Hp} {s : Shared} {a C dx : Addr} {fs : List (Str × V)} {f : Str} {v : V} {A : Around} {E : Value → Shared → Prop}

end

/-! ### readings and rules -/
section
variable {X : Cx} {o e value : Expr} {f : Str} {pos pos' tpos : Pos} {ta tv : TE}
end

/-! ### isinstance -/
section
variable {X : Cx} {pins : List (Addr × Obj)} {σ : St} {H : Hp} {s : Shared} {A : Around} {E : Value → Shared → Prop} {Q : Value → Shared → Prop} {c : Value} {b : Bool}
/-- the type of a value, as the fragment's deciders take it; for an instance its class -/
inductive TyOf (K : PySem.W.Frag) (H : Hp) : V → Value → Prop where
  | non : TyOf K H .non (.type "NoneType")
  | bl (x : Bool) : TyOf K H (.bl x) (.type "bool")
  | int (i : Int) : TyOf K H (.int i) (.type "int")
  | str (x : Str) : TyOf K H (.str x) (.type "str")
  | flt (x : UInt64) : TyOf K H (.flt x) (.type "float")
  | lst {a : Addr} {xs : List V} (e : H a = some (.lst xs)) : TyOf K H (.ref a) (.type "list")
  | frz {a : Addr} {o : Obj} {xs : List V} (e : H a = some (.frz o (.lst xs))) : TyOf K H (.ref a) (.type "list")
  | tup {a : Addr} {xs : List V} (e : H a = some (.tup xs)) : TyOf K H (.ref a) (.type "tuple")
  | dK {a : Addr} {kvs : List (Key × V)} (e : H a = some (.dK kvs)) : TyOf K H (.ref a) (.type "dict")
  | dT {a : Addr} {kvs : List (List Key × V)} (e : H a = some (.dT kvs)) : TyOf K H (.ref a) (.type "dict")
  | ins {a C dx : Addr} {fs : List (Str × V)} (e : H a = some (.ins C dx fs)) (cl : Cls K C) (ha : PySem.W.findIn K (.ref C) "__class__" = some (some (.builtin "object.__class__")))
      (hn : PySem.W.specialIn K (.builtin "object.__class__") "__get__" = some (some (.builtin "getset_descriptor.__get__"))) (htk : PySem.W.takesIn K (.builtin "object.__class__") = some true)
      (hm : PySem.W.mroIn K C (.type "object") = some true) : TyOf K H (.ref a) (.ref C)
/-- isinstance(x, c) for one class c, a built-in or an own one: kitOne's answer -/
theorem isinst_ok {x : V} {u t : Value} (I : Inv X pins σ H s) (rx : RelV x u) (ty : TyOf X.K H x t) (e : PySem.W.kitOne X.K t c = some b) (h : ∀ tk, Q (.bool b) { s with toks := tk }) :
    wpAny (model X.prog X.w) A (call (.builtin "isinstance") [u, c]) Q E s := by
  cases ty with
  | non => cases (show u = Value.none from rx); exact PySem.W.kia_one PySem.W.kitx_none I.kIn True.intro e (fun z => nomatch z) h
  | bl y => cases (show u = Value.bool y from rx); exact PySem.W.kia_one PySem.W.kitx_bool I.kIn True.intro e (fun z => nomatch z) h
  | int i => obtain ⟨t, q⟩ := (show ∃ t, u = Value.int i t from rx); cases q; exact PySem.W.kia_one PySem.W.kitx_int I.kIn True.intro e (fun z => nomatch z) h
  | str y => obtain ⟨t, q⟩ := (show ∃ t, u = Value.str y t from rx); cases q; exact PySem.W.kia_one PySem.W.kitx_str I.kIn True.intro e (fun z => nomatch z) h
  | flt y => obtain ⟨t, q⟩ := (show ∃ t, u = Value.float y t from rx); cases q; exact PySem.W.kia_one PySem.W.kitx_float I.kIn True.intro e (fun z => nomatch z) h
  | @lst a xs ea =>
    cases (show u = Value.ref a from rx)
    obtain ⟨_, _, n, _, h1⟩ := (show ObjOk X.prog X.w H s.heap a (.lst xs) from I.hok a _ ea)
    exact PySem.W.kia_one PySem.W.kitx_list I.kIn ⟨_, h1, rfl⟩ e (fun z => nomatch z) h
  | @frz a ob xs ea =>
    cases (show u = Value.ref a from rx)
    obtain ⟨_, _, _, n, _, h1⟩ := (show ObjOk X.prog X.w H s.heap a (.frz ob (.lst xs)) from I.hok a _ ea)
    exact PySem.W.kia_one PySem.W.kitx_list I.kIn ⟨_, h1, rfl⟩ e (fun z => nomatch z) h
  | @tup a xs ea =>
    cases (show u = Value.ref a from rx)
    obtain ⟨_, _, _, p⟩ := (show ObjOk X.prog X.w H s.heap a (.tup xs) from I.hok a _ ea)
    obtain ⟨o, h1, h2, _⟩ := p
    exact PySem.W.kia_one PySem.W.kitx_tuple I.kIn ⟨o, h1, h2⟩ e (fun z => nomatch z) h
  | @dK a kvs ea =>
    cases (show u = Value.ref a from rx)
    obtain ⟨_, _, vs, _, p⟩ := (show ObjOk X.prog X.w H s.heap a (.dK kvs) from I.hok a _ ea)
    obtain ⟨o, es, ep, h1, h2, _⟩ := p
    exact PySem.W.kia_one PySem.W.kitx_dict I.kIn ⟨o, h1, h2.1⟩ e (fun z => nomatch z) h
  | @dT a kvs ea =>
    cases (show u = Value.ref a from rx)
    obtain ⟨_, _, xs, _, o, es, ep, h1, h2, _⟩ := (show ObjOk X.prog X.w H s.heap a (.dT kvs) from I.hok a _ ea)
    exact PySem.W.kia_one PySem.W.kitx_dict I.kIn ⟨o, h1, h2.1⟩ e (fun z => nomatch z) h
  | @ins a C dx fs ea cl ha hn htk hm =>
    cases (show u = Value.ref a from rx)
    obtain ⟨mA, O, _⟩ := ins_get I.hok ea
    obtain ⟨od, J, _⟩ := O.look
    exact PySem.W.kia_one (PySem.W.kitx_own (cl.get _) cl.hd ha hn htk hm) I.kIn J e (fun z => nomatch z) h
end
end L2

namespace L2
open PySem PySem.Spec PyProof.Rows

/-! ### room -/
structure Room (k : Nat) (A : Around) : Prop where
  hd : A.handled = none
  dp : A.depth + 3 * k + 5 < recursionLimit
  un : A.units + 16 * k + 200 < cLine
theorem Room.mono {j k : Nat} {A : Around} (r : Room k A) (h : j ≤ k) : Room j A := ⟨r.hd, by have := r.dp; omega, by have := r.un; omega⟩
theorem Room.deeper {k : Nat} {A : Around} (r : Room (k + 1) A) (env : Env) : Room k (A.deeper env) :=
  ⟨r.hd, by have := r.dp; show A.depth + 1 + 3 * k + 5 < _; omega, by have := r.un; show A.units + 3 + 16 * k + 200 < _; omega⟩
theorem Room.depth {k : Nat} {A : Around} (r : Room k A) : A.depth < recursionLimit := by have := r.dp; omega
theorem Room.units {k : Nat} {A : Around} (r : Room k A) : A.units + 64 < cLine := by have := r.un; omega
/-! ### argument lists and displays -/
def tNil : TA := fun _ H Q => Q [] H
def tCons (ta : TE) (tr : TA) : TA := fun σ H Q => ta σ H fun x H1 => tr σ H1 fun xs H2 => Q (x :: xs) H2
section
variable {X : Cx} {e : Expr} {es : List Expr} {te : TE} {t : TA} {pos : Pos}
theorem pa_nil : PA X [] tNil := fun _ _ _ _ H Q I h => Calls.spliced_nil ⟨[], H, I, .nil, h⟩
theorem pa_cons (ha : PE X e te) (hr : PA X es t) (hs : starEach (e :: es) X.env = (false, eval e X.env) :: starEach es X.env := by rfl) : PA X (e :: es) (tCons te t) := by
  intro pos pins s σ H Q I h
  rw [hs]
  show wpAny _ _ (spliced ((false, eval e X.env) :: backTo pos (starEach es X.env))) _ _ s
  refine Calls.spliced_cons (thn (ha pins s σ H _ I h) fun u s1 ⟨x, H1, I1, r1, q1⟩ => ?_)
  exact thn (hr pos pins s1 σ H1 _ I1 q1) fun us s2 ⟨xs, H2, I2, r2, q2⟩ => ⟨x :: xs, H2, I2, .cons r1 r2, q2⟩

/-- a tuple, a list of written items -/
def tTup (t : TA) : TE := fun σ H Q => t σ H fun xs H1 => xs.length ≤ sizeLine ∧ ∀ p, H1 p = none → Q (.ref p) (upd H1 p (.tup xs))
def tLst (t : TA) : TE := fun σ H Q => t σ H fun xs H1 => xs.length ≤ sizeLine ∧ ∀ p, H1 p = none → Q (.ref p) (upd H1 p (.lst xs))
theorem pe_tup {x1} (h : PA X es t) : PE X (.Tuple es x1 pos) (tTup t) := by
  intro pins s σ H Q I hq
  refine wpAny_Tuple_spliced (thn (h pos pins s σ H _ I hq) fun us s1 ⟨xs, H1, I1, r, z, q⟩ => ⟨by rw [← r.length]; exact z, ?_⟩)
  have hf : H1 s1.heap.objs.size = none := I1.hok.fresh (Nat.le_refl _)
  refine ⟨.ref s1.heap.objs.size, upd H1 s1.heap.objs.size (.tup xs), I1.laid (t' := s1.toks) (fun b u e => Heap.get?_push_of_some _ e) (Nat.le_refl _) ?_, rfl, q _ hf⟩
  exact ⟨z, us, r, ⟨_, Heap.get?_push_size _ rfl, rfl, _, rfl⟩⟩
theorem pe_lst (h : PA X es t) : PE X (.List es pos) (tLst t) := by
  intro pins s σ H Q I hq
  refine wpAny_List_spliced (thn (h pos pins s σ H _ I hq) fun us s1 ⟨xs, H1, I1, r, z, q⟩ => ⟨by rw [← r.length]; exact z, ?_⟩)
  have hf : H1 s1.heap.objs.size = none := I1.hok.fresh (Nat.le_refl _)
  refine ⟨.ref s1.heap.objs.size, upd H1 s1.heap.objs.size (.lst xs), I1.laid (t' := s1.toks) (fun b u e => Heap.get?_push_of_some _ e) (Nat.le_refl _) ?_, rfl, q _ hf⟩
  exact ⟨z, us, 0, r, Heap.get?_push_size _ rfl⟩
end

/-! ### what a def promises -/
/-- a def's promise: the bound arguments in the parameters' order, the heap, the wanted end, the wanted exception -/
abbrev Sp := List V → Hp → VK → XK → Prop
/-- how an exception lies behind a call (file 08 gives it): the callers' frames, abstract heap and state ahead of the call, the wish, the exception, the state -/
abbrev CXT := List Env → Hp → Shared → XK → Value → Shared → Prop

/-- the state at a call -/
structure Env0 (P : Program) (w : World) (K : PySem.W.Frag) (mg : Str → Option Value) (base : Heap) (A : Around) (outer : List Env) (s : Shared) (H : Hp) : Prop where
  frames : A.frames = some outer
  mod : Mod K mg base
  bs : ∀ b o, base.get? b = some o → s.heap.get? b = some o ∧ H b = none
  bsz : base.objs.size ≤ s.heap.objs.size
  funs : s.heap.FunFrames base outer
  frf : ∀ b ∈ frs outer, H b = none
  hok : HOk P w H s.heap
  bare : AllBare s.gens
/-- a call's end -/
def CE (outer : List Env) (P : Program) (w : World) (H : Hp) (s : Shared) (Q : VK) (u : Value) (s' : Shared) : Prop :=
  ∃ v H', s'.os = s.os ∧ AllBare s'.gens ∧ Un (frs outer) [] H H' s.heap s'.heap ∧ HOk P w H' s'.heap ∧ RelV v u ∧ Q v H'
def CR (CX : CXT) (outer : List Env) (P : Program) (w : World) (H : Hp) (s : Shared) (Q : VK) (E : XK) (r : Result) (s' : Shared) : Prop :=
  match r with
  | .ok (.ret u) => CE outer P w H s Q u s'
  | .ok _ => False
  | .error e => CX outer H s E e s'
structure FnOk (P : Program) (w : World) (K : PySem.W.Frag) (mg : Str → Option Value) (base : Heap) (CX : CXT) (k : Nat) (f : Addr) (fd : FuncData) (ps : List Str) (sp : Sp) : Prop where
  len : ∀ vs H Q E, sp vs H Q E → vs.length = ps.length
  run : ∀ (A : Around) (outer : List Env) (s : Shared) (H : Hp) (args : Args) (us : List Value) (vs : List V) (Q : VK) (E : XK), Room k A → Env0 P w K mg base A outer s H → BindsTo s fd args (ps.zip us) → Vals vs us → sp vs H Q E →
    codeAny (model P w) A (.call (.ref f) args) (CR CX outer P w H s Q E) s
section
variable {X : Cx} {pins : List (Addr × Obj)} {σ : St} {H : Hp} {s s' : Shared}
/-- from a body: what a callee wants -/
theorem Inv.env0 (I : Inv X pins σ H s) : Env0 X.prog X.w X.K X.mg X.base X.A X.stack s H :=
  ⟨I.ok.frames, I.ok.mod, I.bs, Nat.le_trans I.ok.bsz I.sz, I.stack, I.stkFree, I.hok, I.bare⟩
/-- behind a call -/
theorem Inv.after {Q : VK} {u : Value} (I : Inv X pins σ H s) (h : CE X.stack X.prog X.w H s Q u s') : EP X pins σ Q u s' := by
  obtain ⟨v, H', os, bare, un, hok, r, q⟩ := h
  obtain ⟨hh, g, d, t, os'⟩ := s'
  obtain rfl : os' = s.os := os
  exact ⟨v, H', I.call (h' := hh) (g' := g) (d' := d) (t' := t) (ch := []) un hok bare (fun b z => absurd z (by simp)), r, q⟩
end

/-! ### calls -/
/-- f(..): the written arguments, then the defaults dvs; E: what is wanted of an exception -/
def tCall (sp : Sp) (dvs : List V) (E : XK) (t : TA) : TE := fun σ H Q => t σ H fun vs H1 => sp (vs ++ dvs) H1 Q E
/-- how the parameters are bound: us the positional arguments, kw the keywords' values by name, ds the defaults that fill up -/
def Binds (K : PySem.W.Frag) (fd : FuncData) (ps : List Str) (ds : List Value) : Prop :=
  ∀ (s : Shared) (us : List Value), K.In s.heap → (us ++ ds).length = ps.length → BindsTo s fd ⟨us, []⟩ (ps.zip (us ++ ds))
/-- every parameter is given -/
theorem Binds.all {K : PySem.W.Frag} {fd : FuncData} {ps : List Str} (h : ∀ us : List Value, us.length = ps.length → bindArgs fd ⟨us, []⟩ = pure (ps.zip us)) : Binds K fd ps [] := fun s us _ hl => by
  rw [List.append_nil] at hl ⊢
  exact .of_eq (h us hl)

/-- an exception of a callee reaches what this body wants of exceptions -/
def Passes (CX : CXT) (X : Cx) (E : XK) : Prop := ∀ (pins : List (Addr × Obj)) (σ : St) (H : Hp) (s : Shared) (e : Value) (s' : Shared), Inv X pins σ H s → CX X.stack H s E e s' → X.xe e s'

section
variable {X : Cx} {CX : CXT} {k : Nat} {f C : Addr} {fd : FuncData} {ps : List Str} {sp : Sp} {dvs : List V} {ds : List Value} {E : XK} {x m : Str} {p pos apos : Pos} {e o : Expr} {es : List Expr} {ta : TE} {t : TA}

/-- the callee runs -/
theorem run_fn {pins : List (Addr × Obj)} {σ : St} {H : Hp} {s : Shared} {Q : VK} {us : List Value} {vs : List V} (F : FnOk X.prog X.w X.K X.mg X.base CX k f fd ps sp) (hr : Room k X.A) (hb : Binds X.K fd ps ds) (hd : Vals dvs ds) (hx : Passes CX X E)
    (I : Inv X pins σ H s) (r : Vals vs us) (h : sp (vs ++ dvs) H Q E) : wpAny (model X.prog X.w) X.A (call (.ref f) us) (EP X pins σ Q) X.xe s := by
  have r2 : Vals (vs ++ dvs) (us ++ ds) := r.append hd
  have hl : (us ++ ds).length = ps.length := by rw [← r2.length]; exact F.len _ _ _ _ h
  refine wpAny_call (codeAny_mono (F.run X.A X.stack s H ⟨us, []⟩ (us ++ ds) (vs ++ dvs) Q E hr I.env0 (hb s us I.kIn hl) r2 h) fun r s' hq => ?_)
  cases r with
  | error e => exact hx pins σ H s e s' I hq
  | ok fl =>
    cases fl with
    | ret u => exact I.after hq
    | next => exact False.elim hq
    | brk => exact False.elim hq
    | cont => exact False.elim hq

theorem pe_call (F : FnOk X.prog X.w X.K X.mg X.base CX k f fd ps sp) (hr : Room k X.A) (hg : Gl X x) (hm : X.mg x = some (.ref f)) (hk : PySem.W.keepIn X.K (.ref f) = true) (hb : Binds X.K fd ps ds) (hd : Vals dvs ds) (hx : Passes CX X E)
    (ha : PA X (e :: es) t) (hdb : (x == ("__debug__" : Str)) = false := by decide) (he : starEach (e :: es) X.env = (false, eval e X.env) :: starEach es X.env := by rfl) (hpl : (backTo pos (starEach es X.env)).any (·.1) = false := by rfl) :
    PE X (.Call (.Name x p) (e :: es) [] pos) (tCall sp dvs E t) := by
  intro pins s σ H Q I h
  refine wpAny_Call_Name_kw (ld_glob I hg hm ?_ hdb)
  refine PySem.W.callWith_K (h₀ := X.base) I.ok.mod.kin hk (thn (ha pos pins s σ H _ I h) fun us s1 ⟨vs, H1, I1, r, q⟩ => ⟨I1.kIn, ?_⟩) he hpl
  exact run_fn F hr hb hd hx I1 r q
end

/-! ### keywords -/
section
variable {X : Cx} {CX : CXT} {k : Nat} {f C : Addr} {fd : FuncData} {ps ks : List Str} {sp : Sp} {E : XK} {x m : Str} {p pos apos kpos : Pos} {e o : Expr} {es : List Expr} {kws : List Keyword} {te ta : TE} {t tk : TA} {nm : Option Str}
variable {g : List Value → List Value → List Value} {gV : List V → List V → List V}
end

/-! ### a def's body keeps its promise -/
/-- names: the parameters first -/
structure FnScope (N P : List Str) (sc : Scope) : Prop where
  kind : sc.kind = .function
  co : sc.isCoroutine = false
  gen : sc.isGenerator = false
  nd : N.Nodup
  pre : N.take P.length = P
  par : ∀ x ∈ P, sc.names.lookup x = some .local ∨ sc.names.lookup x = some .cell
  nofree : ∀ y ∈ sc.names, y.2 ≠ .free

theorem bindL_out {kindOf : Str → Option NameKind} {x : Str} : ∀ {binds : List (Str × Value)} {m : Str → Option Value}, (∀ v, (x, v) ∉ binds) → bindL kindOf binds m x = m x
  | [], _, _ => rfl
  | (n, v) :: r, m, h => by
    unfold bindL
    rw [bindL_out fun w hw => h w (List.mem_cons_of_mem _ hw)]
    split
    · have : x ≠ n := by rintro rfl; exact h v List.mem_cons_self
      simp [this]
    · rfl
theorem bindC_out {kindOf : Str → Option NameKind} {x : Str} : ∀ {binds : List (Str × Value)} {m : Str → Option Value}, (∀ v, (x, v) ∉ binds) → bindC kindOf binds m x = m x
  | [], _, _ => rfl
  | (n, v) :: r, m, h => by
    unfold bindC
    rw [bindC_out fun w hw => h w (List.mem_cons_of_mem _ hw)]
    split
    · rfl
    · have : x ≠ n := by rintro rfl; exact h v List.mem_cons_self
      simp [this]
theorem bindL_get {kindOf : Str → Option NameKind} {x : Str} {v : Value} : ∀ {P : List Str} {vs : List Value} {i : Nat} {m : Str → Option Value}, P.Nodup → P[i]? = some x → vs[i]? = some v → kindOf x = some .local →
    bindL kindOf (P.zip vs) m x = some v
  | [], _, _, _, _, h, _, _ => by simp at h
  | _ :: _, [], _, _, _, _, h, _ => by simp at h
  | p :: P, w :: vs, 0, m, nd, h1, h2, hk => by
    simp at h1 h2; subst h1; subst h2
    show bindL kindOf ((p, w) :: P.zip vs) m p = _
    unfold bindL
    rw [bindL_out fun v hv => (List.nodup_cons.mp nd).1 (List.of_mem_zip hv).1, if_pos hk]
    simp
  | p :: P, w :: vs, i + 1, m, nd, h1, h2, hk => by
    show bindL kindOf ((p, w) :: P.zip vs) m x = _
    unfold bindL
    exact bindL_get (i := i) (List.nodup_cons.mp nd).2 (by simpa using h1) (by simpa using h2) hk
theorem bindC_get {kindOf : Str → Option NameKind} {x : Str} {v : Value} : ∀ {P : List Str} {vs : List Value} {i : Nat} {m : Str → Option Value}, P.Nodup → P[i]? = some x → vs[i]? = some v → kindOf x ≠ some .local →
    bindC kindOf (P.zip vs) m x = some v
  | [], _, _, _, _, h, _, _ => by simp at h
  | _ :: _, [], _, _, _, _, h, _ => by simp at h
  | p :: P, w :: vs, 0, m, nd, h1, h2, hk => by
    simp at h1 h2; subst h1; subst h2
    show bindC kindOf ((p, w) :: P.zip vs) m p = _
    unfold bindC
    rw [bindC_out fun v hv => (List.nodup_cons.mp nd).1 (List.of_mem_zip hv).1, if_neg hk]
    simp
  | p :: P, w :: vs, i + 1, m, nd, h1, h2, hk => by
    show bindC kindOf ((p, w) :: P.zip vs) m x = _
    unfold bindC
    exact bindC_get (i := i) (List.nodup_cons.mp nd).2 (by simpa using h1) (by simpa using h2) hk

/-- the names' values at the entry -/
def start (N : List Str) (vs : List V) : St := vs.map some ++ List.replicate (N.length - vs.length) none

/-- the context of a def's body, at its entry; an exception leaves the frame, then lies as CX says -/
def cxOf (CX : CXT) (P : Program) (w : World) (K : PySem.W.Frag) (mg : Str → Option Value) (base : Heap) (N : List Str) (qual : Str) (scope : Scope) (f : Addr) (cd : Value) (A : Around) (outer : List Env) (s : Shared) (H : Hp) (E : XK) : Cx where
  prog := P
  w := w
  K := K
  mg := mg
  base := base
  A := A.deeper (envOfC qual scope s.heap.objs.size f cd)
  N := N
  s₀ := s
  H₀ := H
  env := envOfC qual scope s.heap.objs.size f cd
  outer := outer
  stack := envOfC qual scope s.heap.objs.size f cd :: outer
  ex := []
  calm := true
  fn := fun _ => true
  pn := []
  xe := fun e s' => wpAny (model P w) (A.deeper (envOfC qual scope s.heap.objs.size f cd)) (leaving (envOfC qual scope s.heap.objs.size f cd) e) (fun _ s'' => CX outer H s E e s'') (fun e' s'' => CX outer H s E e' s'') s'

theorem cell_has {sc : Scope} {n : Nat} {x : Str} (h : sc.names.lookup x = some .cell) : ∃ c, (cellsFrom n sc.names []).lookup x = some c := by
  have q := PySem.W.cellsFrom_some sc.names n [] (.inl h)
  exact Option.isSome_iff_exists.mp q

theorem inv_start {CX : CXT} {P : Program} {w : World} {K : PySem.W.Frag} {mg : Str → Option Value} {base : Heap} {N ps : List Str} {qual : Str} {scope : Scope} {f : Addr} {cd : Value} {A : Around} {outer : List Env} {s s1 : Shared} {H : Hp} {E : XK} {us : List Value} {vs : List V}
    (S : FnScope N ps scope) (hd : A.handled = none) (e0 : Env0 P w K mg base A outer s H) (hl : vs.length = ps.length) (r : Vals vs us)
    (x : InCallC s s.heap.objs.size (bindL (envOfC qual scope s.heap.objs.size f cd).kindOf (ps.zip us) fun _ => none) (cellsFrom (s.heap.objs.size + 1) scope.names []) (bindC (envOfC qual scope s.heap.objs.size f cd).kindOf (ps.zip us) fun _ => none) s1) :
    Inv (cxOf CX P w K mg base N qual scope f cd A outer s H E) [] (start N vs) H s1 := by
  have hpl : ps.length ≤ N.length := by have := congrArg List.length S.pre; rw [List.length_take] at this; omega
  obtain ⟨h1, tk, rfl, hk⟩ := x.done
  have noA : ∀ b : Addr, b ∉ (cxOf CX P w K mg base N qual scope f cd A outer s H E).ex := fun b z => absurd (show b ∈ ([] : List Addr) from z) (by simp)
  refine ⟨⟨e0.mod, S.kind, rfl, rfl, Nat.le_refl _, fun y z c h1 h2 => ?_, fun y hy => ?_, fun y c _ h => ?_, fun _ => hd, Around.frames_deeper e0.frames, .inr ⟨rfl, rfl⟩, fun b z => absurd z (noA b), e0.bs, e0.bsz, fun b _ _ => noA b, fun b z => absurd z (noA b), e0.funs, e0.frf⟩,
    rfl, e0.bare, Un.kept hk, ⟨_, x.toInCall.ns, fun i y v h1 h2 h3 => ?_⟩, fun y c h => ⟨_, x.cell y c h⟩, e0.hok.fresh (Nat.le_refl _), fun y c h => ?_, fun p hp => absurd (show p ∈ ([] : List (Addr × Obj)) from hp) (by simp), e0.hok.kept hk, ?_⟩
  · exact name_of_addr x.apart (PySem.mem_of_lookup h1) (PySem.mem_of_lookup h2)
  · have hy : scope.names.lookup y = some .cell ∨ scope.names.lookup y = some .free := hy
    rcases hy with hy | hy
    · exact cell_has hy
    · exact absurd rfl (S.nofree _ (PySem.mem_of_lookup hy))
  · exact Nat.le_of_lt (x.above y c (PySem.mem_of_lookup h))
  · have hi : i < vs.length := by
      unfold start at h2
      by_cases hi : i < vs.length
      · exact hi
      · rw [List.getElem?_append_right (by simpa using hi)] at h2
        rw [List.getElem?_replicate] at h2
        split at h2 <;> cases h2
    have ha : vs[i]? = some v := by
      unfold start at h2
      rw [List.getElem?_append_left (by simpa using hi), List.getElem?_map] at h2
      cases e : vs[i]? with
      | none => rw [e] at h2; cases h2
      | some a => rw [e] at h2; cases h2; rfl
    obtain ⟨u, hu, rv⟩ := r.get ha
    have hp : ps[i]? = some y := by
      rw [← S.pre, List.getElem?_take_of_lt (by omega)]; exact h1
    have ndP : ps.Nodup := by rw [← S.pre]; exact S.nd.sublist (List.take_sublist _ _)
    refine ⟨u, rv, ?_⟩
    rcases S.par y (List.mem_of_getElem? hp) with k | k
    · exact .inl ⟨k, bindL_get ndP hp hu k⟩
    · obtain ⟨c, e⟩ := cell_has (n := s.heap.objs.size + 1) k
      refine .inr ⟨.inl k, c, e, ?_⟩
      have q := x.cell y c e
      rw [bindC_get ndP hp hu (by show scope.names.lookup y ≠ _; rw [k]; decide)] at q
      exact q
  · exact e0.hok.fresh (Nat.le_of_lt (x.above y c (PySem.mem_of_lookup h)))
  · unfold start
    show _ = N.length
    rw [List.length_append, List.length_map, List.length_replicate]
    omega

/-- THE RULE: a def (or a method) of the text, by its body. The body's reading t is chosen for each entry; it is run at the parameters' values -/
theorem fn_of {CX : CXT} {P : Program} {w : World} {K : PySem.W.Frag} {mg : Str → Option Value} {base : Heap} {k : Nat} {f : Addr} {name qual : Str} {params : Arguments} {body : List Stmt} {scope : Scope} {dV kV doc pm cdv ct oc : Value} {an od : Option Addr}
    {osl : Array (Option Value)} {N ps : List Str} {sp : Sp} (lk : K.lookup f = some ⟨oc, od, .func (PySem.W.fnOf name qual params body scope dV kV doc pm an cdv ct), osl⟩) (hcd : PySem.W.codeIn K cdv qual = true) (S : FnScope N ps scope)
    (len : ∀ vs H Q E, sp vs H Q E → vs.length = ps.length)
    (hbody : ∀ (A : Around) (outer : List Env) (s : Shared) (H : Hp) (vs : List V) (Q : VK) (E : XK), Room k (A.deeper (envOfC qual scope s.heap.objs.size f cdv)) → sp vs H Q E →
      ∃ t, PSs (cxOf CX P w K mg base N qual scope f cdv A outer s H E) body t ∧ t { nx := fun _ H' => Q .non H', rt := Q } (start N vs) H) :
    FnOk P w K mg base CX (k + 1) f (PySem.W.fnOf name qual params body scope dV kV doc pm an cdv ct) ps sp := by
  refine ⟨len, fun A outer s H args us vs Q E hr e0 hb r hsp => ?_⟩
  have hl := len _ _ _ _ hsp
  have KX : K.In s.heap := e0.mod.kin.keeps fun b o e => (e0.bs b o e).1
  have lim : s.heap.NoLimit := e0.mod.nolimit.keeps fun b o e => (e0.bs b o e).1
  have hkind : ∀ y ∈ ps.zip us, scope.names.lookup y.1 = some .local ∨ (scope.names.lookup y.1 = some .cell ∧ ((cellsFrom (s.heap.objs.size + 1) scope.names []).lookup y.1).isSome = true) := fun ⟨n, v⟩ hy => by
    rcases S.par n (List.of_mem_zip hy).1 with q | q
    · exact .inl q
    · exact .inr ⟨q, PySem.W.cellsFrom_some _ _ _ (.inl q)⟩
  refine codeAny_call_function hr.depth (KX _ _ lk) rfl S.co S.gen rfl (PySem.W.codeRec_of KX hcd) (hb _ _ _ _ ?_)
  refine wpAny_newFunctionEnv_cells S.kind hkind fun env he s1 x => ?_
  subst he
  refine ⟨lim.keeps x.toInCall.keep, codeAny_func ?_⟩
  obtain ⟨t, ht, hq⟩ := hbody A outer s H vs Q E (hr.deeper _) hsp
  have I : Inv (cxOf CX P w K mg base N qual scope f cdv A outer s H E) [] (start N vs) H s1 := inv_start S hr.hd e0 hl r x
  refine wpAny_mono (ht [] s1 (start N vs) H _ I hq) (fun fl s' hs => ?_) fun e s' hs => hs
  have fin : ∀ {σ' : St} {H' : Hp} {v : V} {u : Value}, Inv (cxOf CX P w K mg base N qual scope f cdv A outer s H E) [] σ' H' s' → RelV v u → Q v H' → CE outer P w H s Q u s' :=
    fun {σ' H' v u} J rv q => ⟨v, H', J.os, J.bare, J.base, J.hok, rv, q⟩
  cases fl with
  | ret u =>
    obtain ⟨v, σ', H', J, rv, q⟩ := hs
    exact fin J rv q
  | next =>
    obtain ⟨σ', H', J, q⟩ := hs
    exact fin (v := V.non) (u := Value.none) J rfl q
  | brk =>
    obtain ⟨_, _, _, q⟩ := hs
    exact False.elim q
  | cont =>
    obtain ⟨_, _, _, q⟩ := hs
    exact False.elim q
end L2

namespace L2
open PySem PySem.Spec PyProof.Rows
section
variable {X : Cx} {x : Str} {p pos : Pos} {e : Expr} {es : List Expr} {t : TA} {id T : String} {r : List V → Hp → VK → Prop}

def tCB (r : List V → Hp → VK → Prop) (t : TA) : TE := fun σ H Q => t σ H fun vs H1 => r vs H1 Q
/-- f(e, ..), f a built-in function -/
theorem pe_callB (hc : CallR X (.builtin id) r) (hg : Gl X x) (hm : X.mg x = none) (hv : bootBuiltins x = some (.builtin id)) (ha : PA X (e :: es) t) (hn : x ≠ "__name__" := by decide) (hdb : (x == ("__debug__" : Str)) = false := by decide)
    (he : starEach (e :: es) X.env = (false, eval e X.env) :: starEach es X.env := by rfl) (hpl : (backTo pos (starEach es X.env)).any (·.1) = false := by rfl) : PE X (.Call (.Name x p) (e :: es) [] pos) (tCB r t) := by
  intro pins s σ H Q I h
  refine wpAny_Call_Name_kw (ld_blt I hg hm hv ?_ hn hdb)
  exact PyProof.Rows.callWith_builtin1 (thn (ha pos pins s σ H _ I h) fun us s1 ⟨vs, H1, I1, r1, q1⟩ => hc pins s1 σ H1 vs us Q I1 r1 q1) he hpl
/-- T(e, ..), T a built-in type -/
theorem pe_callTy (hc : CallR X (.type T) r) (hg : Gl X x) (hm : X.mg x = none) (hv : bootBuiltins x = some (.type T)) (ha : PA X (e :: es) t) (hn : x ≠ "__name__" := by decide) (hdb : (x == ("__debug__" : Str)) = false := by decide)
    (he : starEach (e :: es) X.env = (false, eval e X.env) :: starEach es X.env := by rfl) (hpl : (backTo pos (starEach es X.env)).any (·.1) = false := by rfl) : PE X (.Call (.Name x p) (e :: es) [] pos) (tCB r t) := by
  intro pins s σ H Q I h
  refine wpAny_Call_Name_kw (ld_blt I hg hm hv ?_ hn hdb)
  exact PyProof.Rows.callWith_type1 (thn (ha pos pins s σ H _ I h) fun us s1 ⟨vs, H1, I1, r1, q1⟩ => hc pins s1 σ H1 vs us Q I1 r1 q1) he hpl
end
end L2

namespace HT
open PySem PyProof.Rows

section
open PySem.SeqAt
open PySem.AutoSeq1 (wpAny_loadPart')
open PySem.MeetsSeq PySem.MeetsSeq2 PySem.MeetsSeq3

end

section
variable {prog : Program} {w : World} {A : Around} {E : Value → Shared → Prop} {s : Shared}

/-! ### t[a:b], not the whole -/
/-- a slice's bound as a place among n (d where it is left out) -/
def sIx (n d : Nat) : Option Int → Nat
  | none => d
  | some v => if v < 0 then (v + (n : Int)).toNat else min v.toNat n
theorem sIx_nat (n d k : Nat) : sIx n d (some (k : Int)) = min k n := by
  show (if (k : Int) < 0 then ((k : Int) + (n : Int)).toNat else min (k : Int).toNat n) = min k n
  rw [if_neg (by omega), Int.toNat_natCast]
end
end HT

namespace L2
open PySem PySem.Spec PyProof.Rows

/-! ### the parts of a slice -/
abbrev TO := St → Hp → (Option Int → Hp → Prop) → Prop
/-- a slice's part (left out, or an int) -/
def PO (X : Cx) (e : Option Expr) (t : TO) : Prop :=
  ∀ (pins : List (Addr × Obj)) (s : Shared) (σ : St) (H : Hp) (Q : Option Int → Hp → Prop), Inv X pins σ H s → t σ H Q →
    wpAny (model X.prog X.w) X.A (evalPart e X.env) (fun u s' => ∃ o H', Inv X pins σ H' s' ∧ IsPart u o ∧ Q o H') X.xe s
def tNoPart : TO := fun _ H Q => Q none H
def tPart (t : TE) : TO := fun σ H Q => t σ H fun x H1 => ∃ i, x = .int i ∧ Q (some i) H1

theorem intsAre_of {ns : List Int} : ∀ {us : List Value}, Vals (ns.map V.int) us → IntsAre us ns := by
  induction ns with
  | nil => intro us r; rw [List.map_nil] at r; cases r; exact .nil
  | cons n ns ih =>
    intro us r
    rw [List.map_cons] at r
    cases r with
    | cons r1 r2 =>
      obtain ⟨t, e⟩ := r1
      subst e
      exact .cons n t (ih r2)

section
variable {X : Cx} {e : Expr} {te : TE} {lo hi : Option Expr} {tl th : TO} {pos p2 : Pos}

theorem po_none : PO X none tNoPart := by
  intro pins s σ H Q I h
  rw [evalPart_none]
  exact wpAny_pure ⟨none, H, I, .none, h⟩
theorem po_some (h : PE X e te) : PO X (some e) (tPart te) := by
  intro pins s σ H Q I hw
  rw [evalPart_some]
  refine thn (h pins s σ H _ I hw) fun u s1 ⟨x, H1, I1, r1, q1⟩ => ?_
  obtain ⟨i, rfl, q⟩ := q1
  obtain ⟨t, rfl⟩ := r1
  exact ⟨some i, H1, I1, .int i t, q⟩

/-- what a slice of a value is, by values: the slice object stands at sl -/
def SlR (X : Cx) (r : V → Option Int → Option Int → Hp → VK → Prop) : Prop :=
  ∀ (pins : List (Addr × Obj)) (s : Shared) (σ : St) (H : Hp) (x : V) (v vl vu : Value) (lo hi : Option Int) (sl : Addr) (Q : VK), Inv X pins σ H s → RelV x v → s.heap.IsSliceOf sl vl vu .none → IsPart vl lo → IsPart vu hi → r x lo hi H Q →
    ∃ T id, typeLookup (.type T) "__getitem__" = pure (some (.builtin id)) ∧ s.TypeIs v T ∧ wpAny (model X.prog X.w) X.A (getItem v (.ref sl)) (EP X pins σ Q) X.xe s
def tSl (r : V → Option Int → Option Int → Hp → VK → Prop) (te : TE) (tl th : TO) : TE := fun σ H Q => te σ H fun x H1 => tl σ H1 fun l H2 => th σ H2 fun u H3 => r x l u H3 Q
/-- a[lo:hi], any a -/
theorem pe_slice {r : V → Option Int → Option Int → Hp → VK → Prop} (hr : SlR X r) (he : PE X e te) (hl : PO X lo tl) (hu : PO X hi th) : PE X (.Subscript e (.Slice lo hi none p2) pos) (tSl r te tl th) := by
  intro pins s σ H Q I h
  refine Subscript_ (thn (he pins s σ H _ I h) fun v s1 ⟨x, H1, I1, r1, q1⟩ => ?_)
  refine wpAny_Slice (thn (hl pins s1 σ H1 _ I1 q1) fun vl s2 ⟨l, H2, I2, pl, q2⟩ => thn (hu pins s2 σ H2 _ I2 q2) fun vu s3 ⟨u, H3, I3, pu, q3⟩ => ?_)
  rw [evalPart_none]
  refine wpAny_pure ?_
  have I4 : Inv X pins σ H3 { s3 with heap := s3.heap.push { cls := .type "slice", data := .fields #[vl, vu, .none] } } := I3.kept (t' := s3.toks) fun b ob q => Heap.get?_push_of_some _ q
  obtain ⟨T, id, hT, ht, hg⟩ := hr pins { s3 with heap := s3.heap.push { cls := .type "slice", data := .fields #[vl, vu, .none] } } σ H3 x v vl vu l u s3.heap.objs.size Q I4 r1 (Heap.IsSliceOf.new ..) pl pu q3
  show wpAny (model X.prog X.w) X.A (subscriptTail e (.Slice lo hi none p2) v (.ref s3.heap.objs.size)) (EP X pins σ Q) X.xe { s3 with heap := s3.heap.push { cls := .type "slice", data := .fields #[vl, vu, .none] } }
  exact tail_any (ops := [.ref s3.heap.objs.size, v]) ht hT hg (by with_unfolding_all rfl)

/-- the items of xs[lo:hi] -/
def cutV (xs : List V) (lo hi : Option Int) : List V := (xs.drop (HT.sIx xs.length 0 lo)).take (HT.sIx xs.length xs.length hi - HT.sIx xs.length 0 lo)
theorem cutV_length (xs : List V) (lo hi : Option Int) : (cutV xs lo hi).length ≤ xs.length := by
  unfold cutV
  rw [List.length_take, List.length_drop]
  omega
/-! ### t < u, t + u -/
end
end L2

namespace L2
open PySem PySem.Spec PyProof.Rows

/-! ### places -/
/-- the place that an index of any sign means -/
def ixN (n : Nat) (i : Int) : Option Nat := if 0 ≤ i then (if i < n then some i.toNat else none) else if -(n : Int) ≤ i then some (i + n).toNat else none
def atI {α : Type} (xs : List α) (i : Int) : Option α := (ixN xs.length i).bind fun j => xs[j]?
theorem ixN_seq {n : Nat} {i : Int} {j : Nat} (h : ixN n i = some j) : seqIndex? i n = some j ∧ j < n ∧ -(n : Int) ≤ i ∧ i < n := by
  unfold ixN at h
  by_cases h0 : 0 ≤ i
  · rw [if_pos h0] at h
    by_cases h1 : i < n
    · rw [if_pos h1] at h
      have e : i.toNat = j := Option.some.inj h
      exact ⟨by rw [seqIndex_of h0 h1, e], by omega, by omega, h1⟩
    · rw [if_neg h1] at h; cases h
  · rw [if_neg h0] at h
    by_cases h1 : -(n : Int) ≤ i
    · rw [if_pos h1] at h
      have e : (i + n).toNat = j := Option.some.inj h
      exact ⟨by rw [seqIndex_neg (by omega) h1, e], by omega, h1, by omega⟩
    · rw [if_neg h1] at h; cases h
theorem atI_get {α : Type} {xs : List α} {i : Int} {v : α} (h : atI xs i = some v) : ∃ j, seqIndex? i xs.length = some j ∧ xs[j]? = some v ∧ j < xs.length ∧ -(xs.length : Int) ≤ i ∧ i < xs.length := by
  unfold atI at h
  cases e : ixN xs.length i with
  | none => rw [e] at h; cases h
  | some j =>
    rw [e] at h
    obtain ⟨h1, h2, h3, h4⟩ := ixN_seq e
    exact ⟨j, h1, h, h2, h3, h4⟩
theorem atI_nat {α : Type} {xs : List α} {j : Nat} {v : α} (h : xs[j]? = some v) : atI xs (j : Int) = some v := by
  have hj : j < xs.length := (List.getElem?_eq_some_iff.mp h).1
  have e : ixN xs.length (j : Int) = some j := by
    unfold ixN
    rw [if_pos (by omega), if_pos (by omega)]; simp
  unfold atI; rw [e]; exact h
/-! ### what may be subscripted -/
/-- what stands as an index of a plain subscript -/
def PlainIx (b : Expr) : Prop := ∀ o i, subscripted b false o i = operate [o, i] (getItem o i)
/-- a subscript by values -/
def IxR (X : Cx) (r : R2) : Prop :=
  ∀ (value slice : Expr) (pins : List (Addr × Obj)) (s : Shared) (σ : St) (H : Hp) (x y : V) (v u : Value) (Q : VK), Inv X pins σ H s → RelV x v → RelV y u → r x y H Q →
    subscripted slice false v u = operate [v, u] (getItem v u) → wpAny (model X.prog X.w) X.A (subscriptTail value slice v u) (EP X pins σ Q) X.xe s
/-- a call of a builtin's method by values: the receiver, the arguments -/
def MtR (X : Cx) (id : String) (r : V → List V → Hp → VK → Prop) : Prop :=
  ∀ (pins : List (Addr × Obj)) (s : Shared) (σ : St) (H : Hp) (x : V) (xs : List V) (v : Value) (us : List Value) (Q : VK), Inv X pins σ H s → RelV x v → Vals xs us → r x xs H Q →
    wpAny (model X.prog X.w) X.A (call (.builtin id) (v :: us)) (EP X pins σ Q) X.xe s
section
variable {X : Cx} {a b : Expr} {ta tb : TE} {pos : Pos}
/-- a[b] -/
theorem pe_ix {r : R2} (hr : IxR X r) (ha : PE X a ta) (hb : PE X b tb) (hs : PlainIx b) : PE X (.Subscript a b pos) (tOp r ta tb) := by
  intro pins s σ H Q I h
  exact Subscript_ (binT ha hb I h fun v u s2 x y H2 I2 rx ry q => hr a b pins s2 σ H2 x y v u Q I2 rx ry q (hs _ _))

def rIxL (K : PySem.W.Frag) : R2 := fun x y H Q => ∃ p xs i v, x = .ref p ∧ y = .int i ∧ SqL K H p xs ∧ atI xs i = some v ∧ Q v H
def rIxT (K : PySem.W.Frag) : R2 := fun x y H Q => ∃ p xs i v, x = .ref p ∧ y = .int i ∧ SqT K H p xs ∧ atI xs i = some v ∧ Q v H
def rIxS : R2 := fun x y H Q => ∃ z i c, x = .str z ∧ y = .int i ∧ z.length ≤ sizeLine ∧ atI z.cps.toList i = some c ∧ Q (.str ⟨#[c]⟩) H
theorem ix_list : IxR X (rIxL X.K) := by
  intro value slice pins s σ H x y v u Q I rx ry h hs
  obtain ⟨p, xs, i, z, rfl, rfl, hq, he, q⟩ := h
  cases rx
  obtain ⟨t, rfl⟩ := ry
  obtain ⟨its, r, pl, hz⟩ := I.list hq
  obtain ⟨j, h1, h2, h3, h4, h5⟩ := atI_get he
  obtain ⟨w, ew, rw'⟩ := r.get h2
  have hl := r.length
  have hn := line63
  have fin : EP X pins σ Q w s := ⟨z, H, I, rw', q⟩
  by_cases h0 : 0 ≤ i
  · have hj : i.toNat = j := by
      rw [seqIndex_of h0 h5] at h1
      exact Option.some.inj h1
    exact item_listR pl.isList h0 (by omega) (by rw [hj]; simpa using ew) fin hs
  · have hj : (i + (its.toArray.size : Int)).toNat = j := by
      rw [seqIndex_neg (by omega) h4] at h1
      rw [List.size_toArray, ← hl]
      exact Option.some.inj h1
    exact subscriptTail_builtinR (x := w) pl.isList.typeIs slot_list_getitem.lookup
      (wpAny_getItem_list_neg (Q := fun r s' => r = w ∧ EP X pins σ Q r s') pl.isList (by omega) (by rw [List.size_toArray] <;> omega) (by omega) (by rw [hj]; simpa using ew) ⟨rfl, fin⟩) hs
theorem ix_tup : IxR X (rIxT X.K) := by
  intro value slice pins s σ H x y v u Q I rx ry h hs
  obtain ⟨p, xs, i, z, rfl, rfl, hq, he, q⟩ := h
  cases rx
  obtain ⟨t, rfl⟩ := ry
  obtain ⟨its, r, pl, hz⟩ := I.tuple hq
  obtain ⟨j, h1, h2, h3, h4, h5⟩ := atI_get he
  obtain ⟨w, ew, rw'⟩ := r.get h2
  have hl := r.length
  have hn := line63
  have fin : EP X pins σ Q w s := ⟨z, H, I, rw', q⟩
  exact subscriptTail_builtinR (x := w) pl.typeIs slot_tuple_getitem.lookup
    (getItem_tuple (j := j) (Q := fun r s' => r = w ∧ EP X pins σ Q r s') pl (by omega) (by omega) (by rw [List.size_toArray, ← hl]; exact h1) (by simpa using ew) ⟨rfl, fin⟩) hs
theorem ix_str : IxR X rIxS := by
  intro value slice pins s σ H x y v u Q I rx ry h hs
  obtain ⟨z, i, c, rfl, rfl, hz, he, q⟩ := h
  obtain ⟨t, rfl⟩ := rx
  obtain ⟨t', rfl⟩ := ry
  obtain ⟨j, h1, h2, h3, h4, h5⟩ := atI_get he
  have hl : z.cps.toList.length = z.length := by simp [Str.length]
  rw [hl] at h1 h4 h5
  have hn := line63
  exact tail_any (typeIs_str s z t) slot_str_getitem.lookup (getItem_str (c := c) (by
    have e1 : decide (i < -(2 ^ 63 : Int)) = false := decide_eq_false (by omega)
    have e2 : decide (i ≥ 2 ^ 63) = false := decide_eq_false (by omega)
    rw [e1, e2, Bool.or_false]) (by rw [h1]; simpa using h2) ⟨.str ⟨#[c]⟩, H, I.tok _, ⟨_, rfl⟩, q⟩) hs
/-! ### xs[i] = v, any sign -/
/-- the list's object behind a store -/
theorem mapSeq_set (its : List Value) (n j : Nat) (u : Value) : Obj.mapSeq (·.setIfInBounds j u) { cls := .type "list", data := .seq its.toArray n } = { cls := .type "list", data := .seq (its.set j u).toArray n } := by
  simp [Obj.mapSeq]
theorem Inv.lst {pins : List (Addr × Obj)} {σ : St} {H : Hp} {s : Shared} {p : Addr} {xs : List V} (I : Inv X pins σ H s) (h : H p = some (.lst xs)) :
    ∃ (its : List Value) (n : Nat), Vals xs its ∧ s.heap.get? p = some { cls := .type "list", data := .seq its.toArray n } ∧ xs.length ≤ sizeLine := by
  obtain ⟨z, its, n, r, e⟩ := I.hok p _ h
  exact ⟨its, n, r, e, z⟩
/-- the list at p is written by an update of its object -/
theorem Inv.lstUpd {pins : List (Addr × Obj)} {σ : St} {H : Hp} {s : Shared} {p : Addr} {xs ys : List V} {its its' : List Value} {n n' : Nat} {f : Obj → Obj} (I : Inv X pins σ H s) (h : H p = some (.lst xs))
    (ho : s.heap.get? p = some { cls := .type "list", data := .seq its.toArray n }) (hf : f { cls := .type "list", data := .seq its.toArray n } = { cls := .type "list", data := .seq its'.toArray n' }) (r : Vals ys its') (hz : ys.length ≤ sizeLine) (t : Nat) :
    Inv X pins σ (upd H p (.lst ys)) { s with heap := s.heap.update p f, toks := t } := by
  have e : (s.heap.update p f).get? p = some { cls := .type "list", data := .seq its'.toArray n' } := by
    rw [Heap.get?_update_self f ho (by rw [hf] <;> rfl), hf]
  refine I.write (x := p) (e := p) (by rw [h]; trivial) (.inl rfl) (fun b u hb q => (Heap.get?_update_other _ _ (Ne.symm hb)).trans q) ⟨_, e⟩ ?_
  exact ⟨hz, its', n', r, e⟩
def rSetL : V → V → V → Hp → (Hp → Prop) → Prop := fun o i v H Q => ∃ p xs k j, o = .ref p ∧ i = .int k ∧ H p = some (.lst xs) ∧ ixN xs.length k = some j ∧ Q (upd H p (.lst (xs.set j v)))
theorem set_list : PSet X rSetL := by
  intro pins s σ H o i v ov iv u Q I ro ri rv h
  obtain ⟨p, xs, k, j, rfl, rfl, hp, hj, q⟩ := h
  cases ro
  obtain ⟨t, rfl⟩ := ri
  obtain ⟨its, n, r, ho, hz⟩ := I.lst hp
  obtain ⟨h1, h2, h3, h4⟩ := ixN_seq hj
  have hl := r.length
  have hn := line63
  have I' : Inv X pins σ (upd H p (.lst (xs.set j v))) { s with heap := s.heap.update p (Obj.mapSeq (·.setIfInBounds j u)) } :=
    I.lstUpd hp ho (mapSeq_set its n j u) (r.set rv j) (by rw [List.length_set]; exact hz) s.toks
  by_cases h0 : 0 ≤ k
  · have hk : k.toNat = j := by
      rw [seqIndex_of h0 h4] at h1
      exact Option.some.inj h1
    exact PySem.W.ki_setAt ho h0 (by omega) (by rw [List.size_toArray, ← hl]; exact h4) (by rw [hk]; exact ⟨_, I', q⟩)
  · have hk : (k + (its.toArray.size : Int)).toNat = j := by
      rw [seqIndex_neg (by omega) h3] at h1
      rw [List.size_toArray, ← hl]
      exact Option.some.inj h1
    exact PySem.W.ki_setBack ho (by omega) (by rw [List.size_toArray, ← hl]; exact h3) (by omega) (by rw [hk]; exact ⟨_, I', q⟩)

/-! ### slices -/
theorem slice_bounds (lo hi : Option Int) (n : Nat) : (sliceBounds lo hi none n).1 = ((HT.sIx n 0 lo : Nat) : Int) ∧ (sliceBounds lo hi none n).2.1 = ((HT.sIx n n hi : Nat) : Int) ∧ (sliceBounds lo hi none n).2.2 = 1 := by
  refine ⟨?_, ?_, rfl⟩
  · cases lo with
    | none => simp [sliceBounds, HT.sIx]
    | some i =>
      simp only [sliceBounds, HT.sIx, Option.getD_none, show (1 : Int) > 0 by decide, if_true]
      by_cases h : i < 0
      · simp only [h, if_true] <;> omega
      · simp only [h, if_false] <;> omega
  · cases hi with
    | none => simp [sliceBounds, HT.sIx]
    | some i =>
      simp only [sliceBounds, HT.sIx, Option.getD_none, show (1 : Int) > 0 by decide, if_true]
      by_cases h : i < 0
      · simp only [h, if_true] <;> omega
      · simp only [h, if_false] <;> omega
theorem slicePick_cut (its : List Value) (lo hi : Option Int) : slicePick its.toArray lo hi none = ((its.drop (HT.sIx its.length 0 lo)).take (HT.sIx its.length its.length hi - HT.sIx its.length 0 lo)).toArray := by
  obtain ⟨h1, h2, h3⟩ := slice_bounds lo hi its.toArray.size
  unfold slicePick
  rw [h1, h2, h3]
  simp only [sliceRange_one, pick_run, List.size_toArray] <;> rfl
/-- xs[lo:hi] of a list: a new list -/
def rSlL (K : PySem.W.Frag) : V → Option Int → Option Int → Hp → VK → Prop := fun x lo hi H Q => ∃ a xs, x = .ref a ∧ SqL K H a xs ∧ ∀ p, H p = none → Q (.ref p) (upd H p (.lst (cutV xs lo hi)))
theorem sl_list : SlR X (rSlL X.K) := by
  intro pins s σ H x v vl vu lo hi sl Q I rx hs pl pu h
  obtain ⟨a, xs, rfl, hx, q⟩ := h
  cases rx
  obtain ⟨its, r, ht, hz⟩ := I.list hx
  have hlen := r.length
  refine ⟨"list", _, slot_list_getitem.lookup, ht.isList.typeIs, ?_⟩
  refine wpAny_getItem_list_slice ht.isList hs pl pu .none (by simp) ?_ (by rw [List.size_toArray] <;> omega)
  rw [slicePick_cut, ← hlen]
  refine ⟨.ref s.heap.objs.size, _, I.laid (t' := s.toks) (o := .lst (cutV xs lo hi)) (fun b ob q => Heap.get?_push_of_some _ q) (Nat.le_refl _) ?_, rfl, q _ (I.hok.fresh (Nat.le_refl _))⟩
  exact ⟨Nat.le_trans (cutV_length xs lo hi) hz, _, 0, (r.drop (HT.sIx xs.length 0 lo)).take (HT.sIx xs.length xs.length hi - HT.sIx xs.length 0 lo), Heap.get?_push_size _ rfl⟩

/-! ### in, not in: flat items -/
def flatV : V → Bool
  | .non => true
  | .bl _ => true
  | .int _ => true
  | .str _ => true
  | _ => false
/-- == of flat values -/
def eqV : V → V → Bool
  | .non, .non => true
  | .bl a, .bl b => a == b
  | .bl a, .int b => (if a then 1 else 0) == b
  | .int a, .bl b => a == (if b then 1 else 0)
  | .int a, .int b => a == b
  | .str a, .str b => a == b
  | _, _ => false
theorem eqAt_V {A : Around} {s : Shared} {y x : V} {u v : Value} (ry : RelV y u) (rx : RelV x v) (fy : flatV y = true) (fx : flatV x = true) : SeqAt.EqAt A s u v (eqV y x) := by
  cases y with
  | non =>
    cases ry
    cases x with
    | non => cases rx; exact SeqAt.EqAt.same _
    | bl b => cases rx; exact SeqAt.EqAt.none_bool b
    | int b => obtain ⟨t, rfl⟩ := rx; exact SeqAt.EqAt.none_int b t
    | str b => obtain ⟨t, rfl⟩ := rx; exact SeqAt.EqAt.none_str b t
    | _ => exact absurd (show false = true from fx) Bool.false_ne_true
  | bl a =>
    cases ry
    cases x with
    | non => cases rx; exact SeqAt.EqAt.bool_none a
    | bl b => cases rx; exact SeqAt.EqAt.bool_bool a b
    | int b => obtain ⟨t, rfl⟩ := rx; exact SeqAt.EqAt.bool_int a b t
    | str b => obtain ⟨t, rfl⟩ := rx; exact SeqAt.EqAt.bool_str a b t
    | _ => exact absurd (show false = true from fx) Bool.false_ne_true
  | int a =>
    obtain ⟨t', rfl⟩ := ry
    cases x with
    | non => cases rx; exact SeqAt.EqAt.int_none a t'
    | bl b => cases rx; exact SeqAt.EqAt.int_bool a t' b
    | int b => obtain ⟨t, rfl⟩ := rx; exact SeqAt.EqAt.int_int a t' b t
    | str b => obtain ⟨t, rfl⟩ := rx; exact SeqAt.EqAt.int_str a t' b t
    | _ => exact absurd (show false = true from fx) Bool.false_ne_true
  | str a =>
    obtain ⟨t', rfl⟩ := ry
    cases x with
    | non => cases rx; exact SeqAt.EqAt.str_none a t'
    | bl b => cases rx; exact SeqAt.EqAt.str_bool a t' b
    | int b => obtain ⟨t, rfl⟩ := rx; exact SeqAt.EqAt.str_int a t' b t
    | str b => obtain ⟨t, rfl⟩ := rx; exact SeqAt.EqAt.str_str a t' b t
    | _ => exact absurd (show false = true from fx) Bool.false_ne_true
  | _ => exact absurd (show false = true from fy) Bool.false_ne_true
/-- the items' answers, read off the values (a value's own answer does not lean on its token) -/
def eqU (x : V) (u : Value) : Bool := match u with
  | .none => eqV .non x
  | .bool b => eqV (.bl b) x
  | .int i _ => eqV (.int i) x
  | .str z _ => eqV (.str z) x
  | _ => false
theorem eqU_of {x y : V} {u : Value} (r : RelV y u) (f : flatV y = true) : eqU x u = eqV y x := by
  cases y with
  | non => cases r; rfl
  | bl b => cases r; rfl
  | int i => obtain ⟨t, rfl⟩ := r; rfl
  | str z => obtain ⟨t, rfl⟩ := r; rfl
  | _ => exact absurd (show false = true from f) Bool.false_ne_true
theorem any_eqU {x : V} : ∀ {xs : List V} {us : List Value}, Vals xs us → xs.all flatV = true → us.any (eqU x) = xs.any fun y => eqV y x
  | _, _, .nil, _ => rfl
  | y :: xs, u :: us, .cons r t, f => by
    rw [List.all_cons, Bool.and_eq_true] at f
    rw [List.any_cons, List.any_cons, eqU_of r f.1, any_eqU t f.2]
theorem mem_eqAt {A : Around} {s : Shared} {x : V} {v : Value} (rx : RelV x v) (fx : flatV x = true) : ∀ {xs : List V} {us : List Value}, Vals xs us → xs.all flatV = true → ∀ u ∈ us, SeqAt.EqAt A s u v (eqU x u)
  | _, _, .nil, _ => fun u hu => by cases hu
  | y :: xs, u :: us, .cons r t, f => fun u' hu => by
    rw [List.all_cons, Bool.and_eq_true] at f
    rcases List.mem_cons.mp hu with rfl | hu
    · rw [eqU_of r f.1]; exact eqAt_V r rx f.1 fx
    · exact mem_eqAt rx fx t f.2 u' hu
def inV (x : V) (xs : List V) : Bool := xs.any fun y => eqV y x
/-- x in a list or tuple of flat items -/
def rIn (K : PySem.W.Frag) (neg : Bool) : R2 := fun x y H Q => ∃ p xs, y = .ref p ∧ (SqL K H p xs ∨ SqT K H p xs) ∧ flatV x = true ∧ xs.all flatV = true ∧ Q (.bl (if neg then !inV x xs else inV x xs)) H
theorem op_in_seq : OpR X (compareOp .In) (rIn X.K false) := by
  intro pins s σ H x y v u Q I rx ry h
  obtain ⟨p, xs, rfl, hq, fx, fs, q⟩ := h
  cases ry
  rcases hq with hq | hq
  · obtain ⟨its, r, pl, hz⟩ := I.list hq
    refine SeqAt.in_listAt (eqU x) pl.isList (fun w hw => mem_eqAt rx fx r fs w (by simpa using hw)) ⟨.bl _, H, I, rfl, ?_⟩
    rw [show its.toArray.any (eqU x) = its.any (eqU x) by simp, any_eqU r fs]
    exact q
  · obtain ⟨its, r, pl, hz⟩ := I.tuple hq
    refine SeqAt.in_tupleAt (eqU x) pl (fun w hw => mem_eqAt rx fx r fs w (by simpa using hw)) ⟨.bl _, H, I, rfl, ?_⟩
    rw [show its.toArray.any (eqU x) = its.any (eqU x) by simp, any_eqU r fs]
    exact q
theorem op_notIn_seq : OpR X (compareOp .NotIn) (rIn X.K true) := by
  intro pins s σ H x y v u Q I rx ry h
  obtain ⟨p, xs, rfl, hq, fx, fs, q⟩ := h
  cases ry
  rcases hq with hq | hq
  · obtain ⟨its, r, pl, hz⟩ := I.list hq
    refine SeqAt.notIn_listAt (eqU x) pl.isList (fun w hw => mem_eqAt rx fx r fs w (by simpa using hw)) ⟨.bl _, H, I, rfl, ?_⟩
    rw [show its.toArray.any (eqU x) = its.any (eqU x) by simp, any_eqU r fs]
    exact q
  · obtain ⟨its, r, pl, hz⟩ := I.tuple hq
    refine SeqAt.notIn_tupleAt (eqU x) pl (fun w hw => mem_eqAt rx fx r fs w (by simpa using hw)) ⟨.bl _, H, I, rfl, ?_⟩
    rw [show its.toArray.any (eqU x) = its.any (eqU x) by simp, any_eqU r fs]
    exact q
/-! ### len, list(x), tuple(x) of any list or tuple that is read -/
theorem call_len_seq : CallR X (.builtin "len") (fun xs H Q => ∃ p ys, xs = [.ref p] ∧ (SqL X.K H p ys ∨ SqT X.K H p ys) ∧ Q (.int ys.length) H) := by
  intro pins s σ H xs us Q I r h
  obtain ⟨p, ys, rfl, hq, q⟩ := h
  obtain ⟨u, rfl, rx⟩ := vals1 r
  cases rx
  have hn := line63
  rcases hq with hq | hq
  · obtain ⟨its, r', pl, hz⟩ := I.list hq
    have hlen := r'.length
    exact Calls.call_len_list pl.isList (by simp only [List.size_toArray] <;> omega) ⟨.int ys.length, H, I.tok _, ⟨s.toks + 1, by rw [List.size_toArray, hlen]⟩, q⟩
  · obtain ⟨its, r', pl, hz⟩ := I.tuple hq
    have hlen := r'.length
    exact len_tuple pl (by simp only [List.size_toArray] <;> omega) ⟨.int ys.length, H, I.tok _, ⟨s.toks + 1, by rw [List.size_toArray, hlen]⟩, q⟩
theorem call_len_str : CallR X (.builtin "len") (fun xs H Q => ∃ z, xs = [.str z] ∧ z.length ≤ sizeLine ∧ Q (.int z.length) H) := by
  intro pins s σ H xs us Q I r h
  obtain ⟨z, rfl, hz, q⟩ := h
  obtain ⟨u, rfl, t, rfl⟩ := vals1 r
  have hn := line63
  exact len_str (by omega) ⟨.int z.length, H, I.tok _, ⟨_, rfl⟩, q⟩
theorem call_list_of : CallR X (.type "list") (fun xs H Q => ∃ p ys, xs = [.ref p] ∧ (SqL X.K H p ys ∨ SqT X.K H p ys) ∧ ∀ l, H l = none → Q (.ref l) (upd H l (.lst ys))) := by
  intro pins s σ H xs us Q I r h
  obtain ⟨p, ys, rfl, hq, q⟩ := h
  obtain ⟨u, rfl, rx⟩ := vals1 r
  cases rx
  have fin : ∀ (its : List Value), Vals ys its → ys.length ≤ sizeLine → ∀ (h' : Heap) (c' : Nat), (∀ b o', s.heap.get? b = some o' → h'.get? b = some o') →
      h'.get? s.heap.objs.size = some { cls := .type "list", dict := none, data := .seq its.toArray c', slots := #[] } → EP X pins σ Q (.ref s.heap.objs.size) { s with heap := h' } := fun its r' hz h' c' kp e =>
    ⟨.ref s.heap.objs.size, _, I.laid (t' := s.toks) kp (Nat.le_refl _) (show ObjOk X.prog X.w _ h' _ (.lst ys) from ⟨hz, its, c', r', e⟩), rfl, q _ (I.hok.fresh (Nat.le_refl _))⟩
  rcases hq with hq | hq
  · obtain ⟨its, r', pl, hz⟩ := I.list hq
    have hlen := r'.length
    obtain ⟨o, ho, hc, n, hd⟩ := pl.isList
    exact call_list_seq p (.inl rfl) ho hc hd (fun h' c' kp e => fin its r' hz h' c' kp e) (by simp only [List.size_toArray] <;> omega)
  · obtain ⟨its, r', pl, hz⟩ := I.tuple hq
    have hlen := r'.length
    obtain ⟨o, ho, hc, n, hd⟩ := pl
    exact call_list_seq p (.inr rfl) ho hc hd (fun h' c' kp e => fin its r' hz h' c' kp e) (by simp only [List.size_toArray] <;> omega)
theorem call_tuple_of : CallR X (.type "tuple") (fun xs H Q => ∃ p ys, xs = [.ref p] ∧ ((SqL X.K H p ys ∧ ∀ l, H l = none → Q (.ref l) (upd H l (.tup ys))) ∨ (SqT X.K H p ys ∧ Q (.ref p) H))) := by
  intro pins s σ H xs us Q I r h
  obtain ⟨p, ys, rfl, h⟩ := h
  obtain ⟨u, rfl, rx⟩ := vals1 r
  cases rx
  rcases h with ⟨hq, q⟩ | ⟨hq, q⟩
  · obtain ⟨its, r', pl, hz⟩ := I.list hq
    have hlen := r'.length
    refine call_tuple_list pl.isList (fun h' kp => ?_) (by simp only [List.size_toArray] <;> omega)
    have I1 : Inv X pins σ H { s with heap := h' } := I.kept (t' := s.toks) kp
    have I2 : Inv X pins σ (upd H h'.objs.size (.tup ys)) { s with heap := h'.push { cls := .type "tuple", data := .seq its.toArray } } :=
      I1.laid (t' := s.toks) (fun b o e => Heap.get?_push_of_some _ e) (Nat.le_refl _) (show ObjOk X.prog X.w _ _ _ (.tup ys) from ⟨hz, its, r', IsTup.new _ _⟩)
    exact ⟨.ref h'.objs.size, _, I2, rfl, q _ (I1.hok.fresh (Nat.le_refl _))⟩
  · obtain ⟨its, r', pl, hz⟩ := I.tuple hq
    exact call_tuple_same pl ⟨.ref p, H, I, rfl, q⟩

/-! ### the call of a builtin's method: o.m(..) -/
/-- the value is of that builtin type -/
def tyV (K : PySem.W.Frag) (T : String) (x : V) (H : Hp) : Prop := match x with
  | .str _ => T = "str"
  | .int _ => T = "int"
  | .ref p => (T = "list" ∧ ∃ xs, SqL K H p xs) ∨ (T = "tuple" ∧ ∃ o, K.lookup p = some o ∧ o.cls = .type "tuple" ∧ o.dict = none) ∨
      (T = "dict" ∧ ((∃ kvs, H p = some (.dK kvs)) ∨ ∃ kvs, H p = some (.dT kvs))) ∨ (T = "set" ∧ ∃ S n, H p = some (.set S n))
  | _ => False
theorem tyV_is {pins : List (Addr × Obj)} {σ : St} {H : Hp} {s : Shared} {T : String} {x : V} {v : Value} (I : Inv X pins σ H s) (r : RelV x v) (ty : tyV X.K T x H) :
    s.TypeIs v T ∧ ∀ a, v = .ref a → ∃ ob, s.heap.get? a = some ob ∧ ob.dict = none := by
  cases x with
  | str z =>
    obtain ⟨t, rfl⟩ := r
    cases (show T = "str" from ty)
    exact ⟨typeIs_str s z t, fun _ e => nomatch e⟩
  | int i =>
    obtain ⟨t, rfl⟩ := r
    cases (show T = "int" from ty)
    exact ⟨typeIs_int s i t, fun _ e => nomatch e⟩
  | ref p =>
    cases r
    rcases ty with ⟨rfl, xs, hq⟩ | ⟨rfl, o, hk, hc, hd⟩ | ⟨rfl, hk⟩ | ⟨rfl, S, n, hk⟩
    · obtain ⟨its, _, pl, _⟩ := I.list hq
      refine ⟨pl.isList.typeIs, fun a e => ?_⟩
      cases e
      obtain ⟨o, n, e, c, hd, _⟩ := pl
      exact ⟨o, e, hd⟩
    · refine ⟨⟨o, I.kIn p o hk, hc⟩, fun a e => ?_⟩
      cases e
      exact ⟨o, I.kIn _ o hk, hd⟩
    · have z : ∃ o, s.heap.get? p = some o ∧ o.ExactDict := by
        rcases hk with ⟨kvs, hk⟩ | ⟨kvs, hk⟩
        · obtain ⟨_, _, _, _, o, _, _, e, ex, _⟩ := I.hok p _ hk
          exact ⟨o, e, ex⟩
        · obtain ⟨_, _, _, _, o, _, _, e, ex, _⟩ := I.hok p _ hk
          exact ⟨o, e, ex⟩
      obtain ⟨o, e, ex⟩ := z
      refine ⟨⟨o, e, ex.1⟩, fun a e2 => ?_⟩
      cases e2
      exact ⟨o, e, ex.2.1⟩
    · obtain ⟨o, _, _, _, e, ex, _⟩ := I.hok p _ hk
      refine ⟨⟨o, e, ex.1⟩, fun a e2 => ?_⟩
      cases e2
      exact ⟨o, e, ex.2.1⟩
  | _ => exact False.elim ty
def tBM0 (K : PySem.W.Frag) (T : String) (r : V → List V → Hp → VK → Prop) (to : TE) : TE := fun σ H Q => to σ H fun x H1 => tyV K T x H1 ∧ r x [] H1 Q
def tBM (K : PySem.W.Frag) (T : String) (r : V → List V → Hp → VK → Prop) (to : TE) (t : TA) : TE := fun σ H Q => to σ H fun x H1 => tyV K T x H1 ∧ t σ H1 fun xs H2 => r x xs H2 Q
variable {o e : Expr} {es : List Expr} {to : TE} {t : TA} {name : Str} {apos cpos : Pos} {T id : String} {r : V → List V → Hp → VK → Prop}
theorem pe_bm0 (pa : PlainAttrs T) (slot : Slot T name id) (hty : typeOf (.builtin id) = pure (.type "method_descriptor")) (hm : MtR X id r) (ho : PE X o to)
    (hbase : attributeBase o name X.env (eval o X.env) = eval o X.env := by rfl) (hline : (apos.endLine == cpos.line) = true := by rfl) : PE X (.Call (.Attribute o name apos) [] [] cpos) (tBM0 X.K T r to) := by
  intro pins s σ H Q I h
  refine wpAny_Call_method0_late hbase hline (thn (ho pins s σ H _ I h) fun v s1 ⟨x, H1, I1, r1, ty, q1⟩ => ?_)
  obtain ⟨h1, h2⟩ := tyV_is I1 r1 ty
  exact ⟨T, id, pa, slot, hty, h1, h2, Calls.callWith_builtin rfl (PySem.evalArgs_none (hm pins s1 σ H1 x [] v [] Q I1 r1 .nil q1))⟩
theorem pe_bm (pa : PlainAttrs T) (slot : Slot T name id) (hty : typeOf (.builtin id) = pure (.type "method_descriptor")) (hm : MtR X id r) (ho : PE X o to) (ha : PA X (e :: es) t)
    (hbase : attributeBase o name X.env (eval o X.env) = eval o X.env := by rfl)
    (hfew : ((backTo cpos (starEach (e :: es) X.env)).all (fun x => !x.1) && (backToKw cpos (keywordEach [] X.env)).all (fun x => x.1.isSome)
      && decide ((e :: es).length + ([] : List Keyword).length + (if ([] : List Keyword).isEmpty then 0 else 1) < 30)) = true := by rfl)
    (hline : (apos.endLine == cpos.line) = true := by rfl) (hs : starEach (e :: es) X.env = (false, eval e X.env) :: starEach es X.env := by rfl) (hplain : (backTo cpos (starEach es X.env)).any (·.1) = false := by rfl) :
    PE X (.Call (.Attribute o name apos) (e :: es) [] cpos) (tBM X.K T r to t) := by
  intro pins s σ H Q I h
  refine wpAny_Call_method_late hbase hfew hline rfl (thn (ho pins s σ H _ I h) fun v s1 ⟨x, H1, I1, r1, ty, q1⟩ => ?_)
  obtain ⟨h1, h2⟩ := tyV_is I1 r1 ty
  refine ⟨T, id, pa, slot, hty, h1, h2, ?_⟩
  have hA := ha cpos pins s1 σ H1 _ I1 q1
  rw [hs] at hA ⊢
  refine Calls.callWith_builtin (by show (false || (backTo cpos (starEach es X.env)).any (·.1)) = false; rw [hplain] <;> rfl) (Calls.evalArgs_plain ?_)
  exact thn hA fun us s2 ⟨vs, H2, I2, r2, q2⟩ => hm pins s2 σ H2 x vs v us Q I2 r1 r2 q2
/- xs.append(e), list.index on a module's tuple .. are MtR facts of 06m -/
end
end L2

namespace L2
open PySem PySem.Spec PyProof.Rows

def MtM (X : Cx) (id : String) (r : V → List V → Hp → VK → Prop) : Prop :=
  ∀ (pins : List (Addr × Obj)) (s : Shared) (σ : St) (H : Hp) (x : V) (xs : List V) (v : Value) (us : List Value) (Q : VK), Inv X pins σ H s → RelV x v → Vals xs us → r x xs H Q →
    wpAny (model X.prog X.w) X.A (call (.builtin id) (v :: us)) (EP X pins σ Q) X.xe s

/-! ### lists of values -/
theorem Vals.one : ∀ {x : V} {us : List Value}, Vals [x] us → ∃ u, us = [u] ∧ RelV x u
  | _, _, .cons r .nil => ⟨_, rfl, r⟩
section
variable {X : Cx} {pins : List (Addr × Obj)} {σ : St} {H : Hp} {s : Shared} {l b : Addr} {xs ys zs : List V}

/-! ### the two steps: a tracked list is rewritten, a new list is laid -/
theorem Inv.lset {its its' : List Value} {n : Nat} {f : Array Value → Array Value} {t' : Nat} (I : Inv X pins σ H s) (hH : H l = some (.lst xs))
    (e : s.heap.get? l = some { cls := .type "list", data := .seq its.toArray n }) (hf : f its.toArray = its'.toArray) (hv : Vals ys its') (hz : ys.length ≤ sizeLine) :
    Inv X pins σ (upd H l (.lst ys)) { s with heap := s.heap.update l (Obj.mapSeq f), toks := t' } := by
  have q := PySem.IsL.update e f
  rw [hf] at q
  refine I.write (x := l) (e := l) (by rw [hH]; exact trivial) (.inl rfl) (fun b' u hb hu => (Heap.get?_update_other s.heap (Obj.mapSeq f) (Ne.symm hb)).trans hu) ⟨_, q⟩ ?_
  exact ⟨hz, its', _, hv, q⟩
theorem Inv.lnew {its : List Value} {t' : Nat} (I : Inv X pins σ H s) (hv : Vals ys its) (hz : ys.length ≤ sizeLine) :
    Inv X pins σ (upd H s.heap.objs.size (.lst ys)) { s with heap := s.heap.push { cls := .type "list", data := .seq its.toArray }, toks := t' } :=
  I.laid (fun _ _ q => Heap.get?_push_of_some _ q) (Nat.le_refl _) ⟨hz, its, 0, hv, Heap.get?_push_size _ rfl⟩
theorem Inv.fresh (I : Inv X pins σ H s) : H s.heap.objs.size = none := I.hok.fresh (Nat.le_refl _)
theorem Inv.lstM (I : Inv X pins σ H s) (hH : H l = some (.lst xs)) : xs.length ≤ sizeLine ∧ ∃ (its : List Value) (n : Nat), Vals xs its ∧ xs.length = its.length ∧ s.heap.get? l = some { cls := .type "list", data := .seq its.toArray n } := by
  obtain ⟨z, its, n, r, e⟩ := I.hok l _ hH
  exact ⟨z, its, n, r, r.length, e⟩

theorem notLongL {n : Nat} (h : n ≤ sizeLine) : Builtin.List.listTooLong n = false := by
  unfold Builtin.List.listTooLong
  exact decide_eq_false (by omega)
end

section
variable {X : Cx}

/-! ### methods -/
def rAppend : V → List V → Hp → VK → Prop := fun x vs H Q => ∃ l xs y, x = .ref l ∧ vs = [y] ∧ H l = some (.lst xs) ∧ xs.length < sizeLine ∧ Q .non (upd H l (.lst (xs ++ [y])))
theorem mt_append : MtM X "list.append" rAppend := by
  intro pins s σ H x vs v us Q I rx rv h
  obtain ⟨l, xs, y, rfl, rfl, hH, hz, q⟩ := h
  cases rx
  obtain ⟨u, rfl, ru⟩ := rv.one
  obtain ⟨z, its, n, r, hl, e⟩ := I.lstM hH
  refine call_meets F.slot_list_append ⟨_, e, rfl⟩ F.entry_list_append (F.args_list_append_2 _ _) (PySem.list_append l its.toArray n u (by rw [List.size_toArray]; omega)) ⟨e, ?_⟩
  refine ⟨.non, _, I.lset (its' := its ++ [u]) hH e (by simp) (r.append (.cons ru .nil)) ?_, rfl, q⟩
  rw [List.length_append, List.length_singleton]
  omega

def rExtend : V → List V → Hp → VK → Prop := fun x vs H Q => ∃ l b xs zs, x = .ref l ∧ vs = [.ref b] ∧ H l = some (.lst xs) ∧ H b = some (.lst zs) ∧ xs.length + zs.length ≤ sizeLine ∧ Q .non (upd H l (.lst (xs ++ zs)))
theorem mt_extend : MtM X "list.extend" rExtend := by
  intro pins s σ H x vs v us Q I rx rv h
  obtain ⟨l, b, xs, zs, rfl, rfl, hH, hB, hz, q⟩ := h
  cases rx
  obtain ⟨u, rfl, ru⟩ := rv.one
  cases ru
  obtain ⟨z, its, n, r, hl, e⟩ := I.lstM hH
  obtain ⟨z2, its2, n2, r2, hl2, e2⟩ := I.lstM hB
  have hsz : its.toArray.size + its2.toArray.size ≤ sizeLine := by rw [List.size_toArray, List.size_toArray]; omega
  have hlong : ¬ (!its.toArray.isEmpty && Builtin.List.listTooLong (its.toArray.size + its2.toArray.size)) = true := by
    rw [notLongL hsz, Bool.and_false]
    exact Bool.false_ne_true
  refine call_meets F.slot_list_extend ⟨_, e, rfl⟩ F.entry_list_extend (F.args_list_extend_2 _ _)
    (AutoSeq1.list_extend_list_list_0 l its.toArray n b its2.toArray n2 hlong (by rw [List.size_toArray]; omega) (by omega)) ⟨e, e2, ?_⟩
  refine ⟨.non, _, I.lset (its' := its ++ its2) hH e (by simp) (r.append r2) ?_, rfl, q⟩
  rw [List.length_append]
  omega

/-! ### list + list, list += list, list * int -/
def rCat : R2 := fun x y H Q => ∃ l b xs zs, x = .ref l ∧ y = .ref b ∧ H l = some (.lst xs) ∧ H b = some (.lst zs) ∧ xs.length + zs.length ≤ sizeLine ∧ ∀ p, H p = none → Q (.ref p) (upd H p (.lst (xs ++ zs)))
theorem op_cat : OpR X (binaryOp .Add) rCat := by
  intro pins s σ H x y v u Q I rx ry h
  obtain ⟨l, b, xs, zs, rfl, rfl, hH, hB, hz, q⟩ := h
  cases rx
  cases ry
  obtain ⟨z, its, n, r, hl, e⟩ := I.lstM hH
  obtain ⟨z2, its2, n2, r2, hl2, e2⟩ := I.lstM hB
  refine PySem.P.add_list e e2 ?_ (by rw [List.size_toArray, List.size_toArray]; omega)
  have ea : its.toArray ++ its2.toArray = (its ++ its2).toArray := by simp
  rw [ea]
  exact ⟨.ref _, _, I.lnew (t' := s.toks) (r.append r2) (by rw [List.length_append]; omega), rfl, q _ I.fresh⟩
/-! ### del xs[i] -/
end

/-! ### xs[a:b] = ys -/
section
variable {prog : Program} {w : World} {A : Around} {E : Value → Shared → Prop} {s : Shared}
set_option maxRecDepth 100000 in
end

section
variable {X : Cx}
end
end L2

namespace Att
open PySem PySem.W PySem.Calls PyProof.Rows

/-! ### the script -/
theorem ints_of_wellAll {P : Params} {h : Heap} : ∀ (ns : List Int) (vs : List Value), WellAll P h vs (ns.map WData.int) → IntsAre vs ns := by
  intro ns
  induction ns with
  | nil =>
    intro vs w
    rw [List.map_nil] at w
    cases w
    exact .nil
  | cons n ns ih =>
    intro vs w
    rw [List.map_cons] at w
    cases w with
    | cons a b =>
      cases a
      exact .cons _ _ (ih _ b)

theorem script_of {l : OpenLaw} {n : Nat} (hn : l.most = some n) {P : Params} {h : Heap} {args : List WData} {vals : List Value}
    (hpre : l.row.toRowW.claim.pre args = true) (hwl : WellAll P h vals args) :
    ∃ a vs ns, vals = [Value.ref a] ∧ args = [WData.list (ns.map WData.int)] ∧ h.get? a = some { cls := .type "list", data := .seq vs.toArray } ∧ IntsAre vs ns ∧ ns.length ≤ n := by
  have hsh : WShape.hasAll [] args [.list .int] = true := (pre_splitW hpre).1
  have hc : l.pre.holds [] { args := args } = true := (pre_splitW hpre).2
  obtain ⟨d, r, rfl, h1, h2⟩ := hasAllW_cons hsh
  obtain rfl := hasAllW_nil h2
  obtain ⟨xs, rfl, h3⟩ := hasW_list h1
  obtain ⟨ns, rfl⟩ := items_int h3
  have hlen : ns.length ≤ n := by
    unfold OpenLaw.pre at hc
    have h4 : (WTm.not (.lt (.lit (.int (n : Int))) (.len (.arg 0)))).holds [] { args := [.list (ns.map .int)] } = true := by
      have h4 := (holds_andW hc).1
      rw [hn] at h4
      exact h4
    have h5 := condW_of h4 (w_not (w_lt w_lit (w_len_list (w_arg rfl))))
    rw [List.length_map] at h5
    refine Nat.le_of_not_lt fun q => ?_
    have q' : (n : Int) < ((ns.length : Nat) : Int) := by omega
    first
      | (rw [decide_eq_true q'] at h5; exact absurd h5 (by decide))
      | (simp at h5; omega)
  cases hwl with
  | cons w1 w2 =>
    cases w2
    cases w1 with
    | list ho hall => exact ⟨_, _, ns, rfl, rfl, ho, ints_of_wellAll ns _ hall, hlen⟩

theorem post_true (l : OpenLaw) (args : List WData) : l.row.toRowW.claim.post args (.bool true) args = true :=
  postW_of (r := l.row.toRowW) (X := (true == true))
    (show WShape.has [] (.bool true) .bool = true by first | rfl | decide | simp [WShape.has, WShape.arms, WShape.armsAll])
    (show (WTm.eq .res (.lit (.bool true))).value [] { args := args, res := some (.bool true), after := args } = some (.bool (true == true)) from w_eq_bool (w_res rfl) w_lit) rfl

/-! ### the attachment: holds_open's last premise (the goal 'hc' behind k_head) from a wpAny of the law's body -/
/-- the same from a codeAny of the CALL (for a layer whose function contracts speak of calls) -/
theorem attach_call {l : OpenLaw} {n : Nat} {q : Program} {loose : List Str} {XP : (Str → Option Value) → Heap → Prop} {YP : World → Heap → Prop} {d : DefRec}
    (hn : l.most = some n) (hdf : d.params.defaults = [])
    (call : ∀ (w : World) (s₀ s₁ : Shared) (mg mb : Str → Option Value) (fa : Addr) (o : Obj) (pm cd doc : Value) (a : Addr) (vs : List Value) (ns : List Int),
      Ground q loose [] XP w s₀ mg mb s₁.heap → YP w s₁.heap →
      s₁.heap.get? fa = some o → o.data = .func (docDef d.name d.params d.body d.scope pm cd doc) → s₁.heap.CodeRec cd d.name → mg d.name = some (.ref fa) →
      s₁.heap.get? a = some { cls := .type "list", data := .seq vs.toArray } → IntsAre vs ns → ns.length ≤ n → s₁.gens = #[] →
      codeAny (model l.prog w) callerA (.call (.ref fa) ⟨[.ref a], []⟩) (fun r s' => r = .ok (.ret (.bool true)) ∧ OldK s₁.heap s'.heap ∧ s'.os = s₁.os ∧ AllBare s'.gens) s₁) :
    WalkO q loose XP YP l.row.toRowW d [] (fun f vs => PySem.call f vs) := by
  intro w s₀ s₁ mg mb G Y fa o pm cd doc dV kV ho hd hcd hD hmg hg args vals as hpre hlay hrd hwl hlo
  obtain rfl : dV = .none := Dflts.none hD hdf
  obtain rfl : kV = .none := Dflts.noKw hD
  obtain ⟨a, vs, ns, rfl, rfl, hobj, hints, hlen⟩ := script_of hn hpre hwl
  refine enter_call (codeAny_mono (call w s₀ s₁ mg mb fa o pm cd doc a vs ns G Y ho (fd_plain hd) hcd hmg hobj hints hlen hg) fun r s' hq => ?_)
  obtain ⟨rfl, h2, h3, h4⟩ := hq
  exact ⟨.inl ⟨.bool true, .bool true, [], rfl, fun _ => rfl, .bool true, post_true l _, fun _ => ⟨List.Pairwise.nil, fun _ hm => (nomatch hm)⟩⟩, h2, h3, h4⟩

/-! ### rules over ANY heap (no ledger) from facts about the written part K: the library's own take a ledger (News) for what they write -/
section
variable {prog : Program} {w : World} {A : Around} {E : Value → Shared → Prop} {s : Shared} {K : Frag}

/-! the whole heap as the ledger: makes every rule that writes through a ledger a rule over any heap -/
end
end Att

namespace L2
open PySem PySem.Spec PyProof.Rows

theorem vals_ints : ∀ {vs : List Value} {ns : List Int}, IntsAre vs ns → Vals (ns.map V.int) vs
  | _, _, .nil => .nil
  | _, _, .cons n t h => .cons ⟨t, rfl⟩ (vals_ints h)

/-- nothing is tracked but the script, known to the object (or it is an object of the module) -/
def Only (H : Hp) : Prop := ∀ b, H b = none ∨ ∃ o xs, H b = some (.frz o (.lst xs))

/-- THE HEAD: the law's promise, at the heap behind the top. F, the promise of the law's def, may use that base is part of the heap (so K.In base, base.Ns mainGlobals mg stand in Mod) -/
theorem law_call {P : Program} {w : World} {K : PySem.W.Frag} {mg mb : Str → Option Value} {CX : CXT} {k : Nat} {fa a : Addr} {fd : FuncData} {x : Str} {sp : Sp} {s₁ : Shared} {vs : List Value} {ns : List Int}
    (KX : K.In s₁.heap) (hns : s₁.heap.Ns mainGlobals mg) (hb : s₁.heap.Ns builtinsNs mb) (hbb : ∀ x : Str, x ≠ "__name__" → mb x = bootBuiltins x) (hlim : s₁.heap.NoLimit) (hg : s₁.gens = #[])
    (ha : s₁.heap.get? a = some { cls := .type "list", data := .seq vs.toArray }) (hi : IntsAre vs ns) (hl : ns.length ≤ sizeLine) (hr : Room k callerA)
    (F : ∀ base : Heap, K.In base → base.Ns mainGlobals mg → FnOk P w K mg base CX k fa fd [x] sp) (hbind : ∀ (s : Shared) (u : Value), BindsTo s fd ⟨[u], []⟩ [(x, u)])
    (hsp : ∀ H : Hp, Only H → SqL K H a (ns.map V.int) → sp [.ref a] H (fun v _ => v = .bl true) fun _ _ _ => False)
    (hCX : ∀ H e s', CX [] H s₁ (fun _ _ _ => False) e s' → False) :
    codeAny (model P w) callerA (.call (.ref fa) ⟨[.ref a], []⟩) (fun r s' => r = .ok (.ret (.bool true)) ∧ OldK s₁.heap s'.heap ∧ s'.os = s₁.os ∧ AllBare s'.gens) s₁ := by
  have rv := vals_ints hi
  have lenV := hi.length
  -- from an abstract heap in which nothing but the script may be tracked
  have core : ∀ H : Hp, Only H → SqL K H a (ns.map V.int) → HOk P w H s₁.heap → (∀ b, H b ≠ none → b = a) → (H a ≠ none → K.lookup a = none) →
      codeAny (model P w) callerA (.call (.ref fa) ⟨[.ref a], []⟩) (fun r s' => r = .ok (.ret (.bool true)) ∧ OldK s₁.heap s'.heap ∧ s'.os = s₁.os ∧ AllBare s'.gens) s₁ := by
    intro H hO hS hok hA hK
    have base_of : ∀ {b : Addr} {o : Obj}, s₁.heap.get? b = some o → H b = none → (hidT s₁.heap H).get? b = some o := fun e n => hidT_get e n
    have noA : ∀ {b : Addr} {o : Obj} {es : Array DictEntry} {ep : Nat}, s₁.heap.get? b = some o → o.data = .dict es ep → H b = none := fun {b o es ep} e d => by
      cases q : H b with
      | none => rfl
      | some u =>
        have e' : b = a := hA b (by rw [q]; simp)
        subst e'
        rw [ha] at e; cases e
        have d' : Data.seq vs.toArray _ = Data.dict es ep := d
        cases d'
    have nsK : ∀ {b : Addr} {m : Str → Option Value}, s₁.heap.Ns b m → (hidT s₁.heap H).Ns b m := fun {b m} ⟨o, es, ep, e, d, r⟩ => ⟨o, es, ep, base_of e (noA e d), d, r⟩
    have hKb : K.In (hidT s₁.heap H) := fun b o e => base_of (KX b o e) (by
      cases q : H b with
      | none => rfl
      | some u =>
        have e' : b = a := hA b (by rw [q]; simp)
        subst e'
        rw [hK (by rw [q]; simp)] at e; cases e)
    have hM : Mod K mg (hidT s₁.heap H) := ⟨hKb, nsK hns, ⟨mb, nsK hb, hbb⟩, let ⟨mc, h1, h2⟩ := hlim; ⟨mc, nsK h1, h2⟩⟩
    have e0 : Env0 P w K mg (hidT s₁.heap H) callerA [] s₁ H := ⟨rfl, hM, fun b o e => of_hidT e, Nat.le_of_eq (hidT_size _ _), trivial, fun b hb => absurd (show b ∈ ([] : List Addr) from hb) (by simp), hok, .of_eq hg⟩
    refine codeAny_mono ((F _ hKb (nsK hns)).run callerA [] s₁ H ⟨[.ref a], []⟩ [.ref a] [.ref a] _ _ hr e0 (hbind s₁ (.ref a)) (.cons rfl .nil) (hsp H hO hS)) fun r s' h => ?_
    cases r with
    | error e => exact (hCX H e s' h).elim
    | ok fl =>
      cases fl with
      | next => exact False.elim h
      | brk => exact False.elim h
      | cont => exact False.elim h
      | ret u =>
        obtain ⟨v, H', os, bare, un, hok', r', q⟩ := h
        have q' : v = .bl true := q
        subst q'
        obtain rfl : u = Value.bool true := r'
        refine ⟨rfl, OldK.of_keep fun b o e => ?_, os, bare⟩
        cases q : H b with
        | none => exact un.keep b o e q (by intro z; exact absurd (show b ∈ ([] : List Addr) from z) (by simp)) (by simp)
        | some u =>
          rcases hO b with z | ⟨ob, xs, z⟩
          · rw [q] at z; cases z
          · have z2 := un.frzs b ob _ z
            obtain ⟨e1, _⟩ := hok b _ z
            obtain ⟨e2, _⟩ := hok' b _ z2
            rw [e] at e1; cases e1
            exact e2
  cases hk : K.lookup a with
  | some o =>
    -- the script is one of the module's own objects
    have e := KX a o hk
    rw [ha] at e
    cases e
    refine core (fun _ => none) (fun _ => .inl rfl) (.inr ⟨_, vs.toArray, _, hk, rfl, rfl, rfl, by rw [List.size_toArray, lenV]; exact hl, by simpa using rv⟩) (fun b u z => by have z' : (none : Option HO) = some u := z; cases z') (fun b z => absurd rfl z) fun z => absurd rfl z
  | none =>
    refine core (fun b => if b = a then some (.frz { cls := .type "list", data := .seq vs.toArray } (.lst (ns.map V.int))) else none) (fun b => ?_) (.inl (.inr ⟨{ cls := .type "list", data := .seq vs.toArray }, if_pos rfl⟩)) (fun b u z => ?_) (fun b z => ?_) fun _ => hk
    · by_cases hb : b = a
      · exact .inr ⟨_, _, if_pos hb⟩
      · exact .inl (if_neg hb)
    · by_cases hb : b = a
      · have z' := (if_pos hb).symm.trans z
        cases z'
        subst hb
        exact ⟨ha, by rw [List.length_map]; exact hl, vs, _, rv, ha⟩
      · have z' := (if_neg hb).symm.trans z
        cases z'
    · by_cases hb : b = a
      · exact hb
      · exact absurd (if_neg hb) z
end L2

namespace L2
open PySem PySem.Spec PyProof.Rows

/-- the goal that k_head leaves (case hc), from the law's promise. F gives the function object fd (K's own) once, then the promise over every base -/
theorem walk_of {l : PySem.W.OpenLaw} {n k : Nat} {q : Program} {loose : List Str} {XP : (Str → Option Value) → Heap → Prop} {YP : World → Heap → Prop} {d : DefRec} {K : Params → PySem.W.Frag} {CX : World → CXT} {sp : World → Sp} {x : Str}
    (hn : l.most = some n) (hn2 : n ≤ sizeLine) (hdf : d.params.defaults = []) (hr : Room k callerA)
    (hY : ∀ (w : World) (h : Heap), YP w h → (K w.params).In h)
    (F : ∀ (w : World) (mg : Str → Option Value) (fa : Addr) (h : Heap), (K w.params).In h → h.Ns mainGlobals mg → mg d.name = some (.ref fa) →
      ∃ fd : FuncData, (∀ (s : Shared) (u : Value), BindsTo s fd ⟨[u], []⟩ [(x, u)]) ∧
        ∀ base : Heap, (K w.params).In base → base.Ns mainGlobals mg → FnOk l.prog w (K w.params) mg base (CX w) k fa fd [x] (sp w))
    (hsp : ∀ (w : World) (H : Hp) (a : Addr) (ns : List Int), ns.length ≤ n → Only H → SqL (K w.params) H a (ns.map V.int) → sp w [.ref a] H (fun v _ => v = .bl true) fun _ _ _ => False)
    (hCX : ∀ (w : World) (H : Hp) (s : Shared) (e : Value) (s' : Shared), CX w [] H s (fun _ _ _ => False) e s' → False) :
    PySem.W.WalkO q loose XP YP l.row.toRowW d [] (fun f vs => PySem.call f vs) := by
  refine Att.attach_call hn hdf fun w s₀ s₁ mg mb fa o pm cd doc a vs ns G Y ho hd hcd hmg hobj hints hlen hg => ?_
  have KX := hY w _ Y
  obtain ⟨fd, hb, hF⟩ := F w mg fa _ KX G.T.g hmg
  exact law_call KX G.T.g G.T.b G.T.builtins G.T.nolimit hg hobj hints (Nat.le_trans hlen hn2) hr hF hb (fun H hO hS => hsp w H a ns hlen hO hS) fun H e s' => hCX w H s₁ e s'
end L2

/- THE LAST THEOREM (shape; LID, My.* are yours):
   My.Adr: a structure of the addresses that your layer names (classes, functions); My.Txt K t: a structure (Prop) of the equations over K;
   My.txt_mk : {K} {implicit addresses ..} (e1 : nsIn K mainGlobals "law" = some (some (.ref f))) (e2 : K.lookup f = some ⟨oc, od, .func (fnOf "law" "law" params body scope dV kV doc pm an cdv ct), sl⟩) (e3 : codeIn K cdv "law" = true) .. : ∃ t, My.Txt K t

set_option maxRecDepth 100000 in
set_option maxHeartbeats 0 in
theorem PySem.Challenge.cw_LID_holds : PySem.Challenge.rw_LID.Holds := by
  w_on; o_law; k_head; (case hw => w_witness2)
  k_fill
  refine L2.walk_of (l := PySem.Challenge.rw_LID) (n := 63) (k := 40) (x := "script") (CX := fun w => ..) (sp := fun _ => My.sp_law) rfl (by decide) rfl ⟨rfl, by decide, by decide⟩ (fun w h Y => PySem.W.kIn_of Y) ?F ?S ?C
  case F =>
    intro w mg fa h KX G hmg
    have T : ∃ t, My.Txt (L2.KOf KX) t := by
      dsimp only [L2.KOf]                          -- K must stand as «<heap const> w.params» for k_is
      refine' My.txt_mk ?e1 ?e2 ?e3 ..
      (case e1 => PySem.W.k_is)                    -- in the order: a name -> its address -> its object -> its parts
      (case e2 => PySem.W.k_is)
      ..
    obtain ⟨t, T⟩ := T
    have e0 := hmg.symm.trans (PySem.W.mg_of KX G T.law)
    cases e0                                       -- fa is the law's own address
    exact ⟨_, fun s u => .of_eq rfl, fun base kb nb => My.law_fn T kb nb⟩     -- if «.of_eq rfl» comes too early: refine' ⟨_, ?b, fun base kb nb => My.law_fn T kb nb⟩; exact fun s u => .of_eq rfl
  case S => exact fun w H a ns hl hO hS => ..
  case C => exact ..
(the tactic k_is has no namespace: write k_is) -/

/-! SHORT WORDS over the layer: a def of the text, its body, what a loop and a test want. -/
namespace L2
open PySem PySem.Spec PyProof.Rows

/-! ### the text by places -/
def defArgs (s : Stmt) : Arguments := match s with
  | .FunctionDef _ a _ _ _ _ _ _ _ _ => a
  | _ => { posonlyargs := [], args := [], vararg := none, kwonlyargs := [], kw_defaults := [], kwarg := none, defaults := [] }
def defBody (s : Stmt) : List Stmt := match s with
  | .FunctionDef _ _ b _ _ _ _ _ _ _ => b
  | _ => []
def defScope (s : Stmt) : Scope := match s with
  | .FunctionDef _ _ _ _ _ _ sc _ _ _ => sc
  | _ => { kind := .function, names := [], isGenerator := false, isCoroutine := false }

/-! ### no exception leaves a def -/
abbrev CX0 : CXT := fun _ _ _ _ _ _ => False
abbrev E0 : XK := fun _ _ _ => False
theorem pass0 {X : Cx} : Passes CX0 X E0 := fun _ _ _ _ _ _ _ h => h.elim

/-! ### a def (or method) of the text as it stands behind the top -/
structure Fun (K : PySem.W.Frag) (x qual : Str) (st : Stmt) (f : Addr) (fd : FuncData) : Prop where
  ex : ∃ (oc : Value) (od : Option Addr) (kV doc pm : Value) (an : Option Addr) (cdv ct : Value) (osl : Array (Option Value)),
    fd = PySem.W.fnOf x qual (defArgs st) (defBody st) (defScope st) .none kV doc pm an cdv ct ∧ K.lookup f = some ⟨oc, od, .func fd, osl⟩ ∧ PySem.W.codeIn K cdv qual = true
  kp : PySem.W.keepIn K (.ref f) = true
section
variable {P : Program} {w : World} {K : PySem.W.Frag} {mg : Str → Option Value} {base : Heap}
/-- THE RULE for a def: its body as a term of rules, and the reading of that term -/
theorem Fun.ok {x qual : Str} {st : Stmt} {f : Addr} {fd : FuncData} {N ps : List Str} {k : Nat} {sp : Sp} (F : Fun K x qual st f fd) (S : FnScope N ps (defScope st)) (len : ∀ vs H Q E, sp vs H Q E → vs.length = ps.length)
    (hbody : ∀ (cdv : Value) (A : Around) (outer : List Env) (s : Shared) (H : Hp) (vs : List V) (Q : VK) (E : XK), Room k (A.deeper (envOfC qual (defScope st) s.heap.objs.size f cdv)) → sp vs H Q E →
      ∃ t, PSs (cxOf CX0 P w K mg base N qual (defScope st) f cdv A outer s H E).nox (defBody st) t ∧ t { nx := fun _ H' => Q .non H', rt := Q } (start N vs) H) : FnOk P w K mg base CX0 (k + 1) f fd ps sp := by
  obtain ⟨oc, od, kV, doc, pm, an, cdv, ct, osl, rfl, lk, hcd⟩ := F.ex
  refine fn_of lk hcd S len fun A outer s H vs Q E hr hsp => ?_
  obtain ⟨t, h, q⟩ := hbody cdv A outer s H vs Q E hr hsp
  exact ⟨t, h.nox, q⟩
/-- how its arguments bind (no defaults): h is «fun _ _ _ _ _ _ us hl => match us, hl with | [_, _], _ => rfl», one _ a parameter -/
theorem Fun.binds {x qual : Str} {st : Stmt} {f : Addr} {fd : FuncData} {ps : List Str} (F : Fun K x qual st f fd)
    (h : ∀ (kV doc pm : Value) (an : Option Addr) (cdv ct : Value) (us : List Value), us.length = ps.length → bindArgs (PySem.W.fnOf x qual (defArgs st) (defBody st) (defScope st) .none kV doc pm an cdv ct) ⟨us, []⟩ = pure (ps.zip us)) : Binds K fd ps [] := by
  obtain ⟨oc, od, kV, doc, pm, an, cdv, ct, osl, rfl, lk, hcd⟩ := F.ex
  exact .all (h kV doc pm an cdv ct)
theorem fun_mk {x qual : Str} {st : Stmt} {f : Addr} {oc : Value} {od an : Option Addr} {osl : Array (Option Value)} {kV doc pm cdv ct : Value} (l : K.lookup f = some ⟨oc, od, .func (PySem.W.fnOf x qual (defArgs st) (defBody st) (defScope st) .none kV doc pm an cdv ct), osl⟩)
    (c : PySem.W.codeIn K cdv qual = true) (k : PySem.W.keepIn K (.ref f) = true) : Fun K x qual st f (PySem.W.fnOf x qual (defArgs st) (defBody st) (defScope st) .none kV doc pm an cdv ct) := ⟨⟨oc, od, kV, doc, pm, an, cdv, ct, osl, rfl, l, c⟩, k⟩
end
theorem small1000 {n : Nat} (h : n ≤ 1000) : n < sizeLine := Nat.lt_of_le_of_lt h (by decide)

/-! ### expressions in short: the name that stands in the i-th slot -/
section
variable {X : Cx}
theorem pv (i : Nat) {x : Str} {pos : Pos} (hN : X.N[i]? = some x := by rfl) (hv : Vis X.env.scope x := by first | exact Or.inl rfl | exact Or.inr (Or.inl rfl) | exact Or.inr (Or.inr rfl)) (hd : (x == ("__debug__" : Str)) = false := by decide)
    (hcd : (x == ("__classdict__" : Str)) = false := by decide) : PE X (.Name x pos) (tVar i) := pe_var hN hv hd hcd
end

/-! ### tests -/
theorem iteF {A B : Prop} (h : B) : if false = true then A else B := by
  rw [if_neg Bool.false_ne_true]
  exact h
theorem iteT {A B : Prop} (h : A) : if true = true then A else B := by
  rw [if_pos rfl]
  exact h
theorem ite2 {c A B : Prop} [Decidable c] (h1 : c → A) (h2 : ¬ c → B) : if c then A else B := by
  by_cases h : c
  · rw [if_pos h]
    exact h1 h
  · rw [if_neg h]
    exact h2 h
theorem iteNS {c A B : Prop} [Decidable c] (hc : c) (h : B) : if (!decide c) = true then A else B := by
  rw [decide_eq_true hc]
  exact iteF h

end L2

set_option maxRecDepth 100000
set_option maxHeartbeats 4000000
namespace L2
open PySem PySem.Spec PyProof.Rows

/-! ### heaps: what is tracked stays, but for the tables of code, which may grow -/
/-- what is known of a code object that a table names: it is a record with a name -/
def codeP (c : Addr) : Heap → Prop := fun h => ∃ (o : Obj) (vs : Array Value) (q : Str) (t : Nat), h.get? c = some o ∧ o.data = .fields vs ∧ vs[1]? = some (.str q t)
/-- a table of code: all that it names is tracked -/
def TabOk (H : Hp) (P : Addr) : Prop := ∃ ps : Array Value, H P = some (.tbl ps) ∧ TriplesOk ps.toList ∧ ∀ pos : Pos, codeAmong pos ps.toList = none ∨ ∃ c : Addr, codeAmong pos ps.toList = some (.ref c) ∧ H c = some (.ext (codeP c))
def Kp (H H' : Hp) (b : Addr) : HO → Prop
  | .tbl _ => (∃ ps, H' b = some (.tbl ps)) ∧ (TabOk H b → TabOk H' b)
  | o => H' b = some o
/-- all that was tracked is as it was; tables of code may have grown -/
def Same (H H' : Hp) : Prop := ∀ b o, H b = some o → Kp H H' b o
theorem Kp.of {H H' : Hp} {b : Addr} {o : HO} (h : H b = some o) (e : H' b = some o) (hc : ∀ c, H c = some (.ext (codeP c)) → H' c = some (.ext (codeP c))) : Kp H H' b o := by
  cases o
  case tbl ps =>
    refine ⟨⟨ps, e⟩, fun ⟨qs, hq, tr, hp⟩ => ?_⟩
    rw [h] at hq
    cases hq
    exact ⟨_, e, tr, fun pos => (hp pos).imp id fun ⟨c, z1, z2⟩ => ⟨c, z1, hc c z2⟩⟩
  all_goals exact e
theorem same_of {H H' : Hp} (h : ∀ b o, H b = some o → H' b = some o) : Same H H' := fun b o e => Kp.of e (h b o e) fun c z => h c _ z
theorem Same.refl (H : Hp) : Same H H := same_of fun _ _ h => h
theorem Same.trans {H H1 H2 : Hp} (a : Same H H1) (b : Same H1 H2) : Same H H2 := fun c o h => by
  have z := a c o h
  cases o
  case tbl ps =>
    obtain ⟨⟨qs, hq⟩, k⟩ := z
    obtain ⟨q2, k2⟩ := b c _ hq
    exact ⟨q2, fun t => k2 (k t)⟩
  all_goals exact b c _ z
theorem Kp.some {H H' : Hp} {b : Addr} {o : HO} (k : Kp H H' b o) : ∃ u, H' b = some u := by
  cases o
  case tbl ps => exact ⟨_, k.1.choose_spec⟩
  all_goals exact ⟨_, k⟩
theorem Same.free {H H' : Hp} (e : Same H H') {l : Addr} (h : H' l = Option.none) : H l = Option.none := by
  cases q : H l with
  | none => rfl
  | some o =>
    obtain ⟨u, z⟩ := (e l o q).some
    rw [z] at h
    cases h
end L2

set_option maxRecDepth 100000
set_option maxHeartbeats 4000000
namespace L2
open PySem PySem.Spec PyProof.Rows

/-! ### A. List comprehensions of one clause -/
/-- a loop in the machine's monad whose every step is pure -/
theorem forIn_all {α β : Type} (g : α → β → β) {f : α → β → Sem (ForInStep β)} : ∀ (l : List α) (b : β), (∀ x ∈ l, ∀ c, f x c = pure (ForInStep.yield (g x c))) →
    forIn l b f = (pure (l.foldl (fun c x => g x c) b) : Sem β)
  | [], b, _ => by simp only [List.forIn_nil, List.foldl_nil]
  | x :: r, b, h => by
    rw [List.forIn_cons, h x List.mem_cons_self b, pure_bind]
    exact forIn_all g r (g x b) fun y hy c => h y (List.mem_cons_of_mem _ hy) c

/-- the cells that a block takes over from its def -/
def clOf (sc : Scope) (env : Env) : List (Str × Addr) :=
  sc.names.foldl (fun cs y => if (y.2 == NameKind.free) = true then (y.1, (env.cells.lookup y.1).getD 0) :: cs else cs) []
theorem clOf_eq {sc : Scope} {env : Env} (h : ∀ y ∈ sc.names, y.2 = .free → ∃ c, env.cells.lookup y.1 = some c) : closureFor sc env = pure (clOf sc env) := by
  simp only [closureFor]
  rw [forIn_all (fun (y : Str × NameKind) (cs : List (Str × Addr)) => if (y.2 == NameKind.free) = true then (y.1, (env.cells.lookup y.1).getD 0) :: cs else cs) sc.names [] (fun y hy c => by
    obtain ⟨n, k⟩ := y
    by_cases hk : k = .free
    · obtain ⟨a, ha⟩ := h _ hy hk
      subst hk
      simp only [cellOf, ha, beq_self_eq_true, if_true, pure_bind, Option.getD_some]
    · have z : (k == NameKind.free) = false := by simpa using hk
      simp only [z, Bool.false_eq_true, if_false])]
  rfl
theorem foldl_mem {α β : Type} {P : β → Prop} {g : α → List β → List β} : ∀ (l : List α) (b : List β), (∀ p ∈ b, P p) → (∀ x ∈ l, ∀ c, (∀ p ∈ c, P p) → ∀ p ∈ g x c, P p) → ∀ p ∈ l.foldl (fun c x => g x c) b, P p
  | [], b, hb, _ => hb
  | x :: r, b, hb, h => foldl_mem r (g x b) (h x List.mem_cons_self b hb) fun y hy => h y (List.mem_cons_of_mem _ hy)
theorem clOf_mem {sc : Scope} {env : Env} (h : ∀ y ∈ sc.names, y.2 = .free → ∃ c, env.cells.lookup y.1 = some c) : ∀ p ∈ clOf sc env, env.cells.lookup p.1 = some p.2 := by
  refine foldl_mem (P := fun p : Str × Addr => env.cells.lookup p.1 = some p.2) sc.names [] (fun _ z => nomatch z) fun y hy c hc p hp => ?_
  by_cases hk : y.2 = .free
  · have z : (y.2 == NameKind.free) = true := by simpa using hk
    rw [if_pos z] at hp
    rcases List.mem_cons.mp hp with e | hp
    · obtain ⟨a, ha⟩ := h y hy hk
      rw [e]
      show env.cells.lookup y.1 = some ((env.cells.lookup y.1).getD 0)
      rw [ha]
      rfl
    · exact hc p hp
  · have z : ¬ (y.2 == NameKind.free) = true := by simpa using hk
    rw [if_neg z] at hp
    exact hc p hp
theorem foldl_keep {α β : Type} {q : β} {g : α → List β → List β} (hg : ∀ x c, q ∈ c → q ∈ g x c) : ∀ (l : List α) (b : List β), q ∈ b → q ∈ l.foldl (fun c x => g x c) b
  | [], _, hb => hb
  | x :: r, b, hb => foldl_keep hg r (g x b) (hg x b hb)
theorem clOf_has {sc : Scope} {env : Env} {x : Str} {c : Addr} (hx : (x, NameKind.free) ∈ sc.names) (hc : env.cells.lookup x = some c) : (x, c) ∈ clOf sc env := by
  have kp : ∀ (y : Str × NameKind) (cs : List (Str × Addr)), (x, c) ∈ cs → (x, c) ∈ (if (y.2 == NameKind.free) = true then (y.1, (env.cells.lookup y.1).getD 0) :: cs else cs) := fun y cs h => by
    by_cases z : (y.2 == NameKind.free) = true
    · rw [if_pos z]
      exact List.mem_cons_of_mem _ h
    · rw [if_neg z]
      exact h
  unfold clOf
  obtain ⟨l1, l2, e⟩ := List.append_of_mem hx
  rw [e, List.foldl_append, List.foldl_cons]
  refine foldl_keep (g := fun (y : Str × NameKind) (cs : List (Str × Addr)) => if (y.2 == NameKind.free) = true then (y.1, (env.cells.lookup y.1).getD 0) :: cs else cs) kp l2 _ ?_
  rw [if_pos (by simp)]
  rw [hc]
  exact List.mem_cons_self
theorem lookup_some {β : Type} {x : Str} {b : β} : ∀ {l : List (Str × β)}, (x, b) ∈ l → ∃ c, l.lookup x = some c
  | [], h => nomatch h
  | (y, d) :: r, h => by
    by_cases e : x = y
    · subst e
      exact ⟨d, by rw [List.lookup_cons_self]⟩
    · have z : (x == y) = false := by simpa using e
      rcases List.mem_cons.mp h with q | q
      · cases q
        exact absurd rfl e
      · obtain ⟨c, hc⟩ := lookup_some q
        exact ⟨c, by rw [List.lookup_cons, z]; exact hc⟩
theorem clOf_look {sc : Scope} {env : Env} (h : ∀ y ∈ sc.names, y.2 = .free → ∃ c, env.cells.lookup y.1 = some c) {x : Str} {c : Addr} (e : (clOf sc env).lookup x = some c) : env.cells.lookup x = some c :=
  clOf_mem h _ (PySem.mem_of_lookup e)
theorem clOf_at {sc : Scope} {env : Env} (h : ∀ y ∈ sc.names, y.2 = .free → ∃ c, env.cells.lookup y.1 = some c) {x : Str} {c : Addr} (hx : (x, NameKind.free) ∈ sc.names) (hc : env.cells.lookup x = some c) : (clOf sc env).lookup x = some c := by
  obtain ⟨d, hd⟩ := lookup_some (clOf_has hx hc)
  have := clOf_look h hd
  rw [hc] at this
  cases this
  exact hd

/-- a block's scope as it is run, by its def's scope -/
def relS (sc sc0 : Scope) : Scope :=
  { sc with names := sc.names.map fun (n, k) => if (k == .free && sc0.kind == .function && sc0.names.lookup n == some .cell) then (n, .cell) else (n, k) }
/-- what a comprehension's table must be: n of its own names ahead in N', behind them the def's slots kp -/
def lcOk (sc0 sc : Scope) (XN N' : List Str) (n : Nat) (kp : List Nat) : Bool :=
  decide (sc.kind = .function) && sc.names.all (fun y => decide (y.2 ≠ .cell)) && sc.names.all (fun y => decide (y.2 = .local → sc.names.lookup y.1 = some .local)) &&
  sc.names.all (fun y => decide (y.2 = .free → sc0.names.lookup y.1 = some .cell)) && decide (N'.length = n + kp.length) &&
  (List.range kp.length).all (fun i => match N'[n + i]?, kp[i]? with
    | some x, some j => decide (XN[j]? = some x ∧ (x, NameKind.free) ∈ sc.names ∧ ((relS sc sc0).names.lookup x = some .cell ∨ (relS sc sc0).names.lookup x = some .free))
    | _, _ => false)
theorem lcOk_parts {sc0 sc : Scope} {XN N' : List Str} {n : Nat} {kp : List Nat} (h : lcOk sc0 sc XN N' n kp = true) :
    sc.kind = .function ∧ (∀ y ∈ sc.names, y.2 ≠ .cell) ∧ (∀ y ∈ sc.names, y.2 = .local → sc.names.lookup y.1 = some .local) ∧ (∀ y ∈ sc.names, y.2 = .free → sc0.names.lookup y.1 = some .cell) ∧ N'.length = n + kp.length ∧
    ∀ (i : Nat) (x : Str), N'[n + i]? = some x → ∃ j, kp[i]? = some j ∧ XN[j]? = some x ∧ (x, NameKind.free) ∈ sc.names ∧ ((relS sc sc0).names.lookup x = some .cell ∨ (relS sc sc0).names.lookup x = some .free) := by
  unfold lcOk at h
  simp only [Bool.and_eq_true, List.all_eq_true, decide_eq_true_eq] at h
  obtain ⟨⟨⟨⟨⟨h1, h2⟩, h3⟩, h4⟩, h5⟩, h6⟩ := h
  refine ⟨h1, h2, h3, h4, h5, fun i x hx => ?_⟩
  have hi : i < kp.length := by
    have := (List.getElem?_eq_some_iff.mp hx).1
    omega
  have q := h6 i (List.mem_range.mpr hi)
  rw [hx, List.getElem?_eq_getElem hi] at q
  exact ⟨kp[i], List.getElem?_eq_getElem hi, of_decide_eq_true q⟩

abbrev NoX : Value → Shared → Prop := fun _ _ => False
/-- a comprehension's block running, in the context of its def -/
def blk (X : Cx) (N' : List Str) (sc : Scope) (C : Addr) (fp : List Addr) (pins : List (Addr × Obj)) (s : Shared) (H : Hp) : Cx :=
  { X with N := N', s₀ := s, H₀ := H, env := compEnvC sc (clOf sc X.env) C X.env, outer := X.stack, stack := X.stack, ex := fp, fn := fun _ => false, pn := X.pn ++ pins, xe := NoX }
/-- the tests of a clause, one behind another -/
abbrev lcIfs (cs : List Expr) (env : Env) : Sem Bool := forIn cs true fun c r => if r = true then do let ok ← isTrue c env (eval c env); pure (ForInStep.yield ok) else pure (ForInStep.yield r)
def PTs (X : Cx) (cs : List Expr) (t : TT) : Prop :=
  ∀ (pins : List (Addr × Obj)) (s : Shared) (σ : St) (H : Hp) (Q : Bool → Hp → Prop), Inv X pins σ H s → t σ H Q → wpAny (model X.prog X.w) X.A (lcIfs cs X.env) (TP X pins σ Q) X.xe s
def tNoT : TT := fun _ H Q => Q true H
theorem pts_nil {X : Cx} : PTs X [] tNoT := fun _ _ _ H _ I h => wpAny_tests_nil ⟨H, I, h⟩
theorem pts_one {X : Cx} {c : Expr} {t : TT} (hc : PT X c t) : PTs X [c] t := fun pins s σ H Q I h => wpAny_tests_one (hc pins s σ H Q I h)

theorem lc_loop {prog : Program} {w : World} {A : Around} {R : Result → Shared → Prop} {elt tg iter : Expr} {cs : List Expr} {sc : Scope} {pos : Pos} {it acc : Value} {env : Env} (J : Nat → Shared → Prop)
    (turn : ∀ n s, J n s → wpAny (model prog w) A (pyNext it) (fun r s1 => match r with
      | none => R (.ok .next) s1
      | some v => wpAny (model prog w) A (letOwnedTupleGo tg it v) (fun _ s2 => wpAny (model prog w) A (assign tg env v) (fun _ s3 => wpAny (model prog w) A (lcIfs cs env) (fun ok s4 =>
          if ok = true then wpAny (model prog w) A (eval elt env) (fun x s5 => wpAny (model prog w) A (call (.builtin "list.append") [acc, x]) (fun _ s6 => ∃ m, m < n ∧ J m s6) NoX s5) NoX s4
          else ∃ m, m < n ∧ J m s4) NoX s3) NoX s2) NoX s1) NoX s)
    (n : Nat) (s : Shared) (h : J n s) : codeAny (model prog w) A (.compLoop (.ListComp elt [⟨tg, iter, cs, 0⟩] sc pos) 0 it acc env) R s := by
  refine codeAny_loop rfl J (fun n s hJ => ?_) n h
  show wpAny _ A ((compTurn (.ListComp elt [⟨tg, iter, cs, 0⟩] sc pos) 0 it acc env).onRaise (fun x => do noteFrame x env; theTreesLotGoes x)) _ _ s
  refine wpAny_noted ?_
  rw [compTurn_list]
  have no : ∀ {E : Value → Shared → Prop} (e : Value) (z : Shared), NoX e z → E e z := fun _ _ f => f.elim
  refine wpAny_bind (wpAny_standAt (wpAny_bind (wpAny_mono (turn n s hJ) (fun r s1 h1 => ?_) no)))
  cases r with
  | none => exact wpAny_pure h1
  | some v =>
    refine wpAny_bind (wpAny_mono h1 (fun _ s2 h2 => ?_) no)
    refine wpAny_bind (wpAny_mono h2 (fun _ s3 h3 => ?_) no)
    refine wpAny_bind (wpAny_mono h3 (fun ok s4 h4 => ?_) no)
    cases ok with
    | false => exact wpAny_pure ⟨rfl, h4⟩
    | true =>
      exact wpAny_bind (wpAny_bind (wpAny_mono h4 (fun x s5 h5 => wpAny_bind (wpAny_mono h5 (fun _ s6 h6 => wpAny_pure (wpAny_pure ⟨rfl, h6⟩)) no)) no))

/-- a comprehension from its iterator on: W is the invariant, by the turn, a measure, the list so far, the block's slots, the heap -/
def lcGo (J : It) (g : TG) (tc : TT) (te : TE) (σ0 : St) (H1 : Hp) (Q : VK) : Prop := ∃ W : Nat → Nat → List V → St → Hp → Prop,
  (∃ m, W 0 m [] σ0 H1) ∧ ∀ i m ys σ' H', W i m ys σ' H' → ys.length ≤ sizeLine ∧
    ((J.stop i H' ∧ ∀ p, H' p = none → Q (.ref p) (upd H' p (.lst ys))) ∨
     (J.go i H' ∧ ∃ N : List V → St → Hp → Prop, (∀ ys' σ2 H2, N ys' σ2 H2 → ∃ m', m' < m ∧ W (i + 1) m' ys' σ2 H2) ∧ ∀ x H2, J.yld i H' x H2 → g x σ' H2 fun σ3 H3 => tc σ3 H3 fun b H4 =>
       if b = true then te σ3 H4 fun v H5 => N (ys ++ [v]) σ3 H5 else N ys σ3 H4))
/-- the reading of a comprehension -/
def tLc (n : Nat) (kp : List Nat) (wi : TI) (g : TG) (tc : TT) (te : TE) : TE := fun σ H Q => wi σ H fun J H1 => lcGo J g tc te (List.replicate n none ++ kp.map fun j => (σ[j]?).join) H1 Q

/-- a comprehension over a range, by what holds at each turn -/
theorem lc_range {lo : Int} {k : Nat} {σ0 : St} {H : Hp} {g : TG} {tc : TT} {te : TE} {Q : VK} (Pv : Nat → List V → St → Hp → Prop) (h0 : Pv 0 [] σ0 H) (hz : ∀ i ys σ H, i ≤ k → Pv i ys σ H → ys.length ≤ sizeLine)
    (hs : ∀ i ys σ H, i < k → Pv i ys σ H → g (.int (lo + i)) σ H fun σ3 H3 => tc σ3 H3 fun b H4 => if b = true then te σ3 H4 fun v H5 => Pv (i + 1) (ys ++ [v]) σ3 H5 else Pv (i + 1) ys σ3 H4)
    (hd : ∀ ys σ H, Pv k ys σ H → ∀ p, H p = none → Q (.ref p) (upd H p (.lst ys))) :
    lcGo (Itr lo k) g tc te σ0 H Q := by
  refine ⟨fun i m ys σ H => m = k - i ∧ i ≤ k ∧ Pv i ys σ H, ⟨k, by simp, Nat.zero_le _, h0⟩, ?_⟩
  rintro i m ys σ H ⟨rfl, hi, p⟩
  refine ⟨hz i ys σ H hi p, ?_⟩
  by_cases hlt : i < k
  · refine .inr ⟨hlt, Pv (i + 1), fun ys' σ' H' p' => ⟨k - (i + 1), by omega, rfl, hlt, p'⟩, fun x H' y => ?_⟩
    obtain ⟨e1, e2⟩ := y
    subst e1
    subst e2
    exact hs i ys σ _ hlt p
  · have e : i = k := by omega
    subst e
    exact .inl ⟨Nat.le_refl _, hd ys σ H p⟩
/-- .. over a list that stays as it is -/
theorem lc_list {K : PySem.W.Frag} {a : Addr} {xs : List V} {σ0 : St} {H : Hp} {g : TG} {tc : TT} {te : TE} {Q : VK} (Pv : Nat → List V → St → Hp → Prop) (h0 : Pv 0 [] σ0 H) (hz : ∀ i ys σ H, i ≤ xs.length → Pv i ys σ H → ys.length ≤ sizeLine)
    (hl : ∀ i ys σ H, i ≤ xs.length → Pv i ys σ H → SqL K H a xs)
    (hs : ∀ i x ys σ H, xs[i]? = some x → Pv i ys σ H → g x σ H fun σ3 H3 => tc σ3 H3 fun b H4 => if b = true then te σ3 H4 fun v H5 => Pv (i + 1) (ys ++ [v]) σ3 H5 else Pv (i + 1) ys σ3 H4)
    (hd : ∀ ys σ H, Pv xs.length ys σ H → ∀ p, H p = none → Q (.ref p) (upd H p (.lst ys))) :
    lcGo (Itl K a) g tc te σ0 H Q := by
  refine ⟨fun i m ys σ H => m = xs.length - i ∧ i ≤ xs.length ∧ Pv i ys σ H, ⟨xs.length, by simp, Nat.zero_le _, h0⟩, ?_⟩
  rintro i m ys σ H ⟨rfl, hi, p⟩
  refine ⟨hz i ys σ H hi p, ?_⟩
  have q := hl i ys σ H hi p
  by_cases hlt : i < xs.length
  · refine .inr ⟨⟨xs, xs[i], q, by simp [hlt]⟩, Pv (i + 1), fun ys' σ' H' p' => ⟨xs.length - (i + 1), by omega, rfl, hlt, p'⟩, fun x H' y => ?_⟩
    obtain ⟨e, y⟩ := y
    subst e
    exact hs i x ys σ _ (y xs q) p
  · have e : i = xs.length := by omega
    subst e
    exact .inl ⟨⟨xs, q, Nat.le_refl _⟩, hd ys σ H p⟩

/-- .. over a tuple that stays as it is -/
theorem lc_tup {K : PySem.W.Frag} {a : Addr} {xs : List V} {σ0 : St} {H : Hp} {g : TG} {tc : TT} {te : TE} {Q : VK} (Pv : Nat → List V → St → Hp → Prop) (h0 : Pv 0 [] σ0 H) (hz : ∀ i ys σ H, i ≤ xs.length → Pv i ys σ H → ys.length ≤ sizeLine)
    (hl : ∀ i ys σ H, i ≤ xs.length → Pv i ys σ H → SqT K H a xs)
    (hs : ∀ i x ys σ H, xs[i]? = some x → Pv i ys σ H → g x σ H fun σ3 H3 => tc σ3 H3 fun b H4 => if b = true then te σ3 H4 fun v H5 => Pv (i + 1) (ys ++ [v]) σ3 H5 else Pv (i + 1) ys σ3 H4)
    (hd : ∀ ys σ H, Pv xs.length ys σ H → ∀ p, H p = none → Q (.ref p) (upd H p (.lst ys))) :
    lcGo (Itt K a) g tc te σ0 H Q := by
  refine ⟨fun i m ys σ H => m = xs.length - i ∧ i ≤ xs.length ∧ Pv i ys σ H, ⟨xs.length, by simp, Nat.zero_le _, h0⟩, ?_⟩
  rintro i m ys σ H ⟨rfl, hi, p⟩
  refine ⟨hz i ys σ H hi p, ?_⟩
  have q := hl i ys σ H hi p
  by_cases hlt : i < xs.length
  · refine .inr ⟨⟨xs, xs[i], q, by simp [hlt]⟩, Pv (i + 1), fun ys' σ' H' p' => ⟨xs.length - (i + 1), by omega, rfl, hlt, p'⟩, fun x H' y => ?_⟩
    obtain ⟨e, y⟩ := y
    subst e
    exact hs i x ys σ _ (y xs q) p
  · have e : i = xs.length := by omega
    subst e
    exact .inl ⟨⟨xs, q, Nat.le_refl _⟩, hd ys σ H p⟩

section
variable {X : Cx} {tg iter elt : Expr} {cs : List Expr} {sc sc0 : Scope} {pos : Pos} {wi : TI} {g : TG} {tc : TT} {te : TE} {XN N' : List Str} {n : Nat} {kp : List Nat}

theorem blk_ok {pins : List (Addr × Obj)} {σ : St} {H : Hp} {s : Shared} {fp : List Addr} {C : Addr} (I : Inv X pins σ H s) (hk : sc.kind = .function) (hcell : ∀ y ∈ sc.names, y.2 ≠ .cell)
    (hfr : ∀ y ∈ sc.names, y.2 = .free → ∃ c, X.env.cells.lookup y.1 = some c) (hf : ∀ b ∈ fp, FpOk X pins H b) (hl : ∀ b ∈ fp, b < s.heap.objs.size) (hC : s.heap.objs.size ≤ C) : (blk X N' sc C fp pins s H).Ok where
  mod := I.ok.mod
  kind := hk
  glob := I.ok.glob
  blt := I.ok.blt
  above := hC
  inj := fun x y c h1 h2 => I.ok.inj x y c (clOf_look hfr h1) (clOf_look hfr h2)
  has := fun x hx => by
    have q : ∃ k, (x, k) ∈ sc.names ∧ k = .free := by
      have hx' : (relS sc X.env.scope).names.lookup x = some .cell ∨ (relS sc X.env.scope).names.lookup x = some .free := hx
      have go : ∀ k, (relS sc X.env.scope).names.lookup x = some k → (k = .cell ∨ k = .free) → (x, NameKind.free) ∈ sc.names := fun k e hk' => by
        have hm := PySem.mem_of_lookup e
        obtain ⟨⟨y, ky⟩, hy, ey⟩ := List.mem_map.mp hm
        dsimp only at ey
        split at ey
        · rename_i hc
          cases ey
          have z : ky = .free := by
            simp only [Bool.and_eq_true] at hc
            simpa using hc.1.1
          subst z
          exact hy
        · cases ey
          rcases hk' with z | z
          · exact absurd z (hcell _ hy)
          · subst z
            exact hy
      rcases hx' with e | e
      · exact ⟨_, go _ e (.inl rfl), rfl⟩
      · exact ⟨_, go _ e (.inr rfl), rfl⟩
    obtain ⟨k, hm, rfl⟩ := q
    obtain ⟨c, hc⟩ := hfr _ hm rfl
    exact ⟨c, clOf_at hfr hm hc⟩
  cab := fun x c h => absurd h (by simp [blk])
  hd := I.ok.hd
  frames := I.ok.frames
  stk := .inl rfl
  exf := fun b hb => ⟨Nat.ne_of_lt (Nat.lt_of_lt_of_le (hl b hb) hC), fun x c e => (hf b hb).2.2.2.2.1 x c (clOf_look hfr e)⟩
  bs := I.bs
  bsz := Nat.le_trans I.ok.bsz I.sz
  noex := fun b o e hb => by
    rcases (hf b hb).2.2.2.1 with z | z
    · exact I.ok.noex b o e z
    · exact absurd (Nat.lt_of_lt_of_le (Heap.lt_size e) (Nat.le_trans I.ok.bsz z)) (Nat.lt_irrefl _)
  exfs := fun b hb z => by
    rcases List.mem_cons.mp (I.stkSub b z) with q | q
    · exact (hf b hb).2.1 q
    · exact (hf b hb).2.2.1 q
  funs := I.stack
  frf := I.stkFree
end
end L2

set_option maxRecDepth 100000
set_option maxHeartbeats 4000000
namespace L2
open PySem PySem.Spec PyProof.Rows
section
variable {X : Cx} {tg iter elt : Expr} {cs : List Expr} {sc sc0 : Scope} {pos : Pos} {wi : TI} {g : TG} {tc : TT} {te : TE} {XN N' : List Str} {n : Nat} {kp : List Nat}

theorem blk_start {pins : List (Addr × Obj)} {σ : St} {H : Hp} {s : Shared} {fp : List Addr} {C : Addr} {h1 : Heap} {tk : Nat} {m : Str → Option Value} (I : Inv X pins σ H s) (h0 : X.env.scope = sc0) (hN : X.N = XN) (ok : lcOk sc0 sc XN N' n kp = true)
    (hf : ∀ b ∈ fp, FpOk X pins H b) (hl : ∀ b ∈ fp, b < s.heap.objs.size) (hC : s.heap.objs.size ≤ C) (old : ∀ b o, s.heap.get? b = some o → h1.get? b = some o) (ns : h1.Ns C m) :
    Inv (blk X N' sc C fp pins s H) [] (List.replicate n none ++ kp.map fun j => (σ[j]?).join) H { s with heap := h1, toks := tk } := by
  obtain ⟨o1, o2, o3, o4, o5, o6⟩ := lcOk_parts ok
  subst h0
  subst hN
  have hfr : ∀ y ∈ sc.names, y.2 = .free → ∃ c, X.env.cells.lookup y.1 = some c := fun y hy e => I.ok.has y.1 (.inl (o4 y hy e))
  have below : ∀ b, b < s.heap.objs.size → b ≠ C := fun b hb => Nat.ne_of_lt (Nat.lt_of_lt_of_le hb hC)
  refine ⟨blk_ok I o1 o2 hfr hf hl hC, rfl, I.bare, Un.kept old, ⟨m, ns, fun i x v e1 e2 e3 => ?_⟩, fun x c e => ?_, I.hok.fresh hC, fun x c e => ?_, fun p hp => ?_, I.hok.kept old, ?_⟩
  · have hi : n ≤ i := by
      by_cases z : n ≤ i
      · exact z
      · rw [List.getElem?_append_left (by rw [List.length_replicate]; omega), List.getElem?_replicate] at e2
        split at e2 <;> cases e2
    obtain ⟨j, rfl⟩ : ∃ j, i = n + j := ⟨i - n, by omega⟩
    obtain ⟨q, hq, hx, hm, hkd⟩ := o6 j x e1
    rw [List.getElem?_append_right (by rw [List.length_replicate]; omega), List.length_replicate, Nat.add_sub_cancel_left, List.getElem?_map, hq] at e2
    have e4 : (σ[q]?).join = some v := Option.some.inj e2
    have e2' : σ[q]? = some (some v) := by
      cases z : σ[q]? with
      | none => rw [z] at e4; cases e4
      | some w => rw [z] at e4; cases e4; rfl
    obtain ⟨c, hc⟩ := hfr _ hm rfl
    have kx : X.env.kindOf x = some .cell := o4 _ hm rfl
    obtain ⟨m', hn', hl'⟩ := I.loc
    obtain ⟨u, r, lk⟩ := hl' q x v hx e2' (.inr (.inl kx))
    refine ⟨u, r, .inr ⟨hkd, c, clOf_at hfr hm hc, ?_⟩⟩
    rcases lk with ⟨k, _⟩ | ⟨_, c', hc', hv⟩
    · rw [kx] at k
      cases k
    · rw [hc] at hc'
      cases hc'
      exact hv.keeps old
  · obtain ⟨v, hv⟩ := I.cell x c (clOf_look hfr e)
    exact ⟨v, hv.keeps old⟩
  · exact I.freeC x c (clOf_look hfr e)
  · have hp' : p ∈ X.pn ++ pins := by
      have : p ∈ (X.pn ++ pins) ++ ([] : List (Addr × Obj)) := hp
      rw [List.append_nil] at this
      exact this
    obtain ⟨q1, q2, q3, q4, q5⟩ := I.pin p hp'
    refine ⟨old _ _ q1, q2, below _ (Heap.lt_size q1), fun z => ?_, q5⟩
    rcases List.mem_cons.mp (I.stkSub _ z) with r | r
    · exact q3 r
    · exact q4 r
  · show (List.replicate n none ++ kp.map fun j => (σ[j]?).join).length = N'.length
    rw [List.length_append, List.length_replicate, List.length_map, o5]

/-- the run of a comprehension up to its end; what comes then is asked by fin -/
theorem lc_run {pins : List (Addr × Obj)} {s : Shared} {σ : St} {H : Hp} {Q : VK} {use : Option (Value → Sem Unit)} {Qf : Value → Shared → Prop} (hc : X.calm = true) (hi : PI X tg iter wi) (h0 : X.env.scope = sc0) (hN : X.N = XN) (ok : lcOk sc0 sc XN N' n kp = true)
    (hg : ∀ C fp pins s H, PG (blk X N' sc C fp pins s H) tg g) (ht : ∀ C fp pins s H, PTs (blk X N' sc C fp pins s H) cs tc) (he : ∀ C fp pins s H, PE (blk X N' sc C fp pins s H) elt te) (hs : ∀ x, foldedSetIterable iter X.env x = pure x)
    (I : Inv X pins σ H s) (h : tLc n kp wi g tc te σ H Q)
    (fin : ∀ D C ys H' s', Inv X pins σ (upd H' D (.lst ys)) s' → (∃ m, s'.heap.Ns C m) → FpOk X pins (upd H' D (.lst ys)) C → Q (.ref D) (upd H' D (.lst ys)) → compPost (model X.prog X.w) X.A X.xe use Qf (.ref D) C (.ok .next) s') {pos' : Pos} :
    wpAny (model X.prog X.w) X.A (comprehension (.ListComp elt [⟨tg, iter, cs, 0⟩] sc pos) sc X.env pos' (newList []) false (firstIter [⟨tg, iter, cs, 0⟩] X.env) use) Qf X.xe s := by
  obtain ⟨o1, o2, o3, o4, o5, o6⟩ := lcOk_parts ok
  have hfr : ∀ y ∈ sc.names, y.2 = .free → ∃ c, X.env.cells.lookup y.1 = some c := fun y hy e => I.ok.has y.1 (.inl (by rw [Env.kindOf, h0]; exact o4 y hy e))
  refine wpAny_comprehension_free (use := use) rfl hs (clOf_eq hfr) o1 o3 (thn (hi pins s σ H _ I h) fun v s1 h1 => thn h1 fun itv s2 h2 => ?_)
  obtain ⟨it, fp, tn, J, H2, rfl, I2, T, st2, f2, W, ⟨m0, w0⟩, turn⟩ := h2
  have hl : ∀ b ∈ fp, b < s2.heap.objs.size := fun b hb => by
    obtain ⟨o, e, _⟩ := T.obj 0 _ st2 b hb
    exact Heap.lt_size e
  refine wpAny_newObj_type (wpAny_newFunctionEnv o2 (by intro y hy; simp at hy) (fun h1 ns1 sb1 => ?_) o1)
  dsimp only at ns1 sb1 ⊢
  generalize hG : s2.heap.push { cls := .type "list", dict := none, data := .seq ([] : List Value).toArray } = G at ns1 sb1 ⊢
  have hGs : G.objs.size = s2.heap.objs.size + 1 := by rw [← hG, Heap.size_push]
  have hCl : s2.heap.objs.size ≤ G.objs.size := by omega
  have hDC : s2.heap.objs.size ≠ G.objs.size := by omega
  have old : ∀ b o, s2.heap.get? b = some o → h1.get? b = some o := fun b o e => by
    have lt := Heap.lt_size e
    exact sb1.extBut b o (Nat.ne_of_lt (Nat.lt_of_lt_of_le lt hCl)) (Heap.get?_push_of_some _ (hG ▸ Heap.get?_push_of_some _ e))
  have hD1 : h1.get? s2.heap.objs.size = some { cls := .type "list", data := .seq ([] : List Value).toArray 0 } :=
    sb1.extBut _ _ hDC (Heap.get?_push_of_some _ (hG ▸ Heap.get?_push_size _ rfl))
  have nD2 : H2 s2.heap.objs.size = none := I2.hok.fresh (Nat.le_refl _)
  have nC2 : H2 G.objs.size = none := I2.hok.fresh hCl
  -- the loop from any state that the block may begin with
  have loop : ∀ s3 : Shared, s3 = { s2 with heap := h1, toks := s2.toks + ([] : List (Str × Value)).length } →
      codeAny (model X.prog X.w) X.A (.compLoop (.ListComp elt [⟨tg, iter, cs, 0⟩] sc pos) 0 (.ref it) (.ref s2.heap.objs.size) (compEnvC sc (clOf sc X.env) G.objs.size X.env))
        (compPost (model X.prog X.w) X.A X.xe use Qf (.ref s2.heap.objs.size) G.objs.size) s3 := by
    rintro s3 rfl
    have I3 := blk_start (fp := fp) (C := G.objs.size) (h1 := h1) (tk := s2.toks + ([] : List (Str × Value)).length) I2 h0 hN ok f2 hl hCl old ns1
    have stat : ∀ {H' : Hp} {o : Obj}, (∀ b ∈ fp, H' b = none) → ∀ b ∈ fp, FpOk (blk X N' sc G.objs.size fp pins s2 H2) [(s2.heap.objs.size, o)] H' b := fun hn b hb => by
      have lt := hl b hb
      refine ⟨hn b hb, Nat.ne_of_lt (Nat.lt_of_lt_of_le lt hCl), I3.ok.exfs b hb, .inl hb, (I3.ok.exf b hb).2, fun p hp => ?_⟩
      rcases List.mem_append.mp hp with z | z
      · exact (f2 b hb).2.2.2.2.2 p z
      · have e : p.1 = s2.heap.objs.size := by rw [List.mem_singleton.mp z]
        rw [e]
        exact Nat.ne_of_gt lt
    have pinD : ∀ {σ' : St} {H' : Hp} {s' : Shared} {o : Obj}, Inv (blk X N' sc G.objs.size fp pins s2 H2) [] σ' H' s' → s'.heap.get? s2.heap.objs.size = some o → (∀ v, o.data ≠ .cell v) → H' s2.heap.objs.size = none →
        Inv (blk X N' sc G.objs.size fp pins s2 H2) [(s2.heap.objs.size, o)] σ' H' s' := fun {σ' H' s' o} J' e hd hn => J'.pins_of fun p hp => by
      rw [List.mem_singleton.mp hp]
      exact ⟨e, hn, hDC, fun z => by
        rcases List.mem_cons.mp (I2.stkSub _ z) with r | r
        · exact absurd I2.lt (by rw [← r]; exact Nat.lt_irrefl _)
        · exact I2.nofs (Nat.le_refl _) r, hd⟩
    refine lc_loop (fun k s' => ∃ (i : Nat) (ys : List V) (its : List Value) (c : Nat) (σ' : St) (H' : Hp), Inv (blk X N' sc G.objs.size fp pins s2 H2) [] σ' H' s' ∧ tn i s'.heap ∧ (∀ b ∈ fp, H' b = none) ∧
      s'.heap.get? s2.heap.objs.size = some { cls := .type "list", data := .seq its.toArray c } ∧ Vals ys its ∧ H' s2.heap.objs.size = none ∧ W i k ys σ' H') ?_ m0 _
      ⟨0, [], [], 0, _, H2, I3, T.keep _ _ _ st2 fun b _ o e => old b o e, fun b hb => (f2 b hb).1, hD1, .nil, nD2, w0⟩
    rintro k s' ⟨i, ys, its, c, σ', H', I', st', fr', hD', hv, nD, w'⟩
    obtain ⟨hz, cases⟩ := turn i k ys σ' H' w'
    have I'' := pinD I' hD' (fun v => by intro z; cases z) nD
    rcases cases with ⟨stop, q⟩ | ⟨go, N, hN2, step⟩
    · refine thn (T.done (blk X N' sc G.objs.size fp pins s2 H2) rfl rfl rfl hc i _ s' σ' H' NoX I'' (stat fr') st' stop) fun r s4 ⟨hr, I4⟩ => ?_
      subst hr
      obtain ⟨e4, n4, _⟩ := I4.pin (s2.heap.objs.size, { cls := .type "list", data := .seq its.toArray c }) (List.mem_append_right _ (List.mem_singleton.mpr rfl))
      have u4 : Un (frs X.stack) fp H2 H' s2.heap s4.heap := I4.base
      have nC4 : H' G.objs.size = none := I4.free
      obtain ⟨m4, ns4, _⟩ := I4.loc
      have neD : ∀ b o, s2.heap.get? b = some o → b ≠ s2.heap.objs.size := fun b o e => Nat.ne_of_lt (Heap.lt_size e)
      have u5 : Un (frs X.stack) fp H2 (upd H' s2.heap.objs.size (.lst ys)) s2.heap s4.heap :=
        ⟨u4.keep, u4.slot, fun b o e nb hx => by rw [upd_ne (neD b o e)]; exact u4.free b o e nb hx, u4.there, fun b xs e => by rw [upd_ne (ne_of_none e nD2)]; exact u4.tups b xs e,
          fun b o u e => by rw [upd_ne (ne_of_none e nD2)]; exact u4.frzs b o u e, fun b ps e => by rw [upd_ne (ne_of_none e nD2)]; exact u4.tbls b ps e⟩
      have hok5 : HOk X.prog X.w (upd H' s2.heap.objs.size (.lst ys)) s4.heap := fun a o e => by
        by_cases ea : a = s2.heap.objs.size
        · subst ea
          rw [upd_same] at e
          cases e
          exact ⟨hz, its, c, hv, e4⟩
        · rw [upd_ne ea] at e
          exact (I4.hok a o e).stay (fun _ _ _ q => q) (fun b q => by rw [upd_ne (ne_of_none q nD)]; exact q) fun b xs q => by rw [upd_ne (ne_of_none q nD)]; exact q
      have I5 : Inv X pins σ (upd H' s2.heap.objs.size (.lst ys)) s4 := I2.call' I4.os u5 hok5 I4.bare fun b hb => ⟨(f2 b hb).2.2.2.1, (f2 b hb).2.1, (f2 b hb).2.2.2.2.1, (f2 b hb).2.2.2.2.2⟩
      refine fin _ _ ys H' s4 I5 ⟨m4, ns4⟩ (I2.fpOk hCl ?_) (q _ nD)
      rw [upd_ne (Ne.symm hDC)]
      exact nC4
    · refine thn (T.item (blk X N' sc G.objs.size fp pins s2 H2) rfl rfl rfl hc i _ s' σ' H' NoX I'' (stat fr') st' go) fun r s4 ⟨u, hr, h4⟩ => ?_
      subst hr
      refine thn h4 fun _ s5 ⟨x, H5, I5, r5, y5, st5, fr5⟩ => ?_
      have I5' := I5.pinned (stat fr5) (T.obj _ _ st5)
      refine thn (hg _ _ _ _ _ _ s5 σ' H5 x u _ I5' r5 (step x H5 y5)) fun _ s6 ⟨σ6, H6, I6, q6⟩ => ?_
      refine thn (ht _ _ _ _ _ _ s6 σ6 H6 _ I6 q6) fun b s7 ⟨H7, I7, q7⟩ => ?_
      have back : ∀ {s8 : Shared} {H8 : Hp} (m' : Nat), Inv (blk X N' sc G.objs.size fp pins s2 H2) ([(s2.heap.objs.size, { cls := .type "list", data := .seq its.toArray c })] ++ pinsAt fp s5.heap) σ6 H8 s8 →
          tn (i + 1) s8.heap ∧ (∀ b ∈ fp, H8 b = none) ∧ s8.heap.get? s2.heap.objs.size = some { cls := .type "list", data := .seq its.toArray c } ∧ H8 s2.heap.objs.size = none := fun {s8 H8} m' I8 => by
        have pn : ∀ p ∈ [(s2.heap.objs.size, ({ cls := .type "list", data := .seq its.toArray c } : Obj))] ++ pinsAt fp s5.heap, s8.heap.get? p.1 = some p.2 ∧ H8 p.1 = none := fun p hp =>
          let ⟨a, b, _⟩ := I8.pin p (List.mem_append_right _ hp); ⟨a, b⟩
        refine ⟨T.keep _ _ _ st5 fun b hb o e => (pn (b, o) (List.mem_append_right _ (mem_pinsAt hb e))).1, fun b hb => ?_, pn _ (List.mem_append_left _ (List.mem_singleton.mpr rfl))⟩
        obtain ⟨o, e, _⟩ := T.obj _ _ st5 b hb
        exact (pn (b, o) (List.mem_append_right _ (mem_pinsAt hb e))).2
      have bare : ∀ {s8 : Shared} {H8 : Hp} {pl : List (Addr × Obj)}, Inv (blk X N' sc G.objs.size fp pins s2 H2) pl σ6 H8 s8 → Inv (blk X N' sc G.objs.size fp pins s2 H2) [] σ6 H8 s8 := fun I8 => I8.pins_of fun p hp => nomatch hp
      cases b with
      | false =>
        rw [if_neg Bool.false_ne_true] at q7 ⊢
        obtain ⟨m', lt, w7⟩ := hN2 _ _ _ q7
        obtain ⟨b1, b2, b3, b4⟩ := back m' I7
        exact ⟨m', lt, i + 1, ys, its, c, σ6, H7, bare I7, b1, b2, b3, hv, b4, w7⟩
      | true =>
        rw [if_pos rfl] at q7 ⊢
        refine thn (he _ _ _ _ _ _ s7 σ6 H7 _ I7 q7) fun y s8 ⟨yv, H8, I8, r8, q8⟩ => ?_
        obtain ⟨m', lt, w8⟩ := hN2 _ _ _ q8
        obtain ⟨b1, b2, b3, b4⟩ := back m' I8
        have hlen := hv.length
        refine append_at (hsz := by rw [List.size_toArray, ← hlen]; exact hz) b3 fun h9 sb9 e9 => ?_
        have I9 : Inv (blk X N' sc G.objs.size fp pins s2 H2) [] σ6 H8 { s8 with heap := h9 } := (bare I8).turned (t' := s8.toks) (it := s2.heap.objs.size) (fun b o hb e => sb9.extBut b o hb e) b4 hDC (.inr (Nat.le_refl _))
          (fun x c e z => by
            obtain ⟨v, hv⟩ := I2.cell x c (clOf_look hfr e)
            exact absurd hv.lt (by rw [z]; exact Nat.lt_irrefl _))
          fun p hp z => by
            have hp' : p ∈ X.pn ++ pins := by
              have : p ∈ (X.pn ++ pins) ++ ([] : List (Addr × Obj)) := hp
              rw [List.append_nil] at this
              exact this
            exact absurd (Heap.lt_size (I2.pin p hp').1) (by rw [z]; exact Nat.lt_irrefl _)
        refine ⟨m', lt, i + 1, ys ++ [yv], its ++ [y], c + 1, σ6, H8, I9, T.keep _ _ _ b1 fun b hb o e => sb9.extBut b o (Nat.ne_of_lt (hl b hb)) e, b2, ?_, hv.append (.cons r8 .nil), b4, w8⟩
        rw [e9]
        simp
  exact codeAny_compStart_list (loop _ rfl) (T.self _ 0 _ _ _ (T.keep _ _ _ st2 fun b _ o e => old b o e) (loop _ rfl))

/-- a comprehension as a value -/
theorem pe_lc (hc : X.calm = true) (hi : PI X tg iter wi) (h0 : X.env.scope = sc0) (hN : X.N = XN) (ok : lcOk sc0 sc XN N' n kp = true)
    (hg : ∀ C fp pins s H, PG (blk X N' sc C fp pins s H) tg g) (ht : ∀ C fp pins s H, PTs (blk X N' sc C fp pins s H) cs tc) (he : ∀ C fp pins s H, PE (blk X N' sc C fp pins s H) elt te)
    (hs : ∀ x, foldedSetIterable iter X.env x = pure x := by intro _; rfl) : PE X (.ListComp elt [⟨tg, iter, cs, 0⟩] sc pos) (tLc n kp wi g tc te) := by
  intro pins s σ H Q I h
  rw [eval_ListComp]
  refine lc_run hc hi h0 hN ok hg ht he hs I h fun D C ys H' s' I' ns fp q => ?_
  obtain ⟨m, hm⟩ := ns
  refine ⟨m, hm, fun h' sb => ⟨.ref D, _, ?_, rfl, q⟩⟩
  obtain ⟨f1, f2, f3, f4, f5, f6⟩ := fp
  exact I'.turned (t' := s'.toks) (it := C) (fun b o hb e => sb.extBut b o hb e) f1 f2 f4 f5 f6
end
end L2

set_option maxRecDepth 100000
set_option maxHeartbeats 4000000
namespace L2
open PySem PySem.Spec PyProof.Rows
section
variable {X : Cx} {tg iter elt : Expr} {cs : List Expr} {sc sc0 : Scope} {pos : Pos} {wi : TI} {g : TG} {tc : TT} {te : TE} {XN N' : List Str} {n : Nat} {kp : List Nat}
/-- name = [ .. for .. ], where the store is exchanged with the letting go of the block's names -/
theorem ps_setLc {i : Nat} {y : Str} {py spos : Pos} (hNd : X.N.Nodup) (hiy : X.N[i]? = some y) (hy : X.env.scope.names.lookup y = some .local) (hsw : swapsWith (.ListComp elt [⟨tg, iter, cs, 0⟩] sc pos) (some (.Name y py)) spos.line X.env = pure true)
    (hc : X.calm = true) (hi : PI X tg iter wi) (h0 : X.env.scope = sc0) (hN : X.N = XN) (ok : lcOk sc0 sc XN N' n kp = true)
    (hg : ∀ C fp pins s H, PG (blk X N' sc C fp pins s H) tg g) (ht : ∀ C fp pins s H, PTs (blk X N' sc C fp pins s H) cs tc) (he : ∀ C fp pins s H, PE (blk X N' sc C fp pins s H) elt te)
    (hs : ∀ x, foldedSetIterable iter X.env x = pure x := by intro _; rfl) : PS X (.Assign [.Name y py] (.ListComp elt [⟨tg, iter, cs, 0⟩] sc pos) spos) (tAsg (tLc n kp wi g tc te) (gName i)) := by
  intro pins s σ H D I h
  rw [exec_Assign_Name_used _ _ _ _ hsw]
  refine wpAny_bind (wpAny_standAt (wpAny_bind ?_))
  have fin : wpAny (model X.prog X.w) X.A (comprehension (.ListComp elt [⟨tg, iter, cs, 0⟩] sc pos) sc X.env (firstIterPos [⟨tg, iter, cs, 0⟩] pos) (newList []) false (firstIter [⟨tg, iter, cs, 0⟩] X.env) (some (assign (.Name y py) X.env)))
      (fun _ s' => SP X pins D .next s') X.xe s := by
    refine lc_run (Q := fun x H1 => gName i x σ H1 D.nx) hc hi h0 hN ok hg ht he hs I h fun D' C ys H' s' I' ns fp q => ?_
    obtain ⟨m, hm⟩ := ns
    obtain ⟨f1, f2, f3, f4, f5, f6⟩ := fp
    obtain ⟨o, es, ep, ho, rest⟩ := id hm
    have nc : ∀ v, o.data ≠ .cell v := fun v z => by
      rw [rest.1] at z
      cases z
    have I'' : Inv X (pins ++ [(C, o)]) σ (upd H' D' (.lst ys)) s' := I'.pins_of fun p hp => by
      rcases List.mem_append.mp hp with z | z
      · exact I'.pin p (List.mem_append_right _ z)
      · rw [List.mem_singleton.mp z]
        exact ⟨ho, f1, f2, f3, nc⟩
    show wpAny (model X.prog X.w) X.A (assign (.Name y py) X.env (.ref D')) _ X.xe s'
    refine thn (pg_name hNd hiy (.inl hy) (.inr hy) _ s' σ _ (.ref D') (.ref D') D.nx I'' rfl q) fun _ s'' ⟨σ3, H3, I3, q3⟩ => ?_
    obtain ⟨p1, p2, _⟩ := I3.pin (C, o) (List.mem_append_right _ (List.mem_append_right _ (List.mem_singleton.mpr rfl)))
    refine ⟨m, ⟨o, es, ep, p1, rest⟩, fun h' sb => ⟨σ3, H3, ?_, q3⟩⟩
    exact I3.unpinned.turned (t' := s''.toks) (it := C) (fun b o hb e => sb.extBut b o hb e) p2 f2 f4 f5 f6
  show wpAny (model X.prog X.w) X.A (comprehension _ _ _ _ _ _ _ _ >>= _) _ _ s
  exact wpAny_bind (thn fin fun _ s' q => wpAny_pure (wpAny_pure q))
end

/-! ### B. Built-ins that the layer lacks -/
section
variable {X : Cx}
def kitTy (T C : String) : Option Bool := if T = C then some true else if PySem.W.kitMeta C = true then (fastBuiltinMro T).map (·.contains (.type C)) else none
theorem kit_ty {K : PySem.W.Frag} {T C : String} {b : Bool} (h : kitTy T C = some b) : PySem.W.kitOne K (.type T) (.type C) = some b := by
  unfold kitTy at h
  unfold PySem.W.kitOne
  by_cases e : T = C
  · subst e
    rw [if_pos rfl] at h
    rw [if_pos (beq_self_eq_true _)]
    exact h
  · rw [if_neg e] at h
    have z : ¬ (Value.type T == Value.type C) = true := fun q => by
      have q' := eq_of_beq q
      injection q' with q''
      exact e q''
    rw [if_neg z]
    exact h
/-- isinstance(x, T), T a built-in type -/
theorem call_isi : CallR X (.builtin "isinstance") (fun xs H Q => ∃ (x : V) (T C : String) (b : Bool), xs = [x, .ty C] ∧ TyOf X.K H x (.type T) ∧ kitTy T C = some b ∧ Q (.bl b) H) := by
  intro pins s σ H xs us Q I r h
  obtain ⟨x, T, C, b, rfl, ty, e, q⟩ := h
  obtain ⟨u, w', rfl, rx, ry⟩ := vals2 r
  cases (show w' = Value.type C from ry)
  exact isinst_ok I rx ty (kit_ty e) fun tk => ⟨.bl b, H, I.tok tk, rfl, q⟩
theorem isi_int_int : kitTy "int" "int" = some true := by decide +kernel
theorem isi_int_bool : kitTy "int" "bool" = some false := by decide +kernel
theorem isi_list_list : kitTy "list" "list" = some true := by decide +kernel
theorem isi_tuple_tuple : kitTy "tuple" "tuple" = some true := by decide +kernel
theorem isi_str_str : kitTy "str" "str" = some true := by decide +kernel
/-- n.bit_length() -/
theorem mt_bits : MtR X "int.bit_length" (fun x xs H Q => ∃ i : Int, x = .int i ∧ xs = [] ∧ Q (.int (Builtin.Int.intBits i : Nat)) H) := by
  intro pins s σ H x xs v us Q I rx r h
  obtain ⟨i, rfl, rfl, q⟩ := h
  obtain ⟨t, rfl⟩ := rx
  cases r
  exact call_int_bit_length ⟨.int _, H, I.tok _, ⟨_, rfl⟩, q⟩
/-- two lists of ints compared -/
theorem op_ne_ints (hu : X.A.units + 64 < cLine) : OpR X (compareOp .NotEq) (fun x y H Q => ∃ (a b : Addr) (ns ms : List Int), x = .ref a ∧ y = .ref b ∧ SqL X.K H a (ns.map V.int) ∧ SqL X.K H b (ms.map V.int) ∧ Q (.bl (!decide (ns = ms))) H) := by
  intro pins s σ H x y v u Q I rx ry h
  obtain ⟨a, b, ns, ms, rfl, rfl, ha, hb, q⟩ := h
  cases rx
  cases ry
  obtain ⟨xs, rv, p, _⟩ := I.list ha
  obtain ⟨ys, rv', p', _⟩ := I.list hb
  exact PySem.W.ke_ne_ints p.isList p'.isList (intsAre_of rv) (intsAre_of rv') hu ⟨.bl _, H, I, rfl, q⟩
theorem all_range (bs : List Bool) : ((List.range bs.length).all fun i => (bs[i]?).getD true) = bs.all id := by
  rw [Bool.eq_iff_iff, List.all_eq_true, List.all_eq_true]
  refine ⟨fun h b hb => ?_, fun h i hi => ?_⟩
  · obtain ⟨i, hi, rfl⟩ := List.getElem_of_mem hb
    have := h i (List.mem_range.mpr hi)
    rw [List.getElem?_eq_getElem hi] at this
    exact this
  · have hi' := List.mem_range.mp hi
    show (bs[i]?).getD true = true
    rw [List.getElem?_eq_getElem hi']
    exact h _ (List.getElem_mem hi')
/-- all of a list of truths -/
theorem call_all_bl (hc : X.calm = true) : CallR X (.builtin "all") (fun xs H Q => ∃ (p : Addr) (bs : List Bool), xs = [.ref p] ∧ SqL X.K H p (bs.map V.bl) ∧ Q (.bl (bs.all id)) H) := by
  intro pins s σ H xs us Q I r h
  obtain ⟨p, bs, rfl, hq, q⟩ := h
  obtain ⟨u, rfl, rx⟩ := vals1 r
  cases rx
  obtain ⟨its, rv, pl, hz⟩ := I.list hq
  have hl := pl.isList
  have hlt : p < s.heap.objs.size := by obtain ⟨_, e, _⟩ := hl; exact Heap.lt_size e
  refine call_all_walk (wpAny_pyIter_list hl ?_)
  refine ⟨s.heap.objs.size, [s.heap.objs.size, p], [s.heap.objs.size], its.toArray.size, _, _, fun i => (bs[i]?).getD true, rfl, Walks.list (A := X.A.in1) (I.ok.hd hc) _ p (Nat.ne_of_lt hlt) its.toArray,
    ⟨⟨_, Heap.get?_push_size _ rfl, rfl, rfl⟩, hl.push _⟩, fun i v s' Q' E' hP hQ => ?_, fun h' tk hk => ?_⟩
  · have e : its[i]? = some v := by simpa using hP
    have hlen := rv.length
    rw [List.length_map] at hlen
    have hi : i < bs.length := by
      have := (List.getElem?_eq_some_iff.mp e).1
      omega
    obtain ⟨u, hu, ru⟩ := rv.get (i := i) (x := .bl bs[i]) (by rw [List.getElem?_map, List.getElem?_eq_getElem hi]; rfl)
    rw [e] at hu
    cases hu
    cases (show v = Value.bool bs[i] from ru)
    dsimp only at hQ
    rw [List.getElem?_eq_getElem hi] at hQ
    exact wpAny_truthy_bool hQ
  · have hlen := rv.length
    rw [List.length_map] at hlen
    have e : ((List.range its.toArray.size).all fun i => (bs[i]?).getD true) = bs.all id := by
      rw [List.size_toArray, ← hlen]
      exact all_range bs
    rw [e]
    refine ⟨.bl _, H, I.kept (t' := tk) fun b o eb => hk b o (fun hm => ?_) (Heap.get?_push_of_some _ eb), rfl, q⟩
    rw [List.mem_singleton.mp hm] at eb
    exact Nat.lt_irrefl _ (Heap.lt_size eb)
end
end L2

set_option maxRecDepth 100000
set_option maxHeartbeats 4000000
namespace L2
open PySem PySem.Spec PyProof.Rows

/-! ### C. enumerate of a list or a tuple -/
section
variable {prog : Program} {w : World} {A : Around} {E : Value → Shared → Prop} {s : Shared}
theorem nextT_item {j q : Addr} {i : Nat} {its : Array Value} {x : Value} {Q : Value → Shared → Prop} (hj : s.heap.IsTupleIter j q i) (hq : s.heap.IsTuple q its) (hx : its[i]? = some x)
    (k : ∀ g, g.IsTupleIter j q (i + 1) → Heap.SameBut j s.heap g → Q x { s with heap := g }) : wpAny (model prog w) A (Builtin.SmallTypes.nextOf (.ref j)) Q E s := by
  obtain ⟨o, ho, oc, od⟩ := id hj
  obtain ⟨p, hp, _, m, pd⟩ := hq
  unfold Builtin.SmallTypes.nextOf
  refine wpAny_bind (wpAny_callSpecial?_slot (name := Str.ofString "__next__") hj.typeIs F.slot_tuple_iterator_next (wpAny_call_entry F.slot_tuple_iterator_next hj.typeIs F.entry_tuple_iterator_next ?_ (F.args_tuple_iterator_next_1 _)))
  show wpAny _ _ (field (.ref j) 0 >>= _) _ _ s
  refine wpAny_bind (wpAny_field ho od (x := .ref q) rfl ?_)
  show wpAny _ _ (if (Value.ref q == Value.none) = true then _ else _) _ _ s
  rw [if_neg (show ¬ ((Value.ref q == Value.none) = true) from Bool.false_ne_true)]
  show wpAny _ _ (field (.ref j) 1 >>= _) _ _ s
  refine wpAny_bind (wpAny_field ho od (x := .int i 0) rfl ?_)
  show wpAny _ _ (seqItems? (.ref q) >>= _) _ _ s
  refine wpAny_bind (wpAny_seqItems hp pd ?_)
  simp only [hx, Int.toNat_natCast]
  refine wpAny_bind (wpAny_setField ho od (by simp) (wpAny_pure ⟨x, rfl, wpAny_pure (k _ ⟨_, Heap.get?_update_self _ ho (Obj.isFreed_of_fields (Obj.data_mapFields od _)), (Obj.cls_mapFields ..).trans oc, ?_⟩ (Heap.SameBut.update ..))⟩))
  rw [Obj.data_mapFields od]
  simp [rawInt]
theorem nextT_end {j q : Addr} {i : Nat} {its : Array Value} {Q : Value → Shared → Prop} (hh : A.handled = none) (hj : s.heap.IsTupleIter j q i) (hq : s.heap.IsTuple q its) (hx : its[i]? = none)
    (k : ∀ g e, Heap.ExtBut j s.heap g → (∃ o, g.get? e = some o ∧ o.cls = .type "StopIteration") → E (.ref e) { s with heap := g }) : wpAny (model prog w) A (Builtin.SmallTypes.nextOf (.ref j)) Q E s := by
  obtain ⟨o, ho, oc, od⟩ := id hj
  obtain ⟨p, hp, _, m, pd⟩ := hq
  unfold Builtin.SmallTypes.nextOf
  refine wpAny_bind (wpAny_callSpecial?_slot (name := Str.ofString "__next__") hj.typeIs F.slot_tuple_iterator_next (wpAny_call_entry F.slot_tuple_iterator_next hj.typeIs F.entry_tuple_iterator_next ?_ (F.args_tuple_iterator_next_1 _)))
  show wpAny _ _ (field (.ref j) 0 >>= _) _ _ s
  refine wpAny_bind (wpAny_field ho od (x := .ref q) rfl ?_)
  show wpAny _ _ (if (Value.ref q == Value.none) = true then _ else _) _ _ s
  rw [if_neg (show ¬ ((Value.ref q == Value.none) = true) from Bool.false_ne_true)]
  show wpAny _ _ (field (.ref j) 1 >>= _) _ _ s
  refine wpAny_bind (wpAny_field ho od (x := .int i 0) rfl ?_)
  show wpAny _ _ (seqItems? (.ref q) >>= _) _ _ s
  refine wpAny_bind (wpAny_seqItems hp pd ?_)
  simp only [hx, Int.toNat_natCast]
  refine wpAny_bind (wpAny_rule (wpAny_bind (wpAny_setField ho od (by simp) ?_)))
  show wpAny _ _ (newExc (.type "StopIteration") [] >>= _) _ _ _; refine wpAny_bind ?_; simp only [newExc, newTuple]
  refine wpAny_bind (wpAny_newObj_type ?_ (by size_fits)); refine wpAny_bind (m := firstArgMember _ _) (wpAny_of_eq (a := Value.none) (by first | rfl | (simp only [firstArgMember]; rfl)) ?_)
  refine wpAny_newObj_type ?_ (by size_fits); simp only [raiseNew]; refine wpAny_bind (wpAny_handled ?_); first | rw [show A.in1.handled = none from hh] | rw [hh]
  refine wpAny_bind (wpAny_pure (wpAny_throw ?_)); exact k _ _ (((Heap.SameBut.update ..).extBut.push _).push _) ⟨_, Heap.get?_push_size _ rfl, rfl⟩
theorem draws_tup (hh : A.handled = none) (j q : Addr) (hne : q ≠ j) (its : Array Value) : Draws prog w A j [j, q] its.size (fun i v => its[i]? = some v) (fun i h => h.IsTupleIter j q i ∧ h.IsTuple q its) where
  live := fun _ _ st => let ⟨o, ho, _⟩ := st.1; ⟨o, ho⟩
  frame := fun _ _ _ st hk => ⟨st.1.at fun o e => hk j (by simp) o e, let ⟨o, e, r⟩ := st.2; ⟨o, hk q (by simp) o e, r⟩⟩
  item := fun i s Q E hi st hQ => nextT_item st.1 st.2 (x := its[i]) (by simp [hi]) fun g hj sb => hQ _ g s.toks (by simp [hi]) ⟨hj, st.2.extBut sb.extBut hne⟩ sb
  done := fun s Q E st hE => nextT_end hh st.1 st.2 (by simp) hE
open AutoSeq1 (wpAny_loadPart') in
theorem meets_enumT (q : Addr) (its : Array Value) (n : Nat) (dct : Option Addr) (sl : Array (Option Value)) :
    Meets (Builtin.«enumerate.__new__» ⟨[.type "enumerate", .ref q], []⟩) (fun _ R s => s.heap.get? q = some { cls := .type "tuple", dict := dct, data := .seq its n, slots := sl } ∧
      R (.ok (.ret (.ref (s.heap.push { cls := .type "tuple_iterator", data := .fields #[.ref q, .int 0 0] }).objs.size))) { s with heap := (s.heap.push { cls := .type "tuple_iterator", data := .fields #[.ref q, .int 0 0] }).push { cls := .type "enumerate", data := .fields #[.none, .bool false, .ref s.heap.objs.size, rawInt 0, .none, .none] } }) :=
  .of_wp fun prog w A R s h => by
    obtain ⟨hp, g, d, tk, os⟩ := s
    obtain ⟨hq, h⟩ := h
    have hsub := sub_enumerate
    have hT : Heap.IsTuple (Shared.heap ⟨hp, g, d, tk, os⟩) q its := ⟨_, hq, rfl, n, rfl⟩
    wp_walk using wpAny_loadPart' hq
    refine wpAny_stack_any fun st => wpAny_pure ?_
    split
    · rename_i c _ _ _ _ _
      cases (c == Value.type "enumerate")
      · wp_walk using wpAny_loadPart' hq, wpAny_pyIter_tuple hT
        exact ⟨_, rfl, h⟩
      · wp_walk using wpAny_loadPart' hq, wpAny_pyIter_tuple hT
        exact ⟨_, rfl, h⟩
    · wp_walk using wpAny_loadPart' hq, wpAny_pyIter_tuple hT
      exact ⟨_, rfl, h⟩
theorem call_enumT {q : Addr} {its : Array Value} {Q : Value → Shared → Prop} (hT : s.heap.IsTuple q its)
    (k : ∀ g, IsEnum g (s.heap.objs.size + 1) s.heap.objs.size 0 .none → g.IsTupleIter s.heap.objs.size q 0 → (∀ b o, s.heap.get? b = some o → g.get? b = some o) → Q (.ref (s.heap.objs.size + 1)) { s with heap := g }) :
    wpAny (model prog w) A (call (.type "enumerate") [.ref q]) Q E s := by
  obtain ⟨⟨c, dct, dt, sl⟩, hq, hc, n, hd⟩ := hT
  cases (show c = .type "tuple" from hc)
  cases (show dt = .seq its n from hd)
  refine callType_new F.called_enumerate (by decide) (F.typeCall_enumerate_1 _) (F.newCall_enumerate_1 _) (fun obj => F.args_object_init_2 obj _) F.entry_enumerate_new (meets_enumT q its n dct sl) ⟨hq, ?_⟩
  have z : (s.heap.push { cls := .type "tuple_iterator", data := .fields #[.ref q, .int 0 0] }).objs.size = s.heap.objs.size + 1 := Heap.size_push ..
  have he : IsEnum ((s.heap.push { cls := .type "tuple_iterator", data := .fields #[.ref q, .int 0 0] }).push { cls := .type "enumerate", data := .fields #[.none, .bool false, .ref s.heap.objs.size, rawInt 0, .none, .none] }) (s.heap.objs.size + 1) s.heap.objs.size 0 .none := by
    have y := Heap.get?_push_size (s.heap.push { cls := .type "tuple_iterator", data := .fields #[.ref q, .int 0 0] }) (o := { cls := .type "enumerate", data := .fields #[.none, .bool false, .ref s.heap.objs.size, rawInt 0, .none, .none] }) rfl
    rw [z] at y
    exact y
  show _ ∧ _
  rw [z]
  exact ⟨⟨_, he, rfl⟩, k _ he ⟨_, Heap.get?_push_of_some _ (Heap.get?_push_size _ rfl), rfl, rfl⟩ fun b o y => Heap.get?_push_of_some _ (Heap.get?_push_of_some _ y)⟩
end

/-- the sequence at a, a list or a tuple -/
def Sq (K : PySem.W.Frag) (b : Bool) (H : Hp) (a : Addr) (xs : List V) : Prop := if b = true then SqT K H a xs else SqL K H a xs
/-- enumerate over it: pairs, each a new tuple -/
def Ite (K : PySem.W.Frag) (b : Bool) (a : Addr) : It :=
  ⟨fun i H => ∃ xs x, Sq K b H a xs ∧ xs[i]? = some x, fun i H x H' => ∃ T v, x = .ref T ∧ H T = none ∧ H' = upd H T (.tup [.int i, v]) ∧ ∀ xs, Sq K b H a xs → xs[i]? = some v, fun i H => ∃ xs, Sq K b H a xs ∧ xs.length = i⟩
def enIt (b : Bool) (h : Heap) (it a : Addr) (i : Nat) : Prop := if b = true then h.IsTupleIter it a i else h.IsListIter it a i
section
variable {X : Cx} {pins : List (Addr × Obj)} {σ : St} {H : Hp} {s : Shared}
/-- two records have turned, a pair is laid -/
theorem Inv.turned2 {h' : Heap} {t' : Nat} {e it T : Addr} {v : V} {u : Value} {i : Int} {tk : Tok} (I : Inv X pins σ H s) (fe : FpOk X pins H e) (fi : FpOk X pins H it) (hT : s.heap.objs.size ≤ T) (rv : RelV v u)
    (k : ∀ b o, b ≠ e → b ≠ it → s.heap.get? b = some o → h'.get? b = some o) (ke : ∃ o, h'.get? e = some o) (ki : ∃ o, h'.get? it = some o) (eT : h'.get? T = some { cls := .type "tuple", data := .seq #[.int i tk, u] }) :
    Inv X pins σ (upd H T (.tup [.int i, v])) { s with heap := h', toks := t' } := by
  have nT : H T = none := I.hok.fresh hT
  have ne : ∀ b o, H b = some o → b ≠ e ∧ b ≠ it := fun b o q => ⟨ne_of_none q fe.1, ne_of_none q fi.1⟩
  have un : Un (frs X.stack) [e, it] H (upd H T (.tup [.int i, v])) s.heap h' := by
    have off : ∀ b, b ∉ [e, it] → b ≠ e ∧ b ≠ it := fun b hb => ⟨fun z => hb (by simp [z]), fun z => hb (by simp [z])⟩
    have lt : ∀ b o, s.heap.get? b = some o → b ≠ T := fun b o q => Nat.ne_of_lt (Nat.lt_of_lt_of_le (Heap.lt_size q) hT)
    exact ⟨fun b o q _ _ hx => k b o (off b hx).1 (off b hx).2 q, fun b o q _ _ hx => ⟨o.slots, k b o (off b hx).1 (off b hx).2 q⟩, fun b o q n _ => by rw [upd_ne (lt b o q)]; exact n, fun b o q hx => ⟨o, k b o (off b hx).1 (off b hx).2 q⟩,
      fun b xs q => by rw [upd_ne (ne_of_none q nT)]; exact q, fun b o xs q => by rw [upd_ne (ne_of_none q nT)]; exact q, fun b ps q => ⟨#[], by rw [upd_ne (ne_of_none q nT), q]; simp⟩⟩
  refine I.call (g' := s.gens) (d' := s.drawn) (ch := [e, it]) un (fun a o q => ?_) I.bare fun b hb => ?_
  · by_cases ea : a = T
    · subst ea
      rw [upd_same] at q
      cases q
      exact ⟨Nat.le_of_lt (small1000 (by show 2 ≤ 1000; decide)), [.int i tk, u], .cons ⟨tk, rfl⟩ (.cons rv .nil), ⟨_, eT, rfl, _, rfl⟩⟩
    · rw [upd_ne ea] at q
      refine (I.hok a o q).stay (fun b z hb r => k b z ?_ ?_ r) (fun b r => by rw [upd_ne (ne_of_none r nT)]; exact r) fun b xs r => by rw [upd_ne (ne_of_none r nT)]; exact r
      · rcases hb with rfl | hb
        · exact (ne _ _ q).1
        · exact (ne _ _ hb).1
      · rcases hb with rfl | hb
        · exact (ne _ _ q).2
        · exact (ne _ _ hb).2
  · rcases List.mem_cons.mp hb with z | z
    · subst z
      exact ⟨fe.2.2.2.1, fe.2.1, fe.2.2.2.2.1, fe.2.2.2.2.2⟩
    · have z' := List.mem_singleton.mp z
      subst z'
      exact ⟨fi.2.2.2.1, fi.2.1, fi.2.2.2.2.1, fi.2.2.2.2.2⟩
end
theorem Sq.inj {X : Cx} {pins : List (Addr × Obj)} {σ : St} {H : Hp} {s : Shared} {b : Bool} {a : Addr} {xs ys : List V} (I : Inv X pins σ H s) (h : Sq X.K b H a xs) (h' : Sq X.K b H a ys) : xs = ys := by
  cases b with
  | true => exact I.tuple_inj h h'
  | false => exact I.list_inj h h'
theorem enIt_obj {b : Bool} {h : Heap} {it a : Addr} {i : Nat} (st : enIt b h it a i) : ∃ o, h.get? it = some o ∧ ∀ v, o.data ≠ .cell v := by
  cases b with
  | true =>
    obtain ⟨o, e, _, d⟩ := (show h.IsTupleIter it a i from st)
    exact ⟨o, e, fun v z => by rw [d] at z; cases z⟩
  | false =>
    obtain ⟨o, e, _, d⟩ := (show h.IsListIter it a i from st)
    exact ⟨o, e, fun v z => by rw [d] at z; cases z⟩
/-- the inner iterator drawn, whichever it is -/
theorem enIt_draws {X : Cx} {pins : List (Addr × Obj)} {σ : St} {H : Hp} {s : Shared} {b : Bool} {a it : Addr} {xs : List V} (I : Inv X pins σ H s) (hd : X.A.handled = none) (hq : Sq X.K b H a xs) (hne : a ≠ it) :
    ∃ (its : List Value) (St : Nat → Heap → Prop), Vals xs its ∧ Draws X.prog X.w X.A.in1 it [it, a] its.toArray.size (fun i v => its.toArray[i]? = some v) St ∧ (∀ i, enIt b s.heap it a i → St i s.heap) ∧ ∀ i h, St i h → enIt b h it a i := by
  cases b with
  | true =>
    obtain ⟨its, rv, p, _⟩ := I.tuple hq
    exact ⟨its, fun i h => h.IsTupleIter it a i ∧ h.IsTuple a its.toArray, rv, draws_tup (A := X.A.in1) hd it a hne its.toArray, fun i st => ⟨st, p⟩, fun i h st => st.1⟩
  | false =>
    obtain ⟨its, rv, p, _⟩ := I.list hq
    exact ⟨its, fun i h => h.IsListIter it a i ∧ h.IsList a its.toArray, rv, Draws.list (A := X.A.in1) hd it a hne its.toArray, fun i st => ⟨st, p.isList⟩, fun i h st => st.1⟩
theorem turn_enum {P : Program} {w : World} {K : PySem.W.Frag} {elts : List Expr} {k : Nat} {pos : Pos} (b : Bool) (a e it : Addr) (hei : e ≠ it) (hae : a ≠ e) (hai : a ≠ it) :
    Turn P w K (.Tuple elts k pos) (Ite K b a) [e, it] e (fun i h => (∃ old, IsEnum h e it (i : Int) old) ∧ enIt b h it a i) where
  mem := by simp
  obj := fun i h st c hc => by
    rcases List.mem_cons.mp hc with z | z
    · subst z
      obtain ⟨old, q⟩ := st.1
      exact ⟨_, q, fun v z => by
        have z' : Data.fields _ = Data.cell v := z
        cases z'⟩
    · rw [List.mem_singleton.mp z]
      exact enIt_obj st.2
  keep := fun i h h' st kk => by
    obtain ⟨⟨old, q⟩, st⟩ := st
    refine ⟨⟨old, kk e (by simp) _ q⟩, ?_⟩
    cases b with
    | true => exact (show h.IsTupleIter it a i from st).at fun o q => kk it (by simp) o q
    | false => exact (show h.IsListIter it a i from st).at fun o q => kk it (by simp) o q
  item := by
    intro X hP hw hK hc i pins s σ H E I hf st hg
    subst hP hw hK
    obtain ⟨⟨old, he⟩, st⟩ := st
    obtain ⟨xs, x, hq, hx⟩ := hg
    obtain ⟨its, St, rv, D, up, dn⟩ := enIt_draws I (I.ok.hd hc) hq hai
    obtain ⟨u, hu, ru⟩ := rv.get hx
    have hlt : i < its.toArray.size := by simpa using (List.getElem?_eq_some_iff.mp hu).1
    have fe := hf e (by simp)
    have fi := hf it (by simp)
    have lte : e < s.heap.objs.size := Heap.lt_size he
    refine wpAny_pyNext_enum_itemD D he (up i st) hlt hei (by simp [hei, Ne.symm hae]) fun y g tk hy ho st' hT hsz kk => ?_
    have ey : y = u := by
      have z : its.toArray[i]? = some y := hy
      rw [List.getElem?_toArray, hu] at z
      exact (Option.some.inj z).symm
    subst ey
    refine ⟨_, rfl, wpAny_letOwnedTupleGo_enum ho fun g2 he2 sb => ?_⟩
    have it2 : ∃ o, g2.get? it = some o := by
      obtain ⟨o, q, _⟩ := enIt_obj (dn _ _ st')
      exact ⟨o, (sb.2 it (Ne.symm hei)).trans q⟩
    have I2 := I.turned2 (h' := g2) (t' := tk + 1) (T := s.heap.objs.size) (i := (i : Int)) (tk := tk) fe fi (Nat.le_refl _) ru (fun c o h1 h2 q => (sb.2 c h1).trans (kk c o h1 h2 q)) ⟨_, he2⟩ it2 ((sb.2 _ (Nat.ne_of_gt lte)).trans hT)
    refine ⟨.ref s.heap.objs.size, _, I2, rfl, ⟨_, x, rfl, I.hok.fresh (Nat.le_refl _), rfl, fun ys hy' => by rw [Sq.inj I hy' hq]; exact hx⟩, ⟨⟨y, he2⟩, ?_⟩, fun c hc' => ?_⟩
    · have z := dn _ _ st'
      cases b with
      | true => exact (show g.IsTupleIter it a (i + 1) from z).at fun o q => (sb.2 it (Ne.symm hei)).trans q
      | false => exact (show g.IsListIter it a (i + 1) from z).at fun o q => (sb.2 it (Ne.symm hei)).trans q
    · have nz : H c = none := (hf c hc').1
      have cl : c < s.heap.objs.size := by
        rcases List.mem_cons.mp hc' with z | z
        · rw [z]; exact lte
        · rw [List.mem_singleton.mp z]
          obtain ⟨o, q, _⟩ := enIt_obj st
          exact Heap.lt_size q
      rw [upd_ne (Nat.ne_of_lt cl)]
      exact nz
  done := by
    intro X hP hw hK hc i pins s σ H E I hf st hg
    subst hP hw hK
    obtain ⟨⟨old, he⟩, st⟩ := st
    obtain ⟨xs, hq, hx⟩ := hg
    obtain ⟨its, St, rv, D, up, dn⟩ := enIt_draws I (I.ok.hd hc) hq hai
    obtain ⟨f0, f1, f2, f3, f4, f5⟩ := hf it (by simp)
    have hl := rv.length
    have e1 : i = its.toArray.size := by
      rw [List.size_toArray]
      omega
    refine wpAny_pyNext_enum_endD D he (by rw [← e1]; exact up i st) fun g eb => ⟨rfl, I.turned (t' := s.toks) (fun c o hc' q => eb c o hc' q) f0 f1 f3 f4 f5⟩
  self := fun _ _ _ _ _ st h => by
    obtain ⟨⟨old, he⟩, _⟩ := st
    exact wpAny_pyIter_enum he h

/-! the iterator of enumerate(e) -/
def iEnum (K : PySem.W.Frag) (ta : TA) : TI := fun σ H R => ta σ H fun vs H1 => ∃ (b : Bool) (a : Addr), vs = [.ref a] ∧ (∃ xs, Sq K b H1 a xs) ∧ R (Ite K b a) H1
theorem pi_enum {X : Cx} {elts : List Expr} {k : Nat} {pos p pos' : Pos} {a : Expr} {ta : TA} (hg : Gl X "enumerate") (hm : X.mg "enumerate" = none) (ha : PA X [a] ta) (hs : starEach [a] X.env = [(false, eval a X.env)] := by rfl) :
    PI X (.Tuple elts k pos) (.Call (.Name "enumerate" p) [a] [] pos') (iEnum X.K ta) := by
  intro pins s σ H R I h
  refine Call_ (ld_blt I hg hm PyProof.Rows.boot_enumerate (PyProof.Rows.callWith_type1 (thn (ha pos' pins s σ H _ I h) fun us s1 ⟨vs, H1, I1, r1, q1⟩ => ?_) hs rfl))
  obtain ⟨b, c, rfl, ⟨xs, hq⟩, q⟩ := q1
  obtain ⟨u, rfl, ru⟩ := vals1 r1
  cases ru
  have fin : ∀ g : Heap, IsEnum g (s1.heap.objs.size + 1) s1.heap.objs.size 0 .none → enIt b g s1.heap.objs.size c 0 → (∀ d o, s1.heap.get? d = some o → g.get? d = some o) → c < s1.heap.objs.size →
      wpAny (model X.prog X.w) X.A (pyIter (.ref (s1.heap.objs.size + 1))) (PIE X pins σ (.Tuple elts k pos) R) X.xe { s1 with heap := g } := fun g he hi kk cl => by
    refine wpAny_pyIter_enum he ?_
    refine ⟨s1.heap.objs.size + 1, [s1.heap.objs.size + 1, s1.heap.objs.size], _, _, H1, rfl, I1.kept (t' := s1.toks) kk, turn_enum b c _ _ (Nat.succ_ne_self _) (Nat.ne_of_lt (Nat.lt_succ_of_lt cl)) (Nat.ne_of_lt cl), ⟨⟨.none, he⟩, hi⟩, fun d hd => ?_, q⟩
    have le : s1.heap.objs.size ≤ d := by
      rcases List.mem_cons.mp hd with z | z
      · rw [z]; exact Nat.le_succ _
      · rw [List.mem_singleton.mp z]; exact Nat.le_refl _
    exact I1.fpOk le (I1.hok.fresh le)
  cases b with
  | true =>
    obtain ⟨its, rv, pt, _⟩ := I1.tuple hq
    exact call_enumT (show s1.heap.IsTuple c its.toArray from pt) fun g he hi kk => fin g he hi kk pt.lt
  | false =>
    obtain ⟨its, rv, pl, _⟩ := I1.list hq
    have hl := pl.isList
    exact call_enumerate_list hl fun g he hi _ kk => fin g he hi kk (by obtain ⟨o, e, _⟩ := hl; exact Heap.lt_size e)
/-- a loop over enumerate of a sequence that stays as it is -/
theorem for_enum {K : PySem.W.Frag} {b : Bool} {a : Addr} {xs : List V} {g : TG} {tb : TS} {D : Ends} {σ : St} {H : Hp} (Pv : Nat → St → Hp → Prop) (h0 : Pv 0 σ H) (hl : ∀ i σ H, i ≤ xs.length → Pv i σ H → Sq K b H a xs)
    (hs : ∀ i x σ H, xs[i]? = some x → Pv i σ H → ∀ T, H T = none → g (.ref T) σ (upd H T (.tup [.int i, x])) fun σ2 H2 => tb { D with nx := Pv (i + 1), ct := Pv (i + 1), bk := D.nx } σ2 H2) (hd : ∀ σ H, Pv xs.length σ H → D.nx σ H) :
    ∃ W : Nat → Nat → St → Hp → Prop, (∃ m, W 0 m σ H) ∧ ∀ i m σ H, W i m σ H →
      ((Ite K b a).stop i H ∧ D.nx σ H) ∨ ((Ite K b a).go i H ∧ ∃ N : St → Hp → Prop, (∀ σ' H', N σ' H' → ∃ m', m' < m ∧ W (i + 1) m' σ' H') ∧ ∀ x H', (Ite K b a).yld i H x H' → g x σ H' fun σ2 H2 => tb { D with nx := N, ct := N, bk := D.nx } σ2 H2) := by
  refine ⟨fun i m σ H => m = xs.length - i ∧ i ≤ xs.length ∧ Pv i σ H, ⟨xs.length, by simp, Nat.zero_le _, h0⟩, ?_⟩
  rintro i m σ H ⟨rfl, hi, p⟩
  have q := hl i σ H hi p
  by_cases hlt : i < xs.length
  · refine .inr ⟨⟨xs, xs[i], q, by simp [hlt]⟩, Pv (i + 1), fun σ' H' p' => ⟨xs.length - (i + 1), by omega, rfl, hlt, p'⟩, fun x H' y => ?_⟩
    obtain ⟨T, v, rfl, hT, rfl, hv⟩ := y
    exact hs i v σ H (hv xs q) p T hT
  · have e : i = xs.length := by omega
    subst e
    exact .inl ⟨⟨xs, q, rfl⟩, hd σ H p⟩
end L2

set_option maxRecDepth 100000
set_option maxHeartbeats 4000000
namespace L2
open PySem PySem.Spec PyProof.Rows
/-! ### D. More built-ins -/
section
variable {X : Cx}
/-- sorted of a list of ints -/
theorem call_sorted : CallR X (.builtin "sorted") (fun xs H Q => ∃ (p : Addr) (ns : List Int), xs = [.ref p] ∧ SqL X.K H p (ns.map V.int) ∧ ns.length < 64 ∧ ∀ ms : List Int, ms.Perm ns → ms.Pairwise (· ≤ ·) → ∀ l, H l = none → Q (.ref l) (upd H l (.lst (ms.map V.int)))) := by
  intro pins s σ H xs us Q I r h
  obtain ⟨p, ns, rfl, hq, hz, q⟩ := h
  obtain ⟨u, rfl, rx⟩ := vals1 r
  cases rx
  obtain ⟨its, rv, pl, hz'⟩ := I.list hq
  have hlen := rv.length
  rw [List.length_map] at hlen hz'
  refine sorted_ints pl.isList (intsAre_of rv) (by omega) fun out ms a1 a2 a3 => ?_
  obtain ⟨e, he⟩ := sortedAll_at s.heap its out
  have hm : ms.length = ns.length := a2.length_eq
  refine ⟨.ref (s.heap.objs.size + 1), _, I.laid (t' := s.toks) (fun b o => sortedAll_old) (Nat.le_succ _) (show ObjOk X.prog X.w _ _ _ (.lst (ms.map V.int)) from ⟨by rw [List.length_map, hm]; exact hz', out.toList, e, vals_ints a1, he⟩), rfl, q ms a2 a3 _ (I.hok.fresh (Nat.le_succ _))⟩
/-- range(a, b) as a value -/
theorem call_rng : CallR X (.type "range") (fun xs H Q => ∃ i j : Int, xs = [.int i, .int j] ∧ ∀ p, H p = none → Q (.ref p) (upd H p (.rng i j))) := by
  intro pins s σ H xs us Q I r h
  obtain ⟨i, j, rfl, q⟩ := h
  obtain ⟨u, w', rfl, ⟨t, rfl⟩, ⟨t', rfl⟩⟩ := vals2 r
  refine call_range_2 ⟨.ref s.heap.objs.size, _, I.laid (fun b o e => Heap.get?_push_of_some _ e) (Nat.le_refl _) (show ObjOk X.prog X.w _ _ _ (.rng i j) from ⟨t, t', _, Heap.get?_push_size _ rfl⟩), rfl, q _ (I.hok.fresh (Nat.le_refl _))⟩
theorem vals_of {P : Nat → Value → Prop} {f : Nat → V} (hP : ∀ i v, P i v → RelV (f i) v) : ∀ (n k : Nat) (l : List Value), l.length = n → (∀ j v, l[j]? = some v → P (k + j) v) → Vals ((List.range' k n).map f) l
  | 0, k, [], _, _ => .nil
  | n + 1, k, v :: r, hl, h => by
    rw [List.range'_succ, List.map_cons]
    refine .cons (hP _ _ (h 0 v rfl)) (vals_of hP n (k + 1) r (by simpa using hl) fun j v' e => ?_)
    have := h (j + 1) v' (by simpa using e)
    rw [show k + 1 + j = k + (j + 1) by omega]
    exact this
  | 0, _, _ :: _, hl, _ => by simp at hl
  | n + 1, _, [], hl, _ => by simp at hl
/-- list(range) -/
theorem call_list_rng (hc : X.calm = true) : CallR X (.type "list") (fun xs H Q => ∃ (p : Addr) (lo hi : Int), xs = [.ref p] ∧ H p = some (.rng lo hi) ∧ -(2 ^ 62) ≤ lo ∧ lo < 2 ^ 62 ∧ -(2 ^ 62) ≤ hi ∧ hi < 2 ^ 62 ∧ (hi - lo).toNat ≤ 1000 ∧ ∀ l, H l = none → Q (.ref l) (upd H l (.lst ((List.range' 0 (hi - lo).toNat).map fun i : Nat => V.int (lo + i))))) := by
  intro pins s σ H xs us Q I r h
  obtain ⟨p, lo, hi, rfl, hp, b1, b2, b3, b4, hz, q⟩ := h
  obtain ⟨u, rfl, rx⟩ := vals1 r
  cases rx
  obtain ⟨t, u, v, e⟩ := (show ObjOk X.prog X.w H s.heap p (.rng lo hi) from I.hok p _ hp)
  have hn : Builtin.Range.rangeSize lo hi 1 = (((hi - lo).toNat : Nat) : Int) := by
    rw [rangeSize_one]
    split <;> omega
  refine call_list_range (I.ok.hd hc) e (small_one b1 b2 b3 b4) hn (Nat.le_trans hz (by decide)) fun g tk acc c kk eg hi' => ?_
  obtain ⟨sz, it⟩ := hi'
  have vv : Vals ((List.range' 0 (hi - lo).toNat).map fun i : Nat => V.int (lo + i)) acc.toList := by
    refine vals_of (P := fun i v => ∃ t, v = .int (lo + i * 1) t) (fun i v hv => ?_) _ 0 acc.toList (by simpa using sz) fun j v ej => ?_
    · obtain ⟨t, rfl⟩ := hv
      exact ⟨t, by rw [Int.mul_one]⟩
    · have := it j v (by simpa using ej)
      rw [Nat.zero_add]
      exact this
  refine ⟨.ref s.heap.objs.size, _, I.laid (t' := tk) kk (Nat.le_refl _) (show ObjOk X.prog X.w _ _ _ (.lst _) from ⟨?_, acc.toList, c, vv, eg⟩), rfl, q _ (I.hok.fresh (Nat.le_refl _))⟩
  rw [List.length_map, List.length_range']
  exact Nat.le_of_lt (small1000 hz)
open AutoSeq1 (wpAny_loadPart') in
theorem meets_extT (l : Addr) (its : Array Value) (n : Nat) (b : Addr) (its2 : Array Value) (n2 : Nat) (dct : Option Addr) (sl : Array (Option Value)) (h0 : ¬(!its.isEmpty && Builtin.List.listTooLong (its.size + its2.size)) = true) (h1 : its.size ≤ sizeLine) (h2 : its.size + its2.size ≤ sizeLine + 1) :
    Meets (Builtin.«list.extend» ⟨[.ref l, .ref b], []⟩) (fun _ R s => s.heap.get? l = some { cls := .type "list", dict := none, data := .seq its n, slots := #[] } ∧ s.heap.get? b = some { cls := .type "tuple", dict := dct, data := .seq its2 n2, slots := sl } ∧ R (.ok (.ret Value.none)) { s with heap := s.heap.update l (Obj.mapSeq fun x => x ++ its2), toks := s.toks }) :=
  .of_wp fun prog w A R s h => by
    obtain ⟨hp, g, d, tk, os⟩ := s
    obtain ⟨hl, hb, h⟩ := h
    have f1 := sub_tuple_tuple; have f2 := sub_list_list; have f3 := sub_tuple_list; have f4 := sub_list_tuple
    have hz : (its ++ its2).size ≤ sizeLine + 1 := by
      rw [Array.size_append]
      exact h2
    wp_walk using (wpAny_updateSeq hl rfl (hz := h1) (_hz' := hz)), wpAny_loadPart' hl, wpAny_loadPart' hb
    exact ⟨_, rfl, h⟩
/-- list.extend by a tuple -/
theorem mt_extendT : MtM X "list.extend" (fun x vs H Q => ∃ l b xs zs, x = .ref l ∧ vs = [.ref b] ∧ H l = some (.lst xs) ∧ H b = some (.tup zs) ∧ xs.length + zs.length ≤ sizeLine ∧ Q .non (upd H l (.lst (xs ++ zs)))) := by
  intro pins s σ H x vs v us Q I rx rv h
  obtain ⟨l, b, xs, zs, rfl, rfl, hH, hB, hz, q⟩ := h
  cases rx
  obtain ⟨u, rfl, ru⟩ := rv.one
  cases ru
  obtain ⟨z, its, n, r, hl, e⟩ := I.lstM hH
  obtain ⟨its2, r2, ⟨⟨c2, d2, dt2, sl2⟩, e2, hc2, n2, hd2⟩, z2⟩ := I.tuple (.inl (.inl hB))
  cases (show c2 = .type "tuple" from hc2)
  cases (show dt2 = .seq its2.toArray n2 from hd2)
  have hl2 := r2.length
  have hsz : its.toArray.size + its2.toArray.size ≤ sizeLine := by rw [List.size_toArray, List.size_toArray]; omega
  refine call_meets F.slot_list_extend ⟨_, e, rfl⟩ F.entry_list_extend (F.args_list_extend_2 _ _) (meets_extT l its.toArray n b its2.toArray n2 d2 sl2 (by rw [notLongL hsz, Bool.and_false]; exact Bool.false_ne_true) (by rw [List.size_toArray]; omega) (by omega)) ⟨e, e2, ?_⟩
  refine ⟨.non, _, I.lset (its' := its ++ its2) hH e (by simp) (r.append r2) ?_, rfl, q⟩
  rw [List.length_append]
  omega
/-- a list or a tuple walked -/
def iSeq (K : PySem.W.Frag) (tl : TE) : TI := fun σ H R => tl σ H fun x H1 => ∃ a, x = .ref a ∧ (((∃ xs, SqL K H1 a xs) ∧ R (Itl K a) H1) ∨ ((∃ xs, SqT K H1 a xs) ∧ R (Itt K a) H1))
theorem pi_seq {tg l : Expr} {tl : TE} (hl : PE X l tl) : PI X tg l (iSeq X.K tl) := by
  intro pins s σ H R I h
  refine thn (hl pins s σ H _ I h) fun v s1 ⟨x, H1, I1, r1, q1⟩ => ?_
  obtain ⟨a, rfl, q⟩ := q1
  cases r1
  rcases q with ⟨⟨xs, hq⟩, q⟩ | ⟨⟨xs, hq⟩, q⟩
  · obtain ⟨its, rv, p, hz⟩ := I1.list hq
    refine wpAny_pyIter_list p.isList ⟨s1.heap.objs.size, [s1.heap.objs.size], _, _, H1, rfl, I1.kept (t' := s1.toks) fun b o e => Heap.get?_push_of_some _ e, turn_list a _, ⟨_, Heap.get?_push_size _ rfl, rfl, rfl⟩, fun b hb => ?_, q⟩
    rw [List.mem_singleton.mp hb]
    exact I1.fpOk (Nat.le_refl _) (I1.hok.fresh (Nat.le_refl _))
  · obtain ⟨its, rv, p, hz⟩ := I1.tuple hq
    refine wpAny_pyIter_tuple (show s1.heap.IsTuple a its.toArray from p) ⟨s1.heap.objs.size, [s1.heap.objs.size], _, _, H1, rfl, I1.kept (t' := s1.toks) fun b o e => Heap.get?_push_of_some _ e, turn_tuple a _, ⟨_, Heap.get?_push_size _ rfl, rfl, rfl⟩, fun b hb => ?_, q⟩
    rw [List.mem_singleton.mp hb]
    exact I1.fpOk (Nat.le_refl _) (I1.hok.fresh (Nat.le_refl _))
end

/-! the layer's rules with the text's heap named (for blocks) -/
section
variable {X : Cx} {K : PySem.W.Frag}
theorem ixT (h : X.K = K := by rfl) : IxR X (rIxT K) := h ▸ ix_tup
theorem ixL (h : X.K = K := by rfl) : IxR X (rIxL K) := h ▸ ix_list
theorem lenS (h : X.K = K := by rfl) : CallR X (.builtin "len") (fun xs H Q => ∃ p ys, xs = [.ref p] ∧ (SqL K H p ys ∨ SqT K H p ys) ∧ Q (.int ys.length) H) := h ▸ call_len_seq
theorem inS (h : X.K = K := by rfl) : OpR X (compareOp .In) (rIn K false) := h ▸ op_in_seq
theorem isiK (h : X.K = K := by rfl) : CallR X (.builtin "isinstance") (fun xs H Q => ∃ (x : V) (T C : String) (b : Bool), xs = [x, .ty C] ∧ TyOf K H x (.type T) ∧ kitTy T C = some b ∧ Q (.bl b) H) := h ▸ call_isi
end
/-! ### E. Data: what a value stands for -/
mutual
def Dn (H : Hp) : PyData → V → Prop
  | .none, v => v = .non
  | .bool b, v => v = .bl b
  | .int i, v => v = .int i
  | .str x, v => v = .str x
  | .list ds, v => ∃ a xs, v = .ref a ∧ H a = some (.lst xs) ∧ DnL H ds xs
  | .tuple ds, v => ∃ a xs, v = .ref a ∧ H a = some (.tup xs) ∧ DnL H ds xs
  | .dict kvs, v => kvs = [] ∧ ∃ a, v = .ref a ∧ H a = some (.dK [])
def DnL (H : Hp) : List PyData → List V → Prop
  | [], xs => xs = []
  | d :: ds, xs => ∃ x r, xs = x :: r ∧ Dn H d x ∧ DnL H ds r
end
mutual
theorem Dn.same {H H' : Hp} (h : Same H H') : ∀ (d : PyData) (v : V), Dn H d v → Dn H' d v
  | .none, _, q => q
  | .bool _, _, q => q
  | .int _, _, q => q
  | .str _, _, q => q
  | .list ds, _, ⟨a, xs, e, q, r⟩ => ⟨a, xs, e, h _ _ q, DnL.same h ds xs r⟩
  | .tuple ds, _, ⟨a, xs, e, q, r⟩ => ⟨a, xs, e, h _ _ q, DnL.same h ds xs r⟩
  | .dict _, _, ⟨e, a, q, r⟩ => ⟨e, a, q, h _ _ r⟩
theorem DnL.same {H H' : Hp} (h : Same H H') : ∀ (ds : List PyData) (xs : List V), DnL H ds xs → DnL H' ds xs
  | [], _, q => q
  | d :: ds, _, ⟨x, r, e, q, z⟩ => ⟨x, r, e, Dn.same h d x q, DnL.same h ds r z⟩
end
theorem DnL.length {H : Hp} : ∀ {ds : List PyData} {xs : List V}, DnL H ds xs → ds.length = xs.length
  | [], _, q => by cases (show _ = [] from q); rfl
  | d :: ds, _, ⟨x, r, e, _, z⟩ => by rw [e, List.length_cons, List.length_cons, DnL.length z]
theorem DnL.get {H : Hp} : ∀ {ds : List PyData} {xs : List V} {i : Nat} {x : V}, DnL H ds xs → xs[i]? = some x → ∃ d, ds[i]? = some d ∧ Dn H d x
  | [], _, i, x, q, e => by rw [(show _ = [] from q)] at e; simp at e
  | d :: ds, _, 0, x, ⟨y, r, e, q, z⟩, h => by rw [e] at h; cases h; exact ⟨d, rfl, q⟩
  | d :: ds, _, i + 1, x, ⟨y, r, e, q, z⟩, h => by
    rw [e] at h
    obtain ⟨d', h1, h2⟩ := DnL.get (i := i) z (by simpa using h)
    exact ⟨d', by simpa using h1, h2⟩
theorem DnL.append {H : Hp} : ∀ {ds es : List PyData} {xs ys : List V}, DnL H ds xs → DnL H es ys → DnL H (ds ++ es) (xs ++ ys)
  | [], es, xs, ys, q, r => by rw [(show xs = [] from q)]; exact r
  | d :: ds, es, _, ys, ⟨x, t, e, q, z⟩, r => ⟨x, t ++ ys, by rw [e]; rfl, q, DnL.append z r⟩
mutual
theorem Dn.reads {X : Cx} {pins : List (Addr × Obj)} {σ : St} {H : Hp} {s : Shared} (I : Inv X pins σ H s) : ∀ (d : PyData) (v : V) (u : Value), Dn H d v → d.canLay0 = true → RelV v u → ∃ as, Reads s.heap u d as
  | .none, v, u, q, _, r => by cases (show v = .non from q); cases (show u = Value.none from r); exact ⟨_, .none⟩
  | .bool b, v, u, q, _, r => by cases (show v = .bl b from q); cases (show u = Value.bool b from r); exact ⟨_, .bool b⟩
  | .int i, v, u, q, _, r => by cases (show v = .int i from q); obtain ⟨t, rfl⟩ := (show ∃ t, u = Value.int i t from r); exact ⟨_, .int i t⟩
  | .str x, v, u, q, _, r => by cases (show v = .str x from q); obtain ⟨t, rfl⟩ := (show ∃ t, u = Value.str x t from r); exact ⟨_, .str x t⟩
  | .list ds, _, u, ⟨a, xs, rfl, q, z⟩, c, r => by
    cases (show u = Value.ref a from r)
    obtain ⟨_, its, n, rv, e⟩ := (show ObjOk X.prog X.w H s.heap a (.lst xs) from I.hok a _ q)
    obtain ⟨as, ra⟩ := DnL.reads I ds xs its z (by simpa [PyData.canLay0] using c) rv
    exact ⟨_, .list e rfl rfl (by simpa using ra)⟩
  | .tuple ds, _, u, ⟨a, xs, rfl, q, z⟩, c, r => by
    cases (show u = Value.ref a from r)
    obtain ⟨_, its, rv, o, e, hc, n, hd⟩ := (show ObjOk X.prog X.w H s.heap a (.tup xs) from I.hok a _ q)
    obtain ⟨as, ra⟩ := DnL.reads I ds xs its z (by simpa [PyData.canLay0] using c) rv
    exact ⟨_, .tuple e hc hd (by simpa using ra)⟩
  | .dict k, v, u, _, c, _ => by simp [PyData.canLay0] at c
theorem DnL.reads {X : Cx} {pins : List (Addr × Obj)} {σ : St} {H : Hp} {s : Shared} (I : Inv X pins σ H s) : ∀ (ds : List PyData) (xs : List V) (us : List Value), DnL H ds xs → PyData.canLayAll0 ds = true → Vals xs us → ∃ as, ReadsAll s.heap us ds as
  | [], xs, us, q, _, r => by
    cases (show xs = [] from q)
    cases r
    exact ⟨_, .nil⟩
  | d :: ds, _, us, ⟨x, t, rfl, q, z⟩, c, r => by
    cases r with
    | cons rx rt =>
      have c' : PyData.canLay0 d = true ∧ PyData.canLayAll0 ds = true := by simpa [PyData.canLayAll0] using c
      obtain ⟨a1, r1⟩ := Dn.reads I d x _ q c'.1 rx
      obtain ⟨a2, r2⟩ := DnL.reads I ds t _ z c'.2 rt
      exact ⟨_, .cons r1 r2⟩
end
/-- two values of the same data: not unequal -/
theorem op_ne_data {X : Cx} (hu : X.A.units + 64 < cLine) : OpR X (compareOp .NotEq) (fun x y H Q => ∃ d e : PyData, Dn H d x ∧ Dn H e y ∧ SeqAt.shaped d = true ∧ SeqAt.shaped e = true ∧ Q (.bl (!PyData.eqv d e)) H) := by
  intro pins s σ H x y v u Q I rx ry h
  obtain ⟨d, e, hd, he, sd, se, q⟩ := h
  obtain ⟨as, ra⟩ := Dn.reads I d x v hd (SeqAt.canLay_of_shaped sd) rx
  obtain ⟨bs, rb⟩ := Dn.reads I e y u he (SeqAt.canLay_of_shaped se) ry
  exact ne_dataH ra rb sd se hu ⟨.bl _, H, I, rfl, q⟩
end L2

set_option maxRecDepth 100000
set_option maxHeartbeats 4000000
/-! ### F. Woods as data -/
namespace Wd
open PySem L2
def tyN : PyData → String
  | .none => "NoneType" | .bool _ => "bool" | .int _ => "int" | .str _ => "str" | .list _ => "list" | .tuple _ => "tuple" | .dict _ => "dict"
def isW : PyData → Bool
  | .int _ => true
  | _ => false
def isInt : PyData → Bool
  | .int _ => true
  | .bool _ => true
  | _ => false
def isBool : PyData → Bool
  | .bool _ => true
  | _ => false
def isTup : PyData → Bool
  | .tuple _ => true
  | _ => false
def isStr : PyData → Bool
  | .str _ => true
  | _ => false
theorem dn_ty {K : PySem.W.Frag} {H : Hp} : ∀ {d : PyData} {v : V}, Dn H d v → TyOf K H v (.type (tyN d))
  | .none, v, q => by cases (show v = .non from q); exact .non
  | .bool b, v, q => by cases (show v = .bl b from q); exact .bl b
  | .int i, v, q => by cases (show v = .int i from q); exact .int i
  | .str x, v, q => by cases (show v = .str x from q); exact .str x
  | .list ds, _, ⟨a, xs, rfl, q, _⟩ => .lst q
  | .tuple ds, _, ⟨a, xs, rfl, q, _⟩ => .tup q
  | .dict k, _, ⟨_, a, rfl, q⟩ => .dK q
theorem ty_int : ∀ d : PyData, kitTy (tyN d) "int" = some (isInt d)
  | .none => (by decide +kernel : kitTy "NoneType" "int" = some false)
  | .bool _ => (by decide +kernel : kitTy "bool" "int" = some true)
  | .int _ => (by decide +kernel : kitTy "int" "int" = some true)
  | .str _ => (by decide +kernel : kitTy "str" "int" = some false)
  | .list _ => (by decide +kernel : kitTy "list" "int" = some false)
  | .tuple _ => (by decide +kernel : kitTy "tuple" "int" = some false)
  | .dict _ => (by decide +kernel : kitTy "dict" "int" = some false)
theorem ty_bool : ∀ d : PyData, kitTy (tyN d) "bool" = some (isBool d)
  | .none => (by decide +kernel : kitTy "NoneType" "bool" = some false)
  | .bool _ => (by decide +kernel : kitTy "bool" "bool" = some true)
  | .int _ => (by decide +kernel : kitTy "int" "bool" = some false)
  | .str _ => (by decide +kernel : kitTy "str" "bool" = some false)
  | .list _ => (by decide +kernel : kitTy "list" "bool" = some false)
  | .tuple _ => (by decide +kernel : kitTy "tuple" "bool" = some false)
  | .dict _ => (by decide +kernel : kitTy "dict" "bool" = some false)
theorem ty_tup : ∀ d : PyData, kitTy (tyN d) "tuple" = some (isTup d)
  | .none => (by decide +kernel : kitTy "NoneType" "tuple" = some false)
  | .bool _ => (by decide +kernel : kitTy "bool" "tuple" = some false)
  | .int _ => (by decide +kernel : kitTy "int" "tuple" = some false)
  | .str _ => (by decide +kernel : kitTy "str" "tuple" = some false)
  | .list _ => (by decide +kernel : kitTy "list" "tuple" = some false)
  | .tuple _ => (by decide +kernel : kitTy "tuple" "tuple" = some true)
  | .dict _ => (by decide +kernel : kitTy "dict" "tuple" = some false)
theorem ty_str : ∀ d : PyData, kitTy (tyN d) "str" = some (isStr d)
  | .none => (by decide +kernel : kitTy "NoneType" "str" = some false)
  | .bool _ => (by decide +kernel : kitTy "bool" "str" = some false)
  | .int _ => (by decide +kernel : kitTy "int" "str" = some false)
  | .str _ => (by decide +kernel : kitTy "str" "str" = some true)
  | .list _ => (by decide +kernel : kitTy "list" "str" = some false)
  | .tuple _ => (by decide +kernel : kitTy "tuple" "str" = some false)
  | .dict _ => (by decide +kernel : kitTy "dict" "str" = some false)
/-! the program's looks at data, as functions -/
def within (d : PyData) (lo hi : Int) : Bool := match d with
  | .int i => decide (lo ≤ i) && decide (i ≤ hi)
  | _ => false
def tupLen (d : PyData) (n : Int) : Bool := match d with
  | .tuple ds => decide ((ds.length : Int) = n)
  | _ => false
def tupFull (d : PyData) : Bool := match d with
  | .tuple ds => decide (0 < ds.length)
  | _ => false
def rising (many : Int) : List PyData → Int → Bool
  | [], _ => true
  | .int i :: ds, last => decide (last + 1 ≤ i) && decide (i ≤ many - 1) && rising many ds i
  | _ :: _, _ => false
def risK (many : Int) : PyData → PyData → Bool
  | .int up, .tuple ks => rising many ks up
  | _, _ => false
def highK (h : PyData) : PyData → Bool
  | .tuple ks => within h 1 ks.length
  | _ => false
def lowH (l : PyData) : PyData → Bool
  | .int hi => within l 0 hi
  | _ => false
def isBough (many : Int) (d : PyData) : Bool := match d with
  | .tuple [u, l, h, k] => within u 0 (many - 1) && (tupFull k && (risK many u k && (highK h k && lowH l h)))
  | _ => false
def fstD : PyData → PyData
  | .tuple (x :: _) => x
  | _ => .none
def pairOk : PyData → Bool
  | .tuple [_, n] => isW n
  | _ => false
def arePairs (many : Int) (d : PyData) : Bool := match d with
  | .tuple ds => decide (0 < ds.length) && ds.all pairOk && rising many (ds.map fstD) (-1)
  | _ => false
def neI : PyData → PyData → Bool
  | .int i, .int j => !decide (i = j)
  | _, _ => false
def tieK (many : Int) (s : Str) (x y : PyData) : Bool := if s = ("most" : Str) then isW x && arePairs many y else if s = ("needs" : Str) ∨ s = ("bans" : Str) then within x 0 (many - 1) && (within y 0 (many - 1) && neI x y) else false
def tieD (many : Int) (x y : PyData) : PyData → Bool
  | .str s => tieK many s x y
  | _ => false
def isTie (many : Int) (d : PyData) : Bool := match d with
  | .tuple [k, x, y] => tieD many x y k
  | _ => false
def toI : PyData → Int
  | .int i => i
  | _ => 0
def kidsOf : PyData → List Int
  | .tuple [_, _, _, .tuple ks] => ks.map toI
  | _ => []
/-- the boughs are those of a wood -/
structure GoodB (many : Int) (bs : List PyData) : Prop where
  each : ∀ b ∈ bs, isBough many b = true
  kids : (bs.flatMap kidsOf).Perm ((List.range' 0 (many - 1).toNat).map fun i : Nat => (1 : Int) + i)
theorem same_new {H : Hp} {p : Addr} (h : H p = none) (o : HO) : Same H (upd H p o) := same_of fun b u q => by rw [upd_ne (ne_of_none q h)]; exact q
theorem small {n : Nat} (h : n ≤ 1000) : n ≤ sizeLine := Nat.le_of_lt (small1000 h)
theorem dn_int {H : Hp} {i : Int} {v : V} (h : Dn H (.int i) v) : v = .int i := h
theorem dn_tup {H : Hp} {ds : List PyData} {v : V} (h : Dn H (.tuple ds) v) : ∃ a xs, v = .ref a ∧ H a = some (.tup xs) ∧ DnL H ds xs := h
theorem isW_int {d : PyData} (h : isW d = true) : ∃ i, d = .int i := by
  cases d <;> first | exact ⟨_, rfl⟩ | cases h
theorem isTup_tup {d : PyData} (h : isTup d = true) : ∃ ds, d = .tuple ds := by
  cases d <;> first | exact ⟨_, rfl⟩ | cases h
theorem sqT {K : PySem.W.Frag} {H : Hp} {a : Addr} {xs : List V} (h : H a = some (.tup xs)) : SqT K H a xs := .inl (.inl h)
theorem at0 {x : V} {r : List V} : atI (x :: r) 0 = some x := atI_nat (j := 0) rfl
theorem at1 {x y : V} {r : List V} : atI (x :: y :: r) 1 = some y := atI_nat (j := 1) rfl
theorem at2 {x y z : V} {r : List V} : atI (x :: y :: z :: r) 2 = some z := atI_nat (j := 2) rfl
theorem at3 {x y z w : V} {r : List V} : atI (x :: y :: z :: w :: r) 3 = some w := atI_nat (j := 3) rfl
theorem within_int {d : PyData} {lo hi : Int} (h : within d lo hi = true) : ∃ i, d = .int i ∧ lo ≤ i ∧ i ≤ hi := by
  cases d with
  | int i =>
    have z : (decide (lo ≤ i) && decide (i ≤ hi)) = true := h
    simp only [Bool.and_eq_true, decide_eq_true_eq] at z
    exact ⟨i, rfl, z.1, z.2⟩
  | _ => cases h
theorem tupFull_tup {d : PyData} (h : tupFull d = true) : ∃ ds, d = .tuple ds ∧ 0 < ds.length := by
  cases d with
  | tuple ds => exact ⟨ds, rfl, of_decide_eq_true h⟩
  | _ => cases h
theorem tupLen_tup {d : PyData} {n : Nat} (h : tupLen d n = true) : ∃ ds, d = .tuple ds ∧ ds.length = n := by
  cases d with
  | tuple ds =>
    have z : ((ds.length : Int) = (n : Int)) := of_decide_eq_true h
    exact ⟨ds, rfl, by omega⟩
  | _ => cases h
theorem rising_ints {many : Int} : ∀ {ks : List PyData} {last : Int}, rising many ks last = true → ks = (ks.map toI).map PyData.int
  | [], _, _ => rfl
  | .int i :: ks, last, h => by
    have z : (decide (last + 1 ≤ i) && decide (i ≤ many - 1) && rising many ks i) = true := h
    rw [Bool.and_eq_true] at z
    show PyData.int i :: ks = PyData.int i :: (ks.map toI).map PyData.int
    rw [← rising_ints z.2]
  | .none :: _, _, h => by cases h
  | .bool _ :: _, _, h => by cases h
  | .str _ :: _, _, h => by cases h
  | .list _ :: _, _, h => by cases h
  | .tuple _ :: _, _, h => by cases h
  | .dict _ :: _, _, h => by cases h
theorem dnl_ints {H : Hp} : ∀ {ns : List Int} {xs : List V}, DnL H (ns.map PyData.int) xs → xs = ns.map V.int
  | [], xs, h => h
  | n :: r, _, ⟨x, t, rfl, hx, ht⟩ => by rw [dnl_ints ht, dn_int hx]; rfl
theorem ints_dnl {H : Hp} : ∀ (ns : List Int), DnL H (ns.map PyData.int) (ns.map V.int)
  | [] => rfl
  | n :: r => ⟨_, _, rfl, rfl, ints_dnl r⟩
theorem range_sorted (lo : Int) : ∀ (n k : Nat), (((List.range' k n).map fun i : Nat => lo + (i : Int))).Pairwise (· ≤ ·)
  | 0, _ => List.Pairwise.nil
  | n + 1, k => by
    rw [List.range'_succ, List.map_cons]
    refine List.Pairwise.cons (fun b hb => ?_) (range_sorted lo n (k + 1))
    obtain ⟨i, hi, rfl⟩ := List.mem_map.mp hb
    have := (List.mem_range'_1.mp hi).1
    omega
end Wd

set_option maxRecDepth 100000
set_option maxHeartbeats 4000000
namespace Ow
open PySem L2 Wd
-- woods
/-! ### the program's looks -/
def spWhole : Sp := fun vs H Q _ => ∃ (d : PyData) (v : V), vs = [v] ∧ Dn H d v ∧ Q (.bl (isW d)) H
def spWithin : Sp := fun vs H Q _ => ∃ (d : PyData) (v : V) (lo hi : Int), vs = [v, .int lo, .int hi] ∧ Dn H d v ∧ Q (.bl (within d lo hi)) H
def spOption : Sp := fun vs H Q _ => ∃ (d : PyData) (v : V) (many : Int), vs = [.int many, v] ∧ Dn H d v ∧ Q (.bl (within d 0 (many - 1))) H
def spTupLen : Sp := fun vs H Q _ => ∃ (d : PyData) (v : V) (n : Int), vs = [v, .int n] ∧ Dn H d v ∧ Q (.bl (tupLen d n)) H
def spFull : Sp := fun vs H Q _ => ∃ (d : PyData) (v : V), vs = [v] ∧ Dn H d v ∧ Q (.bl (tupFull d)) H
def spRising (K : PySem.W.Frag) : Sp := fun vs H Q _ => ∃ (many floor : Int) (a : Addr) (b : Bool) (ds : List PyData) (xs : List V), vs = [.int many, .ref a, .int floor] ∧ Sq K b H a xs ∧ DnL H ds xs ∧ Q (.bl (rising many ds floor)) H
def spBough : Sp := fun vs H Q _ => ∃ (d : PyData) (v : V) (many : Int), vs = [.int many, v] ∧ Dn H d v ∧ Q (.bl (isBough many d)) H
def lenOk : PyData → Prop
  | .tuple ds => ds.length ≤ 1000
  | _ => True
def thirdOk : PyData → Prop
  | .tuple (_ :: _ :: y :: _) => lenOk y
  | _ => True
def spPairs : Sp := fun vs H Q _ => ∃ (d : PyData) (v : V) (many : Int), vs = [.int many, v] ∧ Dn H d v ∧ lenOk d ∧ ∀ H', Same H H' → Q (.bl (arePairs many d)) H'
def spTie : Sp := fun vs H Q _ => ∃ (d : PyData) (v : V) (many : Int), vs = [.int many, v] ∧ Dn H d v ∧ thirdOk d ∧ ∀ H', Same H H' → Q (.bl (isTie many d)) H'
def nextR (many : Int) (d : PyData) (r : List PyData) : Bool := match d with
  | .int j => rising many r j
  | _ => false
theorem rising_at {many last : Int} {ds : List PyData} {i : Nat} {d : PyData} (h : ds[i]? = some d) : rising many (ds.drop i) last = (within d (last + 1) (many - 1) && nextR many d (ds.drop (i + 1))) := by
  obtain ⟨hi, e⟩ := List.getElem?_eq_some_iff.mp h
  rw [List.drop_eq_getElem_cons hi, e]
  cases d <;> rfl
def rPv (many floor : Int) (p : Addr) (ds : List PyData) (H : Hp) (i : Nat) (σ : St) (H2 : Hp) : Prop :=
  (∃ (last : Int) (v : Option V), σ = [some (.int many), some (.ref p), some (.int floor), some (.int last), v] ∧ rising many (ds.drop i) last = rising many ds floor) ∧ H2 = H
-- woods2
theorem four {ds : List PyData} (h : ds.length = 4) : ∃ u l h k, ds = [u, l, h, k] := by
  match ds, h with
  | [u, l, h, k], _ => exact ⟨u, l, h, k, rfl⟩
theorem three {ds : List PyData} (h : ds.length = 3) : ∃ u l h, ds = [u, l, h] := by
  match ds, h with
  | [u, l, h], _ => exact ⟨u, l, h, rfl⟩
theorem two {ds : List PyData} (h : ds.length = 2) : ∃ u l, ds = [u, l] := by
  match ds, h with
  | [u, l], _ => exact ⟨u, l, rfl⟩
theorem noBough {many : Int} {d : PyData} (h : tupLen d 4 = false) : isBough many d = false := by
  cases d with
  | tuple ds =>
    match ds with
    | [u, l, h', k] => cases h
    | [] => rfl
    | [_] => rfl
    | [_, _] => rfl
    | [_, _, _] => rfl
    | _ :: _ :: _ :: _ :: _ :: _ => rfl
  | _ => rfl
theorem noTie {many : Int} {d : PyData} (h : tupLen d 3 = false) : isTie many d = false := by
  cases d with
  | tuple ds =>
    match ds with
    | [u, l, h'] => cases h
    | [] => rfl
    | [_] => rfl
    | [_, _] => rfl
    | _ :: _ :: _ :: _ :: _ => rfl
  | _ => rfl
theorem noPair {d : PyData} (h : tupLen d 2 = false) : pairOk d = false := by
  cases d with
  | tuple ds =>
    match ds with
    | [u, l] => cases h
    | [] => rfl
    | [_] => rfl
    | _ :: _ :: _ :: _ => rfl
  | _ => rfl
theorem take_all {α : Type} {f : α → Bool} {ds : List α} {i : Nat} {d : α} (h : ds[i]? = some d) (ha : (ds.take i).all f = true) (hd : f d = true) : (ds.take (i + 1)).all f = true := by
  obtain ⟨hi, e⟩ := List.getElem?_eq_some_iff.mp h
  rw [List.take_succ_eq_append_getElem hi, List.all_append, ha, e]
  simp [hd]
theorem all_not {α : Type} {f : α → Bool} {ds : List α} {i : Nat} {d : α} (h : ds[i]? = some d) (hd : f d = false) : ds.all f = false := by
  rw [Bool.eq_false_iff]
  intro z
  rw [List.all_eq_true] at z
  rw [z d (List.mem_of_getElem? h)] at hd
  cases hd
-- woods3a
/-- what wood_of, check_boughs and check_cross_ties do with what tells a wood -/
def tiesOk (many : Int) (cs : List PyData) : Prop := ∀ c ∈ cs, isTie many c = true ∧ thirdOk c
def spCheckB : Sp := fun vs H Q _ => ∃ (many : Int) (p : Addr) (xs : List V) (bs : List PyData), vs = [.int many, .ref p] ∧ H p = some (.tup xs) ∧ DnL H bs xs ∧ GoodB many bs ∧ 1 ≤ many ∧ many ≤ 9 ∧ bs.length ≤ 9 ∧ ∀ H', Same H H' → Q .non H'
def spCheckC : Sp := fun vs H Q _ => ∃ (many : Int) (p : Addr) (xs : List V) (cs : List PyData), vs = [.int many, .ref p] ∧ H p = some (.tup xs) ∧ DnL H cs xs ∧ tiesOk many cs ∧ cs.length ≤ 8 ∧ ∀ H', Same H H' → Q .non H'
def spWood : Sp := fun vs H Q _ => ∃ (many : Int) (p r : Addr) (xs ys : List V) (bs cs : List PyData), vs = [.int many, .ref p, .ref r] ∧ H p = some (.lst xs) ∧ H r = some (.lst ys) ∧ DnL H bs xs ∧ DnL H cs ys ∧ GoodB many bs ∧ 1 ≤ many ∧ many ≤ 9 ∧ bs.length ≤ 9 ∧ tiesOk many cs ∧ cs.length ≤ 8 ∧
  ∀ (wd tb tc : Addr) (H' : Hp), Same H H' → H' wd = some (.tup [.int many, .ref tb, .ref tc]) → H' tb = some (.tup xs) → H' tc = some (.tup ys) → Q (.ref wd) H'
/-- a wood in the heap -/
structure WoodAt (H : Hp) (wd : Addr) (many : Int) (xs ys : List V) : Prop where
  ex : ∃ tb tc, H wd = some (.tup [.int many, .ref tb, .ref tc]) ∧ H tb = some (.tup xs) ∧ H tc = some (.tup ys)
theorem dec_strs (s t : Str) : decide (V.str s = V.str t) = decide (s = t) := by
  by_cases h : s = t
  · subst h
    simp
  · rw [decide_eq_false h, decide_eq_false (fun z => h (by injection z))]
theorem bough_kids {H : Hp} {many : Int} {b : PyData} {v : V} (hb : isBough many b = true) (hd : Dn H b v) : ∃ p xu xl xh pk, v = .ref p ∧ H p = some (.tup [xu, xl, xh, .ref pk]) ∧ H pk = some (.tup ((kidsOf b).map V.int)) := by
  cases b with
  | tuple ds =>
    match ds, hb, hd with
    | [u, l, h, k], hb, hd =>
      obtain ⟨p, xs, rfl, hp, xu, r1, rfl, hu, xl, r2, rfl, hlo, xh, r3, rfl, hh, xk, r4, rfl, hk, hnil⟩ := dn_tup hd
      cases (show r4 = [] from hnil)
      have z : (within u 0 (many - 1) && (tupFull k && (risK many u k && (highK h k && lowH l h)))) = true := hb
      simp only [Bool.and_eq_true] at z
      obtain ⟨z1, z2, z3, _, _⟩ := z
      obtain ⟨up, rfl, _, _⟩ := within_int z1
      obtain ⟨ks, rfl, _⟩ := tupFull_tup z2
      obtain ⟨pk, ys, rfl, hpk, hks⟩ := dn_tup hk
      have e := rising_ints (show rising many ks up = true from z3)
      rw [e] at hks
      rw [dnl_ints hks] at hpk
      exact ⟨p, xu, xl, xh, pk, rfl, hp, hpk⟩
  | _ => cases hb
theorem kids_few {many : Int} {bs : List PyData} (G : GoodB many bs) (h9 : many ≤ 9) (i : Nat) : ((bs.take i).flatMap kidsOf).length ≤ 8 := by
  have e := G.kids.length_eq
  rw [List.length_map, List.length_range'] at e
  have s : ((bs.take i).flatMap kidsOf).length ≤ (bs.flatMap kidsOf).length := by
    have e2 : bs.flatMap kidsOf = (bs.take i).flatMap kidsOf ++ (bs.drop i).flatMap kidsOf := by
      rw [← List.flatMap_append, List.take_append_drop]
    rw [e2, List.length_append]
    omega
  omega
theorem flatMap_take {α β : Type} {f : α → List β} {ds : List α} {i : Nat} {d : α} (h : ds[i]? = some d) : (ds.take (i + 1)).flatMap f = (ds.take i).flatMap f ++ f d := by
  obtain ⟨hi, e⟩ := List.getElem?_eq_some_iff.mp h
  rw [List.take_succ_eq_append_getElem hi, List.flatMap_append, e]
  simp
-- woods3t
-- laws
/-! ### the statement's own helpers -/
/-- data of tuples, texts and ints alone, so deep at most -/
def flatD : Nat → PyData → Bool
  | _, .int _ => true
  | _, .str s => PyData.strOk s
  | n + 1, .tuple ds => decide (ds.length ≤ 1000) && ds.all (flatD n)
  | _, _ => false
/-! a tie made -/
theorem mod_near {many one x : Int} (h1 : 1 < many) (h9 : many ≤ 9) (o0 : 0 ≤ one) (o1 : one < many) (x0 : 0 ≤ x) (x1 : x < many - 1) : 0 ≤ (one + 1 + x) % many ∧ (one + 1 + x) % many < many ∧ one ≠ (one + 1 + x) % many := by
  have e : many = 2 ∨ many = 3 ∨ many = 4 ∨ many = 5 ∨ many = 6 ∨ many = 7 ∨ many = 8 ∨ many = 9 := by omega
  rcases e with rfl | rfl | rfl | rfl | rfl | rfl | rfl | rfl <;> omega
theorem strOk_most : PyData.strOk ("most" : Str) = true := by decide +kernel
theorem strOk_needs : PyData.strOk ("needs" : Str) = true := by decide +kernel
theorem strOk_bans : PyData.strOk ("bans" : Str) = true := by decide +kernel
/-- the pairs of a most tie so far: options below i, rising -/
structure PairsTo (H : Hp) (i : Nat) (ps : List PyData) (xs : List V) : Prop where
  dn : DnL H ps xs
  ok : ps.all pairOk = true
  flat : ps.all (flatD 1) = true
  ris : rising (i : Int) (ps.map fstD) (-1) = true
  few : ps.length ≤ i
theorem rising_mono {m m' : Int} (h : m ≤ m') : ∀ {ks : List PyData} {u : Int}, rising m ks u = true → rising m' ks u = true
  | [], _, _ => rfl
  | .int i :: ks, u, z => by
    have z' : (decide (u + 1 ≤ i) && decide (i ≤ m - 1) && rising m ks i) = true := z
    show (decide (u + 1 ≤ i) && decide (i ≤ m' - 1) && rising m' ks i) = true
    simp only [Bool.and_eq_true, decide_eq_true_eq] at z' ⊢
    exact ⟨⟨z'.1.1, by omega⟩, rising_mono h z'.2⟩
  | .none :: _, _, z => by cases z
  | .bool _ :: _, _, z => by cases z
  | .str _ :: _, _, z => by cases z
  | .list _ :: _, _, z => by cases z
  | .tuple _ :: _, _, z => by cases z
  | .dict _ :: _, _, z => by cases z
theorem rising_snoc {m j : Int} (h : j < m) : ∀ {ks : List PyData} {u : Int}, rising j ks u = true → u < j → rising m (ks ++ [.int j]) u = true
  | [], u, _, hu => by
    show (decide (u + 1 ≤ j) && decide (j ≤ m - 1) && true) = true
    rw [decide_eq_true (by omega), decide_eq_true (by omega)]
    rfl
  | .int i :: ks, u, z, hu => by
    have z' : (decide (u + 1 ≤ i) && decide (i ≤ j - 1) && rising j ks i) = true := z
    show (decide (u + 1 ≤ i) && decide (i ≤ m - 1) && rising m (ks ++ [.int j]) i) = true
    simp only [Bool.and_eq_true, decide_eq_true_eq] at z' ⊢
    exact ⟨⟨z'.1.1, by omega⟩, rising_snoc h z'.2 (by omega)⟩
  | .none :: _, _, z, _ => by cases z
  | .bool _ :: _, _, z, _ => by cases z
  | .str _ :: _, _, z, _ => by cases z
  | .list _ :: _, _, z, _ => by cases z
  | .tuple _ :: _, _, z, _ => by cases z
  | .dict _ :: _, _, z, _ => by cases z
theorem DnL.keepT {H H' : Hp} {f : PyData → Bool} (k : ∀ d v, f d = true → Dn H d v → Dn H' d v) : ∀ (ds : List PyData) (xs : List V), ds.all f = true → DnL H ds xs → DnL H' ds xs
  | [], _, _, q => q
  | d :: ds, _, c, ⟨x, r, e, q, z⟩ => by
    rw [List.all_cons, Bool.and_eq_true] at c
    exact ⟨x, r, e, k d x c.1 q, DnL.keepT k ds r c.2 z⟩
theorem Dn.keepT {H H' : Hp} (h : ∀ b xs, H b = some (.tup xs) → H' b = some (.tup xs)) : ∀ (n : Nat) (d : PyData) (v : V), flatD n d = true → Dn H d v → Dn H' d v
  | _, .int _, _, _, q => q
  | _, .str _, _, _, q => q
  | n + 1, .tuple ds, _, c, ⟨p, xs, e, q, z⟩ => ⟨p, xs, e, h _ _ q, DnL.keepT (Dn.keepT h n) ds xs ((Bool.and_eq_true _ _).mp c).2 z⟩
  | 0, .tuple ds, _, c, _ => by cases c
  | 0, .none, _, c, _ => by cases c
  | n + 1, .none, _, c, _ => by cases c
  | 0, .bool _, _, c, _ => by cases c
  | n + 1, .bool _, _, c, _ => by cases c
  | 0, .list _, _, c, _ => by cases c
  | n + 1, .list _, _, c, _ => by cases c
  | 0, .dict _, _, c, _ => by cases c
  | n + 1, .dict _, _, c, _ => by cases c
-- boughs
/-! ### the boughs made -/
structure Grp where
  t : Addr
  up : Int
  l : Addr
  kids : List Int
/-- the groups stand at g; H0 is the heap at the entry -/
structure GAt (H0 H : Hp) (g : Addr) (gs : List Grp) : Prop where
  at_ : H g = some (.lst (gs.map fun x => V.ref x.t))
  new : H0 g = none
  tup : ∀ x ∈ gs, H x.t = some (.tup [.int x.up, .ref x.l])
  lst : ∀ x ∈ gs, H x.l = some (.lst (x.kids.map V.int)) ∧ H0 x.l = none ∧ g ≠ x.l
  nd : (gs.map (·.l)).Nodup
/-- what holds of the groups when the options below k are dealt out -/
structure GOk (k : Int) (gs : List Grp) : Prop where
  each : ∀ x ∈ gs, 0 ≤ x.up ∧ x.kids ≠ [] ∧ rising k (x.kids.map PyData.int) x.up = true
  perm : (gs.flatMap (·.kids)).Perm ((List.range' 0 (k - 1).toNat).map fun i : Nat => (1 : Int) + i)
theorem GOk.few {k : Int} {gs : List Grp} (G : GOk k gs) : gs.length ≤ (k - 1).toNat := by
  have e := G.perm.length_eq
  rw [List.length_map, List.length_range'] at e
  rw [← e]
  have go : ∀ l : List Grp, (∀ x ∈ l, x.kids ≠ []) → l.length ≤ (l.flatMap (·.kids)).length := by
    intro l
    induction l with
    | nil => intro _; exact Nat.le_refl _
    | cons x r ih =>
      intro h
      rw [List.flatMap_cons, List.length_append, List.length_cons]
      have h1 := List.length_pos_iff.mpr (h x List.mem_cons_self)
      have h2 := ih fun y hy => h y (List.mem_cons_of_mem _ hy)
      omega
  exact go gs fun x hx => (G.each x hx).2.1
theorem range_snoc (k : Nat) : ((List.range' 0 k).map fun i : Nat => (1 : Int) + i) ++ [((k : Int) + 1)] = (List.range' 0 (k + 1)).map fun i : Nat => (1 : Int) + i := by
  rw [List.range'_concat, List.map_append]
  simp
  omega
theorem GOk.new {k : Nat} {gs : List Grp} {t l : Addr} {u : Int} (G : GOk ((k : Int) + 1) gs) (u0 : 0 ≤ u) (u1 : u < (k : Int) + 1) : GOk ((k : Int) + 2) (gs ++ [⟨t, u, l, [(k : Int) + 1]⟩]) where
  each := fun x hx => by
    rcases List.mem_append.mp hx with z | z
    · obtain ⟨a, b, c⟩ := G.each x z
      exact ⟨a, b, rising_mono (by omega) c⟩
    · rw [List.mem_singleton.mp z]
      refine ⟨u0, by simp, ?_⟩
      show (decide (u + 1 ≤ (k : Int) + 1) && decide ((k : Int) + 1 ≤ (k : Int) + 2 - 1) && true) = true
      rw [decide_eq_true (by omega), decide_eq_true (by omega)]
      rfl
  perm := by
    rw [List.flatMap_append]
    have e : ((k : Int) + 2 - 1).toNat = k + 1 := by omega
    have e' : ((k : Int) + 1 - 1).toNat = k := by omega
    have p := G.perm
    rw [e'] at p
    rw [e, ← range_snoc]
    exact p.append (by simp)
theorem GOk.put {k : Nat} {pre post : List Grp} {x : Grp} (G : GOk ((k : Int) + 1) (pre ++ x :: post)) : GOk ((k : Int) + 2) (pre ++ ⟨x.t, x.up, x.l, x.kids ++ [(k : Int) + 1]⟩ :: post) where
  each := fun y hy => by
    have old : ∀ z ∈ pre ++ x :: post, 0 ≤ z.up ∧ z.kids ≠ [] ∧ rising ((k : Int) + 2) (z.kids.map PyData.int) z.up = true := fun z hz => by
      obtain ⟨a, b, c⟩ := G.each z hz
      exact ⟨a, b, rising_mono (by omega) c⟩
    rcases List.mem_append.mp hy with z | z
    · exact old y (List.mem_append_left _ z)
    · rcases List.mem_cons.mp z with z | z
      · subst z
        obtain ⟨a, b, c⟩ := G.each x (by simp)
        refine ⟨a, by simp, ?_⟩
        show rising ((k : Int) + 2) ((x.kids ++ [(k : Int) + 1]).map PyData.int) x.up = true
        rw [List.map_append]
        refine rising_snoc (by omega) c ?_
        cases hk : x.kids with
        | nil => exact absurd hk b
        | cons n r =>
          rw [hk] at c
          have c' : (decide (x.up + 1 ≤ n) && decide (n ≤ (k : Int) + 1 - 1) && rising ((k : Int) + 1) (r.map PyData.int) n) = true := c
          simp only [Bool.and_eq_true, decide_eq_true_eq] at c'
          omega
      · exact old y (by simp [z])
  perm := by
    have e : ((k : Int) + 2 - 1).toNat = k + 1 := by omega
    have e' : ((k : Int) + 1 - 1).toNat = k := by omega
    have p := G.perm
    rw [e'] at p
    rw [e, ← range_snoc]
    refine List.Perm.trans ?_ (p.append (List.Perm.refl [((k : Int) + 1)]))
    rw [List.flatMap_append, List.flatMap_append, List.flatMap_cons, List.flatMap_cons, List.append_assoc, List.append_assoc, List.append_assoc]
    exact (List.Perm.refl _).append ((List.Perm.refl _).append List.perm_append_comm)
theorem GAt.put {H0 H : Hp} {g : Addr} {pre post : List Grp} {x : Grp} {k : Int} (G : GAt H0 H g (pre ++ x :: post)) : GAt H0 (upd H x.l (.lst (x.kids.map V.int ++ [.int k]))) g (pre ++ ⟨x.t, x.up, x.l, x.kids ++ [k]⟩ :: post) := by
  have hx : x ∈ pre ++ x :: post := by simp
  obtain ⟨a, b, c⟩ := G.lst x hx
  have nd := G.nd
  rw [List.map_append, List.map_cons] at nd
  obtain ⟨_, n2, n3⟩ := List.nodup_append.mp nd
  have oth : ∀ y, y ∈ pre ∨ y ∈ post → y.l ≠ x.l := fun y hy e => by
    rcases hy with hy | hy
    · exact n3 y.l (List.mem_map.mpr ⟨y, hy, rfl⟩) x.l (by simp) e
    · exact (List.nodup_cons.mp n2).1 (by rw [← e]; exact List.mem_map.mpr ⟨y, hy, rfl⟩)
  have mem : ∀ y ∈ pre ++ (⟨x.t, x.up, x.l, x.kids ++ [k]⟩ : Grp) :: post, (y ∈ pre ∨ y ∈ post) ∨ y = ⟨x.t, x.up, x.l, x.kids ++ [k]⟩ := fun y hy => by
    rcases List.mem_append.mp hy with z | z
    · exact .inl (.inl z)
    · rcases List.mem_cons.mp z with z | z
      · exact .inr z
      · exact .inl (.inr z)
  have old : ∀ y, y ∈ pre ∨ y ∈ post → y ∈ pre ++ x :: post := fun y hy => by
    rcases hy with z | z <;> simp [z]
  refine ⟨?_, G.new, fun y hy => ?_, fun y hy => ?_, ?_⟩
  · rw [upd_ne c, G.at_, List.map_append, List.map_append, List.map_cons, List.map_cons]
  · rcases mem y hy with z | rfl
    · rw [upd_ne (ne_of (G.tup y (old y z)) a (by intro q; cases q))]
      exact G.tup y (old y z)
    · show upd H x.l _ x.t = _
      rw [upd_ne (ne_of (G.tup x hx) a (by intro q; cases q))]
      exact G.tup x hx
  · rcases mem y hy with z | rfl
    · obtain ⟨a', b', c'⟩ := G.lst y (old y z)
      refine ⟨?_, b', c'⟩
      rw [upd_ne (oth y z)]
      exact a'
    · refine ⟨?_, b, c⟩
      show upd H x.l _ x.l = _
      rw [upd_same, List.map_append]
      rfl
  · have e : (pre ++ (⟨x.t, x.up, x.l, x.kids ++ [k]⟩ : Grp) :: post).map (·.l) = (pre ++ x :: post).map (·.l) := by
      rw [List.map_append, List.map_append, List.map_cons, List.map_cons]
    rw [e]
    exact G.nd
theorem GAt.same {H0 H H' : Hp} {g : Addr} {gs : List Grp} (G : GAt H0 H g gs) (s : Same H H') : GAt H0 H' g gs :=
  ⟨s _ _ G.at_, G.new, fun x hx => s _ _ (G.tup x hx), fun x hx => ⟨s _ _ (G.lst x hx).1, (G.lst x hx).2⟩, G.nd⟩
/-- the bough of a group -/
def bghD (u lo hi : Int) (kids : List Int) : PyData := .tuple [.int u, .int lo, .int hi, .tuple (kids.map PyData.int)]
theorem bgh_ok {m u lo hi : Int} {kids : List Int} (u0 : 0 ≤ u) (ne : kids ≠ []) (r : rising m (kids.map PyData.int) u = true) (l0 : 0 ≤ lo) (l1 : lo ≤ hi) (h0 : 1 ≤ hi) (h1 : hi ≤ kids.length) : isBough m (bghD u lo hi kids) = true := by
  have u1 : u ≤ m - 1 := by
    cases hk : kids with
    | nil => exact absurd hk ne
    | cons n t =>
      rw [hk] at r
      have c' : (decide (u + 1 ≤ n) && decide (n ≤ m - 1) && rising m (t.map PyData.int) n) = true := r
      simp only [Bool.and_eq_true, decide_eq_true_eq] at c'
      omega
  show (within (.int u) 0 (m - 1) && (tupFull (.tuple (kids.map PyData.int)) && (rising m (kids.map PyData.int) u && (within (.int hi) 1 ((kids.map PyData.int).length : Nat) && within (.int lo) 0 hi)))) = true
  have e1 : within (.int u) 0 (m - 1) = true := by
    show (decide (0 ≤ u) && decide (u ≤ m - 1)) = true
    rw [decide_eq_true u0, decide_eq_true u1]
    rfl
  have e2 : tupFull (.tuple (kids.map PyData.int)) = true := by
    refine decide_eq_true ?_
    rw [List.length_map]
    exact List.length_pos_iff.mpr ne
  have e3 : within (.int hi) 1 ((kids.map PyData.int).length : Nat) = true := by
    show (decide (1 ≤ hi) && decide (hi ≤ ((kids.map PyData.int).length : Nat))) = true
    rw [List.length_map, decide_eq_true h0, decide_eq_true h1]
    rfl
  have e4 : within (.int lo) 0 hi = true := by
    show (decide (0 ≤ lo) && decide (lo ≤ hi)) = true
    rw [decide_eq_true l0, decide_eq_true l1]
    rfl
  rw [e1, e2, r, e3, e4]
  rfl
theorem flat_ints1 (kids : List Int) : (kids.map PyData.int).all (flatD 1) = true := by
  rw [List.all_eq_true]
  intro x hx
  obtain ⟨i, _, rfl⟩ := List.mem_map.mp hx
  rfl
theorem bgh_flat (u lo hi : Int) (kids : List Int) (h : kids.length ≤ 1000) : flatD 3 (bghD u lo hi kids) = true := by
  show (true && (true && (true && (true && ((decide ((kids.map PyData.int).length ≤ 1000) && (kids.map PyData.int).all (flatD 1)) && true))))) = true
  rw [flat_ints1, List.length_map, decide_eq_true h]
  rfl
theorem bgh_kids (u lo hi : Int) (kids : List Int) : kidsOf (bghD u lo hi kids) = kids := by
  show (kids.map PyData.int).map toI = kids
  rw [List.map_map]
  have : (toI ∘ PyData.int) = id := rfl
  rw [this, List.map_id]

end Ow

/-! ### Ties and sets: the mathematics -/
namespace Wd
inductive Tie where
  | bough (u : Nat) (lo hi : Int) (ks : List Nat)
  | needs (a b : Nat)
  | bans (a b : Nat)
  | most (top : Int) (ps : List (Nat × Int))
structure Tie.BoughOkW (m u : Nat) (lo hi : Int) (ks : List Nat) : Prop where
  um : u < m
  ks0 : ks ≠ []
  up : ∀ k ∈ ks, u < k ∧ k < m
  ris : ks.Pairwise (· < ·)
  few : ks.length ≤ m
  lo0 : 0 ≤ lo
  lohi : lo ≤ hi
structure Tie.BoughOk (m u : Nat) (lo hi : Int) (ks : List Nat) : Prop extends Tie.BoughOkW m u lo hi ks where
  hi1 : 1 ≤ hi
  hik : hi ≤ ks.length
def Tie.Ok (m : Nat) : Tie → Prop
  | .bough u lo hi ks => Tie.BoughOkW m u lo hi ks
  | .needs a b => a < m ∧ b < m ∧ a ≠ b
  | .bans a b => a < m ∧ b < m ∧ a ≠ b
  | .most _ ps => ps ≠ [] ∧ (∀ p ∈ ps, p.1 < m) ∧ (ps.map (·.1)).Pairwise (· < ·) ∧ ps.length ≤ m
/-- a set by a predicate -/
def maskL : List Nat → Nat
  | [] => 0
  | k :: r => maskL r ||| 2 ^ k
theorem maskL_bit (j : Nat) : ∀ l : List Nat, (maskL l).testBit j = decide (j ∈ l)
  | [] => by simp [maskL]
  | k :: r => by
    rw [maskL, Nat.testBit_or, maskL_bit j r, Nat.testBit_two_pow]
    by_cases h : k = j
    · subst h; simp
    · have h' : j ≠ k := fun z => h z.symm
      simp [h, h']
end Wd

set_option maxRecDepth 100000
set_option maxHeartbeats 4000000
/-! ### H. Ties as data -/
namespace Wd
open PySem L2
def pairD (p : Nat × Int) : PyData := .tuple [.int (p.1 : Int), .int p.2]
def Tie.toD : Tie → PyData
  | .bough u lo hi ks => .tuple [.int (u : Int), .int lo, .int hi, .tuple (ks.map fun k : Nat => PyData.int (k : Int))]
  | .needs a b => .tuple [.str ("needs" : Str), .int (a : Int), .int (b : Int)]
  | .bans a b => .tuple [.str ("bans" : Str), .int (a : Int), .int (b : Int)]
  | .most top ps => .tuple [.str ("most" : Str), .int top, .tuple (ps.map pairD)]
theorem rising_nats {m : Nat} : ∀ {ks : List PyData} {last : Int}, -1 ≤ last → last < m → rising m ks last = true →
    ∃ ns : List Nat, ks = ns.map (fun k : Nat => PyData.int (k : Int)) ∧ ns.Pairwise (· < ·) ∧ (∀ k ∈ ns, last < (k : Int) ∧ k < m) ∧ (ns.length : Int) + last + 1 ≤ m
  | [], last, h0, h1, _ => ⟨[], rfl, List.Pairwise.nil, (fun _ z => nomatch z), by simp; omega⟩
  | .int i :: ks, last, h0, h1, h => by
    have z : (decide (last + 1 ≤ i) && decide (i ≤ (m : Int) - 1) && rising m ks i) = true := h
    simp only [Bool.and_eq_true, decide_eq_true_eq] at z
    obtain ⟨ns, e, pw, ab, ln⟩ := rising_nats (by omega) (by omega) z.2
    obtain ⟨j, rfl⟩ : ∃ j : Nat, i = (j : Int) := ⟨i.toNat, by omega⟩
    refine ⟨j :: ns, by rw [e]; rfl, List.Pairwise.cons (fun k hk => ?_) pw, fun k hk => ?_, ?_⟩
    · have := (ab k hk).1; omega
    · rcases List.mem_cons.mp hk with rfl | hk
      · omega
      · have := ab k hk; omega
    · rw [List.length_cons]; omega
  | .none :: _, _, _, _, h => by cases h
  | .bool _ :: _, _, _, _, h => by cases h
  | .str _ :: _, _, _, _, h => by cases h
  | .list _ :: _, _, _, _, h => by cases h
  | .tuple _ :: _, _, _, _, h => by cases h
  | .dict _ :: _, _, _, _, h => by cases h
theorem tie_of_bough {m : Nat} {d : PyData} (h : isBough m d = true) : ∃ u lo hi ks, d = (Tie.bough u lo hi ks).toD ∧ Tie.BoughOk m u lo hi ks := by
  unfold isBough at h
  split at h
  next u l hd k =>
    simp only [Bool.and_eq_true] at h
    obtain ⟨hu, hk, hr, hh, hl⟩ := h
    obtain ⟨ui, rfl, u0, u1⟩ := within_int hu
    obtain ⟨kd, rfl, k0⟩ := tupFull_tup hk
    obtain ⟨hi, rfl, h0, h1⟩ := within_int (show within hd 1 kd.length = true from hh)
    obtain ⟨lo, rfl, l0, l1⟩ := within_int (show within l 0 hi = true from hl)
    obtain ⟨un, rfl⟩ : ∃ j : Nat, ui = (j : Int) := ⟨ui.toNat, by omega⟩
    obtain ⟨ns, rfl, pw, ab, ln⟩ := rising_nats (by omega) (by omega) (show rising m kd un = true from hr)
    rw [List.length_map] at k0 h1
    exact ⟨un, lo, hi, ns, rfl, ⟨⟨by omega, fun z => by rw [z] at k0; simp at k0, fun k hk => by have := ab k hk; omega, pw, by omega, l0, l1⟩, h0, h1⟩⟩
  next => cases h
theorem pairs_nats {m : Nat} : ∀ {ds : List PyData} {ns : List Nat}, ds.all pairOk = true → ds.map fstD = ns.map (fun k : Nat => PyData.int (k : Int)) → ∃ ps : List (Nat × Int), ds = ps.map pairD ∧ ps.map (·.1) = ns
  | [], [], _, _ => ⟨[], rfl, rfl⟩
  | [], _ :: _, _, e => by cases e
  | _ :: _, [], _, e => by cases e
  | d :: ds, n :: ns, h, e => by
    rw [List.all_cons, Bool.and_eq_true] at h
    rw [List.map_cons, List.map_cons] at e
    injection e with e1 e2
    obtain ⟨ps, rfl, rfl⟩ := pairs_nats (m := m) h.2 e2
    have h1 := h.1
    unfold pairOk at h1
    split at h1
    next x y =>
      obtain ⟨i, rfl⟩ := isW_int h1
      refine ⟨(n, i) :: ps, ?_, rfl⟩
      have e3 : x = PyData.int (n : Int) := e1
      rw [e3]
      rfl
    next => cases h1
theorem tie_of_cross {m : Nat} {d : PyData} (h : isTie m d = true) : ∃ t : Tie, d = t.toD ∧ t.Ok m ∧ ∀ u lo hi ks, t ≠ .bough u lo hi ks := by
  unfold isTie at h
  split at h
  next k x y =>
    unfold tieD at h
    split at h
    next s =>
      unfold tieK at h
      split at h
      next hs =>
        rw [Bool.and_eq_true] at h
        obtain ⟨top, rfl⟩ := isW_int h.1
        have h2 := h.2
        unfold arePairs at h2
        split at h2
        next ds =>
          simp only [Bool.and_eq_true, decide_eq_true_eq] at h2
          obtain ⟨⟨d0, dp⟩, dr⟩ := h2
          obtain ⟨ns, e, pw, ab, ln⟩ := rising_nats (by omega) (by omega) dr
          obtain ⟨ps, rfl, rfl⟩ := pairs_nats (m := m) dp e
          rw [List.length_map] at d0 ln
          refine ⟨.most top ps, by rw [hs]; rfl, ⟨fun z => by rw [z] at d0; simp at d0, fun p hp => (ab p.1 (List.mem_map.mpr ⟨p, hp, rfl⟩)).2, pw, by omega⟩, by intro _ _ _ _ z; cases z⟩
        next => cases h2
      next hs =>
        split at h
        next hn =>
          simp only [Bool.and_eq_true] at h
          obtain ⟨ha, hb, hne⟩ := h
          obtain ⟨a, rfl, a0, a1⟩ := within_int ha
          obtain ⟨b, rfl, b0, b1⟩ := within_int hb
          have ne : ¬ a = b := by
            have z : (!decide (a = b)) = true := hne
            simpa using z
          obtain ⟨an, rfl⟩ : ∃ j : Nat, a = (j : Int) := ⟨a.toNat, by omega⟩
          obtain ⟨bn, rfl⟩ : ∃ j : Nat, b = (j : Int) := ⟨b.toNat, by omega⟩
          rcases hn with rfl | rfl
          · exact ⟨.needs an bn, rfl, ⟨by omega, by omega, by omega⟩, by intro _ _ _ _ z; cases z⟩
          · exact ⟨.bans an bn, rfl, ⟨by omega, by omega, by omega⟩, by intro _ _ _ _ z; cases z⟩
        next => cases h
    next => cases h
  next => cases h
/-! what stands in the heap for a tie -/
/-! sets as ints -/
def hasV (n k : Int) : Bool := decide (0 ≤ k) && decide (n / 2 ^ k.toNat % 2 = 1)
theorem hasV_nat (s u : Nat) : hasV (s : Int) (u : Int) = s.testBit u := by
  unfold hasV
  rw [decide_eq_true (by omega), Bool.true_and, Nat.testBit_eq_decide_div_mod_eq, Int.toNat_natCast]
  have e : ((s : Int) / 2 ^ u % 2 = 1) ↔ (s / 2 ^ u % 2 = 1) := by
    have e3 : (2 : Int) ^ u = ((2 ^ u : Nat) : Int) := by rw [Int.natCast_pow]; rfl
    rw [e3]
    omega
  by_cases z : s / 2 ^ u % 2 = 1
  · rw [decide_eq_true z, decide_eq_true (e.mpr z)]
  · rw [decide_eq_false z, decide_eq_false (fun y => z (e.mp y))]
theorem bitI (n : Int) (k : Nat) : Builtin.bitAnd (n / 2 ^ k) 1 = n / 2 ^ k % 2 := PySem.W.kbt_mask (n / 2 ^ k) 1
end Wd

set_option maxRecDepth 100000
set_option maxHeartbeats 4000000
namespace L2
open PySem PySem.Spec PyProof.Rows
/-- the rest of a body, by a name -/
theorem cutS {X : Cx} {st : List Stmt} {t : TS} (h : PSs X st t) : ∃ t', PSs X st t' ∧ ∀ D σ H, t D σ H → t' D σ H := ⟨t, h, fun _ _ _ x => x⟩
section
variable {X : Cx} {o e : Expr} {es : List Expr} {to : TE} {t : TA} {name : Str} {apos cpos : Pos} {T id : String} {r : V → List V → Hp → VK → Prop}
/-- methods, with the fragment by its own name -/
theorem pe_bmK {K : PySem.W.Frag} (pa : PlainAttrs T) (slot : Slot T name id) (hty : typeOf (.builtin id) = pure (.type "method_descriptor")) (hm : MtR X id r) (ho : PE X o to) (ha : PA X (e :: es) t) (hK : X.K = K := by rfl)
    (hbase : attributeBase o name X.env (eval o X.env) = eval o X.env := by rfl)
    (hfew : ((backTo cpos (starEach (e :: es) X.env)).all (fun x => !x.1) && (backToKw cpos (keywordEach [] X.env)).all (fun x => x.1.isSome) && decide ((e :: es).length + ([] : List Keyword).length + (if ([] : List Keyword).isEmpty then 0 else 1) < 30)) = true := by rfl)
    (hline : (apos.endLine == cpos.line) = true := by rfl) (hs : starEach (e :: es) X.env = (false, eval e X.env) :: starEach es X.env := by rfl) (hplain : (backTo cpos (starEach es X.env)).any (·.1) = false := by rfl) :
    PE X (.Call (.Attribute o name apos) (e :: es) [] cpos) (tBM K T r to t) := hK ▸ pe_bm pa slot hty hm ho ha hbase hfew hline hs hplain
theorem pe_bm0K {K : PySem.W.Frag} (pa : PlainAttrs T) (slot : Slot T name id) (hty : typeOf (.builtin id) = pure (.type "method_descriptor")) (hm : MtR X id r) (ho : PE X o to) (hK : X.K = K := by rfl)
    (hbase : attributeBase o name X.env (eval o X.env) = eval o X.env := by rfl) (hline : (apos.endLine == cpos.line) = true := by rfl) : PE X (.Call (.Attribute o name apos) [] [] cpos) (tBM0 K T r to) := hK ▸ pe_bm0 pa slot hty hm ho hbase hline
end
end L2

set_option maxRecDepth 100000
set_option maxHeartbeats 4000000
namespace L2
open PySem PySem.Spec PyProof.Rows
theorem Room.lv {A : Around} {j k : Nat} (hr : Room k A) (h : j ≤ k := by first | decide | omega) : Room j A := hr.mono h
/-- a def of the text: what stands at its name, and how its parameters bind -/
structure Df (K : PySem.W.Frag) (mg : Str → Option Value) (x : Str) (st : Stmt) (f : Addr) (fd : FuncData) (ps : List Str) : Prop extends Fun K x x st f fd where
  g : mg x = some (.ref f)
  B : Binds K fd ps []
theorem pe_callD {X : Cx} {k : Nat} {f : Addr} {fd : FuncData} {ps : List Str} {sp : Sp} {x : Str} {p pos : Pos} {e : Expr} {es : List Expr} {t : TA} {st : Stmt} (F : FnOk X.prog X.w X.K X.mg X.base CX0 k f fd ps sp) (hr : Room k X.A) (hg : Gl X x) (D : Df X.K X.mg x st f fd ps)
    (ha : PA X (e :: es) t) (hdb : (x == ("__debug__" : Str)) = false := by decide) (he : starEach (e :: es) X.env = (false, eval e X.env) :: starEach es X.env := by rfl) (hpl : (backTo pos (starEach es X.env)).any (·.1) = false := by rfl) :
    PE X (.Call (.Name x p) (e :: es) [] pos) (tCall sp [] E0 t) := pe_call F hr hg D.g D.kp D.B .nil pass0 ha hdb he hpl
theorem scm {N P : List Str} {sc : Scope} (a : sc.kind = .function) (b : sc.isCoroutine = false) (c : sc.isGenerator = false) (e : N.take P.length = P) (h : (decide N.Nodup && (decide (∀ x ∈ P, sc.names.lookup x = some .local ∨ sc.names.lookup x = some .cell) && decide (∀ y ∈ sc.names, y.2 ≠ .free))) = true) : FnScope N P sc := by
  rw [Bool.and_eq_true, Bool.and_eq_true] at h
  exact ⟨a, b, c, of_decide_eq_true h.1, e, of_decide_eq_true h.2.1, of_decide_eq_true h.2.2⟩
/-- as it stands in the fragment -/
def Dk (K : PySem.W.Frag) (x : Str) (st : Stmt) (f : Addr) (fd : FuncData) : Prop := PySem.W.nsIn K mainGlobals x = some (some (.ref f)) ∧ Fun K x x st f fd
section
variable {K : PySem.W.Frag} {x q : Str} {st : Stmt} {f C : Addr} {oc : Value} {od an : Option Addr} {osl : Array (Option Value)} {kV doc pm cdv ct : Value}
theorem dk (a : PySem.W.nsIn K mainGlobals x = some (some (.ref f))) (l : K.lookup f = some ⟨oc, od, .func (PySem.W.fnOf x x (defArgs st) (defBody st) (defScope st) .none kV doc pm an cdv ct), osl⟩) (c : PySem.W.codeIn K cdv x = true) (k : PySem.W.keepIn K (.ref f) = true) :
    Dk K x st f (PySem.W.fnOf x x (defArgs st) (defBody st) (defScope st) .none kV doc pm an cdv ct) := ⟨a, fun_mk l c k⟩
/-- how arguments bind, told for any function of this text -/
abbrev Bd (x q : Str) (st : Stmt) (us : List Value) (ps : List Str) : Prop := ∀ (kV doc pm : Value) (an : Option Addr) (cdv ct : Value), bindArgs (PySem.W.fnOf x q (defArgs st) (defBody st) (defScope st) .none kV doc pm an cdv ct) ⟨us, []⟩ = pure (ps.zip us)
theorem Dk.df {h : Heap} {mg : Str → Option Value} {fd : FuncData} {ps : List Str} (X : K.In h) (G : h.Ns mainGlobals mg) (D : Dk K x st f fd) (b : ∀ us, us.length = ps.length → Bd x x st us ps) : Df K mg x st f fd ps :=
  ⟨D.2, PySem.W.mg_of X G D.1, D.2.binds fun kV doc pm an cdv ct us hl => b us hl kV doc pm an cdv ct⟩
theorem bd1 {p : List Str} (h : ∀ a, Bd x q st [a] p) : ∀ us : List Value, us.length = 1 → Bd x q st us p | [a], _ => h a
theorem bd2 {p : List Str} (h : ∀ a b, Bd x q st [a, b] p) : ∀ us : List Value, us.length = 2 → Bd x q st us p | [a, b], _ => h a b
theorem bd3 {p : List Str} (h : ∀ a b c, Bd x q st [a, b, c] p) : ∀ us : List Value, us.length = 3 → Bd x q st us p | [a, b, c], _ => h a b c
theorem law_b {fd : FuncData} {y : Str} (F : Fun K x q st f fd) (h : ∀ v, Bd x q st [v] [y]) (s : Shared) (v : Value) : BindsTo s fd ⟨[v], []⟩ [(y, v)] := by
  obtain ⟨oc, od, kV, doc, pm, an, cdv, ct, osl, rfl, lk, hcd⟩ := F.ex
  exact .of_eq (h v kV doc pm an cdv ct)
end
end L2

set_option maxRecDepth 100000
set_option maxHeartbeats 4000000
namespace L2
open PySem PySem.Spec PyProof.Rows
section
variable {X : Cx}
/-- a tuple of targets, with the text's heap named (for blocks) -/
theorem pgT {K : PySem.W.Frag} {pos : Pos} {es : List Expr} {k : Nat} {t : TGs} {n : Nat} (hc : X.calm = true) (h : PGs X es t) (hn : (assignEach es X.env).length = n := by rfl) (hst : (assignEach es X.env).findIdx? (·.1) = none := by rfl) (hK : X.K = K := by rfl) : PG X (.Tuple es k pos) (gTup K n t) := hK ▸ pg_tup hc h hn hst
end
end L2
namespace Wd
open PySem L2
def spLaw (K : PySem.W.Frag) : Sp := fun vs H Q _ => ∃ (p : Addr) (ns : List Int), vs = [.ref p] ∧ SqL K H p (ns.map V.int) ∧ ns.length ≤ 63 ∧ ∀ H', Q (.bl true) H'
theorem list_ties {P : Tie → Prop} : ∀ {l : List PyData}, (∀ d ∈ l, ∃ t : Tie, d = t.toD ∧ P t) → ∃ ts : List Tie, l = ts.map Tie.toD ∧ ∀ t ∈ ts, P t
  | [], _ => ⟨[], rfl, (fun _ z => nomatch z)⟩
  | d :: r, h => by
    obtain ⟨t, e, p⟩ := h d List.mem_cons_self
    obtain ⟨ts, e2, p2⟩ := list_ties fun x hx => h x (List.mem_cons_of_mem _ hx)
    refine ⟨t :: ts, by rw [e, e2]; rfl, fun x hx => ?_⟩
    rcases List.mem_cons.mp hx with rfl | z
    · exact p
    · exact p2 x z
theorem iteD {c A B : Prop} [Decidable c] (hc : c) (h : A) : if decide c = true then A else B := by
  rw [decide_eq_true hc]
  exact iteT h
theorem iteDN {c A B : Prop} [Decidable c] (hc : ¬ c) (h : B) : if decide c = true then A else B := by
  rw [decide_eq_false hc]
  exact iteF h
theorem iteB {b : Bool} {A B : Prop} (hc : b = true) (h : A) : if b = true then A else B := by
  rw [if_pos hc]; exact h
theorem iteBN {b : Bool} {A B : Prop} (hc : b = false) (h : B) : if b = true then A else B := by
  rw [hc]; exact iteF h
end Wd

set_option maxRecDepth 100000
set_option maxHeartbeats 4000000
/-! ### I. Woods by their ties -/
namespace Wd
open PySem L2 Ow
end Wd

/-! ### Bits: sums and differences of sets -/
namespace Wd
theorem maskL_lt {n : Nat} {l : List Nat} (h : ∀ k ∈ l, k < n) : maskL l < 2 ^ n := by
  refine Nat.lt_pow_two_of_testBit _ fun i hi => ?_
  rw [maskL_bit]
  exact decide_eq_false fun z => by have := h i z; omega
theorem filter_range_succ (p : Nat → Bool) (i : Nat) : (List.range (i + 1)).filter p = (List.range i).filter p ++ (if p i = true then [i] else []) := by
  rw [List.range_succ, List.filter_append]
  congr 1
  by_cases h : p i = true <;> simp [h]
/-! stands made finer -/
end Wd

set_option maxRecDepth 100000
set_option maxHeartbeats 4000000
/-! ### J. More forms of loops; bits of ints -/
namespace L2
open PySem
theorem lc_range0 {k : Nat} {σ0 : St} {H : Hp} {g : TG} {tc : TT} {te : TE} {Q : VK} (Pv : Nat → List V → St → Hp → Prop) (h0 : Pv 0 [] σ0 H) (hz : ∀ i ys σ H, i ≤ k → Pv i ys σ H → ys.length ≤ sizeLine)
    (hs : ∀ i ys σ H, i < k → Pv i ys σ H → g (.int (i : Int)) σ H fun σ3 H3 => tc σ3 H3 fun b H4 => if b = true then te σ3 H4 fun v H5 => Pv (i + 1) (ys ++ [v]) σ3 H5 else Pv (i + 1) ys σ3 H4)
    (hd : ∀ ys σ H, Pv k ys σ H → ∀ p, H p = none → Q (.ref p) (upd H p (.lst ys))) :
    lcGo (Itr 0 k) g tc te σ0 H Q :=
  lc_range (lo := 0) Pv h0 hz (fun i ys σ H hi p => by rw [Int.zero_add]; exact hs i ys σ H hi p) hd
theorem for_range0 {n : Nat} {g : TG} {tb : TS} {D : Ends} {σ : St} {H : Hp} (Pv : Nat → St → Hp → Prop) (h0 : Pv 0 σ H)
    (hs : ∀ i σ H, i < n → Pv i σ H → g (.int (i : Int)) σ H fun σ2 H2 => tb { D with nx := Pv (i + 1), ct := Pv (i + 1), bk := D.nx } σ2 H2) (hd : ∀ σ H, Pv n σ H → D.nx σ H) :
    ∃ W : Nat → Nat → St → Hp → Prop, (∃ m, W 0 m σ H) ∧ ∀ i m σ H, W i m σ H →
      ((Itr 0 n).stop i H ∧ D.nx σ H) ∨ ((Itr 0 n).go i H ∧ ∃ N : St → Hp → Prop, (∀ σ' H', N σ' H' → ∃ m', m' < m ∧ W (i + 1) m' σ' H') ∧ ∀ x H', (Itr 0 n).yld i H x H' → g x σ H' fun σ2 H2 => tb { D with nx := N, ct := N, bk := D.nx } σ2 H2) :=
  for_range (lo := 0) Pv h0 (fun i σ H hi p => by rw [Int.zero_add]; exact hs i σ H hi p) hd
end L2
namespace Wd
open PySem L2 Ow
theorem shl1 (k : Nat) : 1 * (2 : Int) ^ ((k : Nat) : Int).toNat = ((2 ^ k : Nat) : Int) := by
  rw [Int.one_mul, Int.toNat_natCast, Int.natCast_pow]
  rfl
theorem pow_pos2 (k : Nat) : 0 < 2 ^ k := Nat.pow_pos (by decide)
end Wd

set_option maxRecDepth 100000
set_option maxHeartbeats 4000000
/-! ### K. Ranges with a step -/
namespace L2
open PySem PySem.Spec PyProof.Rows
section
variable {X : Cx} {tg : Expr}
end
end L2
namespace Wd
open PySem L2
end Wd

set_option maxRecDepth 100000
set_option maxHeartbeats 4000000
/-! ### L. A pen that turns: a list of the script and a place -/
namespace Wd
open PySem L2 Ow
/-- all but the object at one address stays -/
def KpX (pen : Addr) (H H' : Hp) (b : Addr) : HO → Prop
  | .tbl _ => (∃ ps, H' b = some (.tbl ps)) ∧ (TabOk H b → (∃ ys, H pen = some (.lst ys)) → TabOk H' b ∧ ∃ ys, H' pen = some (.lst ys))
  | o => H' b = some o
/-- all but the pen is as it was; tables of code may have grown -/
def SameX (pen : Addr) (H H' : Hp) : Prop := ∀ b o, b ≠ pen → H b = some o → KpX pen H H' b o
theorem KpX.some {pen : Addr} {H H' : Hp} {b : Addr} {o : HO} (k : KpX pen H H' b o) : ∃ u, H' b = some u := by
  cases o
  case tbl ps => exact ⟨_, k.1.choose_spec⟩
  all_goals exact ⟨_, k⟩
theorem SameX.refl (pen : Addr) (H : Hp) : SameX pen H H := fun _ o _ h => by
  cases o
  case tbl ps => exact ⟨⟨_, h⟩, fun a b => ⟨a, b⟩⟩
  all_goals exact h
theorem SameX.trans {pen : Addr} {H H1 H2 : Hp} (a : SameX pen H H1) (b : SameX pen H1 H2) : SameX pen H H2 := fun c o n h => by
  have z := a c o n h
  cases o
  case tbl ps =>
    obtain ⟨⟨qs, hq⟩, k⟩ := z
    obtain ⟨q2, k2⟩ := b c _ n hq
    exact ⟨q2, fun t y => k2 (k t y).1 (k t y).2⟩
  all_goals exact b c _ n z
theorem Same.x {pen : Addr} {H H' : Hp} (s : Same H H') : SameX pen H H' := fun b o _ h => by
  have z := s b o h
  cases o
  case tbl ps => exact ⟨z.1, fun t ⟨ys, y⟩ => ⟨z.2 t, ys, s pen _ y⟩⟩
  all_goals exact z
theorem sameX_pen {pen : Addr} {H : Hp} (o : HO) (ho : ∃ ys, o = .lst ys := by exact ⟨_, rfl⟩) : SameX pen H (upd H pen o) := fun b u n h => by
  cases u
  case tbl ps =>
    refine ⟨⟨ps, by rw [upd_ne n]; exact h⟩, ?_⟩
    rintro ⟨qs, hq, tr, hp⟩ ⟨ys, hy⟩
    obtain ⟨zs, rfl⟩ := ho
    refine ⟨⟨qs, by rw [upd_ne n]; exact hq, tr, fun pos => ?_⟩, ⟨zs, upd_same⟩⟩
    rcases hp pos with z | ⟨c, z1, z2⟩
    · exact .inl z
    · refine .inr ⟨c, z1, ?_⟩
      rw [upd_ne fun z => by rw [z, hy] at z2; cases z2]
      exact z2
  all_goals (show upd H pen o b = _; rw [upd_ne n]; exact h)
/-- a list that is new is written -/
theorem Same.put {H H1 : Hp} {p : Addr} {xs : List V} {o : HO} (s : Same H H1) (n : H p = none) (e : H1 p = some (.lst xs)) : Same H (upd H1 p o) := fun b u hb => by
  have ne : b ≠ p := ne_of_none hb n
  have z := s b u hb
  cases u
  case tbl ps =>
    refine ⟨⟨z.1.choose, by rw [upd_ne ne]; exact z.1.choose_spec⟩, fun t => ?_⟩
    obtain ⟨qs, hq, tr, hp⟩ := z.2 t
    refine ⟨qs, by rw [upd_ne ne]; exact hq, tr, fun pos => ?_⟩
    rcases hp pos with y | ⟨c, y1, y2⟩
    · exact .inl y
    · refine .inr ⟨c, y1, ?_⟩
      rw [upd_ne fun z => by rw [z, e] at y2; cases y2]
      exact y2
  all_goals (show upd H1 p o b = _; rw [upd_ne ne]; exact z)
theorem SameX.put {pen : Addr} {H H1 : Hp} {p : Addr} {xs : List V} {o : HO} (s : SameX pen H H1) (n : H p = none) (np : p ≠ pen) (e : H1 p = some (.lst xs)) : SameX pen H (upd H1 p o) := fun b u nb hb => by
  have ne : b ≠ p := ne_of_none hb n
  have z := s b u nb hb
  cases u
  case tbl ps =>
    refine ⟨⟨z.1.choose, by rw [upd_ne ne]; exact z.1.choose_spec⟩, fun t y => ?_⟩
    obtain ⟨⟨qs, hq, tr, hp⟩, ys, hy⟩ := z.2 t y
    refine ⟨⟨qs, by rw [upd_ne ne]; exact hq, tr, fun pos => ?_⟩, ys, by rw [upd_ne (Ne.symm np)]; exact hy⟩
    rcases hp pos with y | ⟨c, y1, y2⟩
    · exact .inl y
    · refine .inr ⟨c, y1, ?_⟩
      rw [upd_ne fun z => by rw [z, e] at y2; cases y2]
      exact y2
  all_goals (show upd H1 p o b = _; rw [upd_ne ne]; exact z)
theorem SameX.free {pen l : Addr} {H H' : Hp} (s : SameX pen H H') (hp : ∃ o, H' pen = some o) (h : H' l = none) : H l = none := by
  cases q : H l with
  | none => rfl
  | some o =>
    obtain ⟨o', e⟩ := hp
    have n : l ≠ pen := fun z => by rw [z, e] at h; cases h
    obtain ⟨u, z⟩ := (s l o n q).some
    rw [z] at h
    cases h
structure Pen (K : PySem.W.Frag) (H : Hp) (pen sp : Addr) (ns : List Int) (k : Int) : Prop where
  at_ : H pen = some (.lst [.ref sp, .int k])
  len : ns.length ≤ 63
  scr : ∀ H', SameX pen H H' → SqL K H' sp (ns.map V.int)
theorem Pen.to {K : PySem.W.Frag} {H H' : Hp} {pen sp : Addr} {ns : List Int} {k k' : Int} (p : Pen K H pen sp ns k) (s : SameX pen H H') (e : H' pen = some (.lst [.ref sp, .int k'])) : Pen K H' pen sp ns k' :=
  ⟨e, p.len, fun H2 s2 => p.scr H2 (s.trans s2)⟩
/-- tuples of H stay in H' -/
def TupS (H H' : Hp) : Prop := ∀ b xs, H b = some (.tup xs) → H' b = some (.tup xs)
theorem SameX.tup {pen : Addr} {H H' : Hp} {ys : List V} (e : H pen = some (.lst ys)) (s : SameX pen H H') : TupS H H' := fun b xs h => s b _ (fun z => by rw [z, e] at h; cases h) h
theorem Dn.tupS {H H' : Hp} (t : TupS H H') {n : Nat} {d : PyData} {v : V} (f : flatD n d = true) (q : Dn H d v) : Dn H' d v := Dn.keepT t n d v f q
theorem DnL.tupS {H H' : Hp} (t : TupS H H') {n : Nat} {ds : List PyData} {vs : List V} (f : ds.all (flatD n) = true) (q : DnL H ds vs) : DnL H' ds vs := DnL.keepT (Dn.keepT t n) ds vs f q
def spNext (K : PySem.W.Frag) : Sp := fun vs H Q _ => ∃ (pen sp : Addr) (ns : List Int) (most k : Int), vs = [.ref pen, .int most] ∧ Pen K H pen sp ns k ∧ 0 ≤ k ∧ k ≤ 1000000 ∧ 0 < most ∧ ∀ c : Int, 0 ≤ c → c < most → Q (.int c) (L2.upd H pen (.lst [.ref sp, .int (k + 1)]))
/-- a wood laid as data -/
structure WoodX (H : Hp) (wd : Addr) (m : Nat) (bs cs : List PyData) : Prop where
  ex : ∃ xs ys, WoodAt H wd m xs ys ∧ DnL H bs xs ∧ DnL H cs ys
  gb : GoodB m bs
  gc : ∀ c ∈ cs, isTie m c = true
  b8 : bs.length ≤ 9
  c8 : cs.length ≤ 20
  fb : bs.all (flatD 3) = true
  fc : cs.all (flatD 3) = true
  m1 : 1 ≤ m
  m9 : m ≤ 9
theorem WoodX.tupS {H H' : Hp} {wd : Addr} {m : Nat} {bs cs : List PyData} (t : TupS H H') (h : WoodX H wd m bs cs) : WoodX H' wd m bs cs := by
  obtain ⟨xs, ys, ⟨tb, tc, h1, h2, h3⟩, db, dc⟩ := h.ex
  exact ⟨⟨xs, ys, ⟨tb, tc, t _ _ h1, t _ _ h2, t _ _ h3⟩, DnL.tupS t h.fb db, DnL.tupS t h.fc dc⟩, h.gb, h.gc, h.b8, h.c8, h.fb, h.fc, h.m1, h.m9⟩
theorem Same.tup {H H' : Hp} (s : Same H H') : TupS H H' := fun b xs h => s b _ h
theorem _root_.Ow.GAt.add2 {H0 H : Hp} {g l t : Addr} {gs : List Grp} {u k : Int} (G : GAt H0 H g gs) (hf : H0 l = none) (hl : H l = none) (ht : upd H l (.lst [.int k]) t = none) :
    GAt H0 (upd (upd (upd H l (.lst [.int k])) t (.tup [.int u, .ref l])) g (.lst ((gs.map fun x => V.ref x.t) ++ [.ref t]))) g (gs ++ [⟨t, u, l, [k]⟩]) := by
  have ngl : g ≠ l := ne_of_none G.at_ hl
  have s1 := same_new hl (.lst [.int k])
  have s2 := s1.trans (same_new ht (.tup [.int u, .ref l]))
  have ntl : t ≠ l := fun z => by rw [z, upd_same] at ht; cases ht
  have ngt : g ≠ t := ne_of_none (s1 _ _ G.at_) ht
  refine ⟨?_, G.new, fun x hx => ?_, fun x hx => ?_, ?_⟩
  · rw [upd_same, List.map_append]
    rfl
  · rcases List.mem_append.mp hx with z | z
    · rw [upd_ne (ne_of (G.tup x z) G.at_ (by intro q; cases q))]
      exact s2 _ _ (G.tup x z)
    · rw [List.mem_singleton.mp z]
      show L2.upd _ g _ t = _
      rw [upd_ne (Ne.symm ngt), upd_same]
  · rcases List.mem_append.mp hx with z | z
    · obtain ⟨a, b, c⟩ := G.lst x z
      refine ⟨?_, b, c⟩
      rw [upd_ne (Ne.symm c)]
      exact s2 _ _ a
    · rw [List.mem_singleton.mp z]
      refine ⟨?_, hf, ngl⟩
      show L2.upd _ g _ l = _
      rw [upd_ne (Ne.symm ngl), upd_ne (Ne.symm ntl), upd_same]
      rfl
  · rw [List.map_append]
    refine List.nodup_append.mpr ⟨G.nd, by simp, fun x hx y hy => ?_⟩
    obtain ⟨z, hz, rfl⟩ := List.mem_map.mp hx
    have e : y = l := by simpa using hy
    rw [e]
    exact ne_of_none (G.lst z hz).1 hl
/-- the groups stay when the pen turns -/
theorem _root_.Ow.GAt.pen {H0 H : Hp} {g pen : Addr} {gs : List Grp} {xs ys : List V} (G : GAt H0 H g gs) (h0 : ∃ o, H0 pen = some o) (h : H pen = some (.lst xs)) : GAt H0 (L2.upd H pen (.lst ys)) g gs := by
  obtain ⟨o, e0⟩ := h0
  refine ⟨?_, G.new, fun x hx => ?_, fun x hx => ?_, G.nd⟩
  · rw [upd_ne (fun z => by rw [← z, G.new] at e0; cases e0)]
    exact G.at_
  · rw [upd_ne (ne_of (G.tup x hx) h (by intro q; cases q))]
    exact G.tup x hx
  · obtain ⟨a, b, c⟩ := G.lst x hx
    refine ⟨?_, b, c⟩
    rw [upd_ne (fun z => by rw [← z, b] at e0; cases e0)]
    exact a
end Wd

/-! ### Trees of cases and first sets: the mathematics -/
namespace Wd
/-! first sets -/
/-! trees of cases -/
end Wd

set_option maxRecDepth 100000
set_option maxHeartbeats 4000000
/-! ### M. Tuples joined, woods by named ties, trees as data -/
namespace L2
open PySem PySem.Spec PyProof.Rows
section
variable {X : Cx}
end
end L2
namespace Wd
open PySem L2 Ow
abbrev natsL (l : List Nat) : List V := l.map fun k : Nat => V.int (k : Int)
end Wd

set_option maxRecDepth 100000
set_option maxHeartbeats 4000000
/-! ### N. min of a list, a list against [] -/
namespace L2
open PySem PySem.Spec PyProof.Rows
section
variable {X : Cx}
end
end L2
namespace Wd
open PySem L2 Ow
theorem scr_of {K : PySem.W.Frag} {H : Hp} {pen a : Addr} {xs : List V} {o : HO} (h : SqL K H a xs) (hp : H pen = none) : ∀ H', SameX pen (L2.upd H pen o) H' → SqL K H' a xs := fun H' s => by
  have keep : ∀ u, H a = some u → KpX pen (L2.upd H pen o) H' a u := fun u e => s a u (ne_of_none e hp) (by rw [upd_ne (ne_of_none e hp)]; exact e)
  rcases h with (h | ⟨u, h⟩) | h
  · exact .inl (.inl (keep _ h))
  · exact .inl (.inr ⟨u, keep _ h⟩)
  · exact .inr h
theorem pen_new {K : PySem.W.Frag} {H : Hp} {pen sp : Addr} {ns : List Int} (h : SqL K H sp (ns.map V.int)) (hl : ns.length ≤ 63) (hp : H pen = none) : Pen K (L2.upd H pen (.lst [.ref sp, .int 0])) pen sp ns 0 := ⟨upd_same, hl, scr_of h hp⟩
end Wd

set_option maxRecDepth 100000
set_option maxHeartbeats 4000000
/-! ### Comprehensions with cells of their own: an inner one reads their names -/
namespace L2
open PySem PySem.Spec PyProof.Rows
section
variable {X : Cx} {tg iter elt : Expr} {cs : List Expr} {sc sc0 : Scope} {pos : Pos} {wi : TI} {g : TG} {tc : TT} {te : TE} {XN N' : List Str} {n : Nat} {kp : List Nat}

theorem piL {K : PySem.W.Frag} {l : Expr} {tl : TE} (hl : PE X l tl) (h : X.K = K := by rfl) : PI X tg l (iList K tl) := h ▸ pi_list hl
theorem piT {K : PySem.W.Frag} {l : Expr} {tl : TE} (hl : PE X l tl) (h : X.K = K := by rfl) : PI X tg l (iTup K tl) := h ▸ pi_tup hl
end
end L2

set_option maxRecDepth 100000
set_option maxHeartbeats 4000000
/-! ### O. What each tie's sets are, told in lists; bars -/
namespace Wd
open PySem L2 Ow
end Wd

set_option maxRecDepth 100000
set_option maxHeartbeats 4000000
/-! ### P. Ties left out; ties broken in every set of a stand, told by lists; trees of cases told so -/
namespace Wd
open PySem L2 Ow
end Wd

set_option maxRecDepth 100000
set_option maxHeartbeats 4000000
namespace L2
open PySem PySem.Spec PyProof.Rows

/-! ### lambdas -/
section
variable {X : Cx} {params : Arguments} {body : Expr} {scope : Scope} {pos : Pos} {c P : Addr}
end
/-! ### a call with a base that holds all that is untracked now -/
section
variable {X : Cx} {pins : List (Addr × Obj)} {σ : St} {H : Hp} {s : Shared}
end
section
variable {X : Cx} {k : Nat} {f : Addr} {fd : FuncData} {ps : List Str} {x : Str} {p pos : Pos} {e : Expr} {es : List Expr} {t : TA}
end

/-! ### a lambda keeps its promise -/
/-! ### a def that makes lambdas: its code object is known -/
/-! ### the head of a law that comes to lambdas: the tables of their defs are tracked -/
end L2

set_option maxRecDepth 100000
set_option maxHeartbeats 4000000
namespace Wd
open PySem L2 Ow
theorem iteC {b : Bool} {A B : Prop} (hb : b = true) (h : A) : if b = true then A else B := by
  rw [if_pos hb]
  exact h
theorem iteCN {b : Bool} {A B : Prop} (hb : b = false) (h : B) : if b = true then A else B := by
  rw [if_neg (by rw [hb]; simp)]
  exact h
/-! ### trees told with leaves of a function -/
section
variable {ts : List Tie} {il : List Nat} {m f y n : Nat} {leaf : Nat → Nat → Option PyData}
end
end Wd

set_option maxRecDepth 100000
set_option maxHeartbeats 4000000
namespace L2
open PySem PySem.Spec PyProof.Rows

/-! ### zip of two tuples -/
section
variable {prog : Program} {w : World} {A : Around} {E : Value → Shared → Prop} {s : Shared}
end
theorem zip_apart (n ca cb : Nat) (la : ca < n) (lb : cb < n) : ZipApart (n + 4) (n + 2) (n + 3) n (n + 1) ca cb :=
  have g : ∀ {i j : Nat}, i < j → i ≠ j := fun h => Nat.ne_of_lt h
  have u : ∀ {i j : Nat}, j < i → i ≠ j := fun h => Nat.ne_of_gt h
  ⟨g (by omega), g (by omega), g (by omega), g (by omega), g (by omega), u (by omega), u (by omega), u (by omega), u (by omega), g (by omega), g (by omega), g (by omega), g (by omega), g (by omega), g (by omega), g (by omega), g (by omega), g (by omega)⟩
end L2
namespace Wd
open PySem L2 Ow
end Wd

set_option maxRecDepth 100000
set_option maxHeartbeats 4000000
namespace Wd
open PySem L2 Ow
/-! ### the wares of a wood, in their order -/
end Wd

set_option maxHeartbeats 4000000
namespace Srt
open PySem PyProof PyProof.Rows

section
variable {prog : Program} {w : World} {A : Around} {E : Value → Shared → Prop} {s : Shared}

end
end Srt

set_option maxHeartbeats 4000000
namespace Srt
open PySem PyProof PyProof.Rows

section
variable {prog : Program} {w : World} {A : Around} {E : Value → Shared → Prop} {s : Shared}
end
end Srt

set_option maxHeartbeats 4000000
namespace Srt
open PySem PyProof PyProof.Rows

section
variable {prog : Program} {w : World} {A : Around} {E : Value → Shared → Prop} {s : Shared}

end
end Srt

set_option maxHeartbeats 4000000
namespace Srt
open PySem PyProof PyProof.Rows

section
variable {prog : Program} {w : World} {A : Around} {E : Value → Shared → Prop} {s : Shared}

end
end Srt

set_option maxHeartbeats 4000000
namespace Srt
open PySem PyProof PyProof.Rows

section
variable {prog : Program} {w : World} {A : Around} {E : Value → Shared → Prop} {s : Shared}

end
end Srt

set_option maxHeartbeats 4000000
namespace Srt
open PySem PyProof PyProof.Rows

section
variable {prog : Program} {w : World} {A : Around} {E : Value → Shared → Prop} {s : Shared} {a₀ : Array Keyed}

end
end Srt

set_option maxHeartbeats 4000000
namespace Srt
open PySem PyProof PyProof.Rows

section
variable {prog : Program} {w : World} {A : Around} {E : Value → Shared → Prop} {s : Shared} {a₀ : Array Keyed}

end
end Srt

set_option maxHeartbeats 4000000
set_option maxRecDepth 100000
namespace Srt
open PySem PyProof PyProof.Rows
section
variable {prog : Program} {w : World} {A : Around} {E : Value → Shared → Prop} {s : Shared}

end
end Srt
namespace L2
open PySem PySem.Spec PyProof.Rows
variable {X : Cx}
end L2

set_option maxRecDepth 100000
set_option maxHeartbeats 4000000
namespace Wd
open PySem L2 Ow
/-! ### sets counted by how many of some options they have, weighed -/
structure Bg where
  u : Nat
  lo : Int
  hi : Int
  ks : List Nat
def Bg.tie (b : Bg) : Tie := .bough b.u b.lo b.hi b.ks
/-! ### all sets of some options -/
/-! ### boughs taken one by one -/
end Wd

set_option maxRecDepth 100000
set_option maxHeartbeats 4000000
namespace L2
open PySem PySem.Spec PyProof.Rows

/-! ### zip of two lists -/
end L2

set_option maxRecDepth 100000
set_option maxHeartbeats 4000000
namespace Wd
open PySem L2 Ow
/-! ### the boughs in the order in which they are taken -/
/-! ### all sets, by their numbers -/
end Wd

set_option maxRecDepth 100000
set_option maxHeartbeats 4000000
namespace L2
open PySem PySem.Spec PyProof.Rows
/-! ### set(l) of a list of unlike whole numbers, and how many it has -/
section
variable {X : Cx}
end
end L2

set_option maxRecDepth 100000
set_option maxHeartbeats 4000000
namespace Wd
open PySem L2 Ow
theorem bgs_of {m : Nat} : ∀ {bs : List PyData}, (∀ b ∈ bs, isBough m b = true) → ∃ L : List Bg, bs = L.map (fun b => b.tie.toD) ∧ ∀ b ∈ L, Tie.BoughOk m b.u b.lo b.hi b.ks
  | [], _ => ⟨[], rfl, fun _ h => nomatch h⟩
  | b :: bs, h => by
    obtain ⟨u, lo, hi, ks, e, ok⟩ := tie_of_bough (h b List.mem_cons_self)
    obtain ⟨L, e2, ok2⟩ := bgs_of fun x hx => h x (List.mem_cons_of_mem _ hx)
    refine ⟨⟨u, lo, hi, ks⟩ :: L, ?_, fun x hx => ?_⟩
    · rw [e, e2]; rfl
    · rcases List.mem_cons.mp hx with rfl | hx
      · exact ok
      · exact ok2 x hx
theorem natsL_app (A B : List Nat) : natsL (A ++ B) = natsL A ++ natsL B := List.map_append
end Wd
namespace Wd
open PySem L2 Ow
/-! ### choices by the bits of a number -/
end Wd
namespace Wd
open PySem L2 Ow
end Wd

set_option maxRecDepth 100000
set_option maxHeartbeats 4000000
namespace L2
open PySem PySem.Spec PyProof.Rows
/-! ### a, b = a list -/
section
variable {prog : Program} {w : World} {A : Around} {E : Value → Shared → Prop} {s : Shared}
end
section
variable {X : Cx} {pos : Pos}
end
section
variable {X : Cx}
/-! ### list.insert at a place within -/
def rInsert : V → List V → Hp → VK → Prop := fun x vs H Q => ∃ (l : Addr) (xs : List V) (i : Int) (y : V), x = .ref l ∧ vs = [.int i, y] ∧ H l = some (.lst xs) ∧ 0 ≤ i ∧ i ≤ xs.length ∧ xs.length < sizeLine ∧ Q .non (upd H l (.lst (xs.take i.toNat ++ y :: xs.drop i.toNat)))
theorem mt_insert : MtM X "list.insert" rInsert := by
  intro pins s σ H x vs v us Q I rx rv h
  obtain ⟨l, xs, i, y, rfl, rfl, hH, h0, hk, hz, q⟩ := h
  cases rx
  obtain ⟨u1, us1, rfl, r1, rr⟩ : ∃ u1 us1, us = u1 :: us1 ∧ RelV (.int i) u1 ∧ Vals [y] us1 := by
    cases rv with
    | cons a b => exact ⟨_, _, rfl, a, b⟩
  obtain ⟨u2, rfl, ru⟩ := rr.one
  obtain ⟨t, rfl⟩ := r1
  obtain ⟨z, its, n, r, hl, e⟩ := I.lstM hH
  have hsz : its.toArray.size ≤ sizeLine := by rw [List.size_toArray, ← hl]; exact z
  have b1 : -(2 ^ 63) ≤ i := Int.le_trans (by decide) h0
  have b2 : i < 2 ^ 63 := by
    have h63 : ((xs.length : Nat) : Int) < ((2 ^ 63 : Nat) : Int) := Int.ofNat_lt.mpr (Nat.lt_of_le_of_lt z line63)
    exact Int.lt_of_le_of_lt hk h63
  have fit : ¬ (!Builtin.List.listFitsIndex i) = true := by
    rw [fitsIndex_both b1 b2]
    exact Bool.false_ne_true
  refine call_meets F.slot_list_insert ⟨_, e, rfl⟩ F.entry_list_insert (F.args_list_insert_3 _ _ _) (AutoListH.list_insert_list_int_val_1 l its.toArray n i t u2 fit hsz) ⟨e, ?_⟩
  have r2 : Vals (xs.take i.toNat ++ y :: xs.drop i.toNat) (its.take i.toNat ++ u2 :: its.drop i.toNat) := (r.take i.toNat).append (.cons ru (r.drop i.toNat))
  refine ⟨.non, _, I.lset (its' := its.take i.toNat ++ u2 :: its.drop i.toNat) hH e ?_ r2 ?_, rfl, q⟩
  · have hn : ¬ (i < 0) := Int.not_lt.mpr h0
    have hm : i.toNat ≤ its.length := by omega
    simp [hn, Nat.min_eq_left hm]
    exact List.take_of_length_le (by rw [List.length_drop]; exact Nat.le_refl _)
  · rw [List.length_append, List.length_cons, List.length_take, List.length_drop]
    omega
end
end L2

set_option maxRecDepth 100000
set_option maxHeartbeats 4000000
namespace Wd
open PySem L2 Ow
/-! ### woods drawn by a state (the laws from k50 on) -/
/-- the boughs drawn: a list of data -/
def spBoughsP (K : PySem.W.Frag) : Sp := fun vs H Q _ => ∃ (pen sp : Addr) (ns : List Int) (m : Nat) (k : Int), vs = [.ref pen, .int (m : Int)] ∧ Pen K H pen sp ns k ∧ 0 ≤ k ∧ k ≤ 900000 ∧ 1 ≤ m ∧ m ≤ 9 ∧
  ∀ (l : Addr) (bs : List PyData) (xs : List V) (k' : Int) (H' : Hp), SameX pen H H' → H' pen = some (.lst [.ref sp, .int k']) → k ≤ k' → k' ≤ k + 80 → H' l = some (.lst xs) → H l = none → DnL H' bs xs → GoodB m bs → bs.length ≤ 8 → bs.all (flatD 3) = true → Q (.ref l) H'
end Wd

set_option maxRecDepth 100000
set_option maxHeartbeats 4000000
namespace Wd
open PySem L2 Ow
theorem _root_.Ow.GAt.ins {H0 H : Hp} {g l t : Addr} {pre post : List Grp} {u k : Int} (G : GAt H0 H g (pre ++ post)) (hf : H0 l = none) (hl : H l = none) (ht : upd H l (.lst [.int k]) t = none) :
    GAt H0 (upd (upd (upd H l (.lst [.int k])) t (.tup [.int u, .ref l])) g (.lst ((pre.map fun x => V.ref x.t) ++ V.ref t :: (post.map fun x => V.ref x.t)))) g (pre ++ ⟨t, u, l, [k]⟩ :: post) := by
  have A := GAt.add2 (u := u) (k := k) G hf hl ht
  have mem : ∀ x, x ∈ pre ++ ⟨t, u, l, [k]⟩ :: post ↔ x ∈ (pre ++ post) ++ [⟨t, u, l, [k]⟩] := fun x => by
    simp only [List.mem_append, List.mem_cons, List.not_mem_nil, or_false]
    constructor
    · rintro (h | h | h)
      · exact .inl (.inl h)
      · exact .inr h
      · exact .inl (.inr h)
    · rintro ((h | h) | h)
      · exact .inl h
      · exact .inr (.inr h)
      · exact .inr (.inl h)
  have other : ∀ (o o' : HO) (b : Addr), b ≠ g → (upd (upd (upd H l (.lst [.int k])) t (.tup [.int u, .ref l])) g o) b = (upd (upd (upd H l (.lst [.int k])) t (.tup [.int u, .ref l])) g o') b := fun o o' b n => by rw [upd_ne n, upd_ne n]
  refine ⟨?_, A.new, fun x hx => ?_, fun x hx => ?_, ?_⟩
  · rw [upd_same, List.map_append]
    rfl
  · have h := A.tup x ((mem x).mp hx)
    have n : x.t ≠ g := fun z => by rw [z, upd_same] at h; cases h
    rw [other _ _ _ n]
    exact h
  · have h := A.lst x ((mem x).mp hx)
    refine ⟨?_, h.2⟩
    rw [other _ _ _ (Ne.symm h.2.2)]
    exact h.1
  · have p : (pre ++ (⟨t, u, l, [k]⟩ : Grp) :: post).Perm ((pre ++ post) ++ [⟨t, u, l, [k]⟩]) := by
      rw [List.append_assoc]
      exact List.Perm.append_left _ (List.perm_append_singleton _ _).symm
    exact ((p.map (·.l)).nodup_iff).mpr A.nd
theorem _root_.Ow.GOk.ins {k : Nat} {pre post : List Grp} {t l : Addr} {u : Int} (G : GOk ((k : Int) + 1) (pre ++ post)) (u0 : 0 ≤ u) (u1 : u < (k : Int) + 1) : GOk ((k : Int) + 2) (pre ++ ⟨t, u, l, [(k : Int) + 1]⟩ :: post) := by
  have A := GOk.new (t := t) (l := l) G u0 u1
  have p : (pre ++ (⟨t, u, l, [(k : Int) + 1]⟩ : Grp) :: post).Perm ((pre ++ post) ++ [⟨t, u, l, [(k : Int) + 1]⟩]) := by
    rw [List.append_assoc]
    exact List.Perm.append_left _ (List.perm_append_singleton _ _).symm
  exact ⟨fun x hx => A.each x (p.mem_iff.mp hx), (List.Perm.flatMap_right _ p).trans A.perm⟩
end Wd

set_option maxRecDepth 100000
set_option maxHeartbeats 4000000
namespace HT
open PySem PySem.Spec PyProof.Rows
section
variable {prog : Program} {w : World} {A : Around} {E : Value → Shared → Prop} {s : Shared}
end
end HT
namespace HT
open PySem PySem.Spec PyProof.Rows
section
variable {prog : Program} {w : World} {A : Around} {E : Value → Shared → Prop} {s : Shared}
end
end HT
namespace L2
open PySem PySem.Spec PyProof.Rows
section
variable {X : Cx} {e st : Expr} {te tst : TE} {pos p2 : Pos}
/-- data against data -/
theorem op_eq_data (hu : X.A.units + 64 < cLine) : OpR X (compareOp .Eq) (fun x y H Q => ∃ d e : PyData, Dn H d x ∧ Dn H e y ∧ SeqAt.shaped d = true ∧ SeqAt.shaped e = true ∧ Q (.bl (PyData.eqv d e)) H) := by
  intro pins s σ H x y v u Q I rx ry h
  obtain ⟨d, e, hd, he, sd, se, q⟩ := h
  obtain ⟨as, ra⟩ := Dn.reads I d x v hd (SeqAt.canLay_of_shaped sd) rx
  obtain ⟨bs, rb⟩ := Dn.reads I e y u he (SeqAt.canLay_of_shaped se) ry
  exact SeqAt.compareEq_shaped ra rb sd se hu ⟨.bl _, H, I, rfl, q⟩
end
end L2
namespace L2
open PySem PySem.Spec PyProof.Rows
section
variable {X : Cx}
end
end L2
namespace Wd
open PySem L2 Ow
mutual
theorem flat_lay : ∀ (n : Nat) (d : PyData), flatD n d = true → PyData.canLay0 d = true ∧ PyData.depth d ≤ n + 1
  | _, .int i, _ => ⟨by simp [PyData.canLay0], by simp only [PyData.depth]; omega⟩
  | n, .str s, h => ⟨by cases n <;> simpa [PyData.canLay0] using (show PyData.strOk s = true from h), by simp only [PyData.depth]; omega⟩
  | n + 1, .tuple ds, h => by
    have z : (decide (ds.length ≤ 1000) && ds.all (flatD n)) = true := h
    rw [Bool.and_eq_true] at z
    obtain ⟨a, b⟩ := flat_layAll n ds z.2
    exact ⟨by simpa [PyData.canLay0] using a, by simp only [PyData.depth]; omega⟩
  | 0, .tuple _, h => by cases h
  | 0, .none, h => by cases h
  | n + 1, .none, h => by cases h
  | 0, .bool _, h => by cases h
  | n + 1, .bool _, h => by cases h
  | 0, .list _, h => by cases h
  | n + 1, .list _, h => by cases h
  | 0, .dict _, h => by cases h
  | n + 1, .dict _, h => by cases h
theorem flat_layAll : ∀ (n : Nat) (ds : List PyData), ds.all (flatD n) = true → PyData.canLayAll0 ds = true ∧ PyData.depthAll ds ≤ n + 1
  | _, [], _ => ⟨by simp [PyData.canLayAll0], by simp only [PyData.depthAll]; omega⟩
  | n, d :: ds, h => by
    rw [List.all_cons, Bool.and_eq_true] at h
    obtain ⟨a1, b1⟩ := flat_lay n d h.1
    obtain ⟨a2, b2⟩ := flat_layAll n ds h.2
    exact ⟨by simp [PyData.canLayAll0, a1, a2], by simp only [PyData.depthAll]; omega⟩
end
end Wd

set_option maxRecDepth 100000
set_option maxHeartbeats 4000000
namespace Wd
open PySem L2 Ow
/-! ### which ties a set breaks -/
end Wd

set_option maxRecDepth 100000
set_option maxHeartbeats 4000000
namespace Wd
open PySem L2 Ow
end Wd

set_option maxRecDepth 100000
set_option maxHeartbeats 4000000
namespace Wd
open PySem L2 Ow
/-! ### the sets of a stand, one by one -/
end Wd

set_option maxRecDepth 100000
set_option maxHeartbeats 4000000
namespace L2
open PySem PySem.Spec PyProof.Rows

/-! ### lists of pairs as tables -/
section
variable {κ : Type} [DecidableEq κ]
end


/-! ### a tracked dict, its keys ints and texts or tuples of these -/
section
variable {P : Program} {w : World} {H : Hp} {h : Heap} {a : Addr}
end

section
variable {X : Cx} {pins : List (Addr × Obj)} {σ : St} {H : Hp} {s : Shared} {a : Addr} {y v : V} {u r : Value} {o : Option V} {A : Around} {E : Value → Shared → Prop}

end

section
variable {X : Cx} {pins : List (Addr × Obj)} {σ : St} {H : Hp} {s : Shared} {a : Addr} {kvs : List (Key × V)} {k : Key} {u : Value} {A : Around} {E : Value → Shared → Prop}
end


/-! ### readings and rules -/
section
variable {X : Cx} {o i e value : Expr} {pos pos' tpos : Pos} {td ty tv : TE}
end


/-! ### displays -/
section
variable {X : Cx} {pos : Pos}
end

/-! ### methods -/
section
variable {X : Cx} {pins : List (Addr × Obj)} {σ : St} {H : Hp} {s : Shared} {a : Addr} {y d : V} {u r : Value} {o : Option V} {A : Around} {E : Value → Shared → Prop}
end

section
variable {X : Cx} {o e f : Expr} {apos cpos : Pos} {td ty tx : TE}
end

/-! ### dict(d): a copy -/
section
variable {X : Cx} {pins : List (Addr × Obj)} {σ : St} {H : Hp} {s : Shared} {a : Addr} {kvs : List (Key × V)} {A : Around} {E : Value → Shared → Prop}
end


section
variable {X : Cx} {pins : List (Addr × Obj)} {σ : St} {H : Hp} {s : Shared} {a : Addr} {y : V} {u : Value} {A : Around} {E : Value → Shared → Prop}
end
end L2
namespace L2
open PySem PySem.Spec PyProof.Rows
section
variable {X : Cx}
end

/-! ### a dict's pairs: keys that differ -/
section
variable {κ : Type} [DecidableEq κ]
end
end L2

set_option maxRecDepth 100000
set_option maxHeartbeats 4000000
namespace L2
open PySem PySem.Spec
/-- PE as a word that the elaborator doesn't unfold (a display's run is long) -/
@[irreducible] def PEi (X : Cx) (e : Expr) (t : TE) : Prop := PE X e t
theorem PEi.of {X : Cx} {e : Expr} {t : TE} (h : PE X e t) : PEi X e t := by unfold PEi; exact h
theorem PEi.pe {X : Cx} {e : Expr} {t : TE} (h : PEi X e t) : PE X e t := by unfold PEi at h; exact h
@[irreducible] def PSi (X : Cx) (e : Stmt) (t : TS) : Prop := PS X e t
theorem PSi.of {X : Cx} {e : Stmt} {t : TS} (h : PS X e t) : PSi X e t := by unfold PSi; exact h
theorem PSi.ps {X : Cx} {e : Stmt} {t : TS} (h : PSi X e t) : PS X e t := by unfold PSi at h; exact h
@[irreducible] def PLi (X : Cx) (l : List Stmt) (t : TS) : Prop := PSs X l t
theorem PLi.of {X : Cx} {l : List Stmt} {t : TS} (h : PSs X l t) : PLi X l t := by unfold PLi; exact h
theorem PLi.pss {X : Cx} {l : List Stmt} {t : TS} (h : PLi X l t) : PSs X l t := by unfold PLi at h; exact h
theorem pli_cons {X : Cx} {s : Stmt} {r : List Stmt} {ts tr : TS} (h1 : PSi X s ts) (h2 : PLi X r tr) : PLi X (s :: r) (tSeq ts tr) := .of (pss_cons h1.ps h2.pss)
theorem pli_one {X : Cx} {s : Stmt} {ts : TS} (h : PSi X s ts) : PLi X [s] ts := .of (pss_one h.ps)
theorem ps_setI {X : Cx} {i : Nat} {x : Str} {e : Expr} {te : TE} {pos pos' : Pos} (hN : X.N.Nodup) (hi : X.N[i]? = some x) (hx : Loc X.env.scope x) (he : PEi X e te) (hs : swapsWith e (some (.Name x pos')) pos.line X.env = pure false := by rfl) (hf : X.fn x = true ∨ X.env.scope.names.lookup x = some .local := by first | exact .inl rfl | exact .inr rfl | assumption) :
    PSi X (.Assign [.Name x pos'] e pos) (tAsg te (gName i)) := .of (ps_set hN hi hx he.pe hs hf)
end L2
namespace Wd
open PySem L2 Ow
end Wd

set_option maxRecDepth 100000
set_option maxHeartbeats 4000000
namespace Wd
open PySem L2 Ow
end Wd

set_option maxRecDepth 100000
set_option maxHeartbeats 4000000
namespace L2
open PySem PySem.Spec PyProof.Rows
end L2
namespace Wd
open PySem L2 Ow
/-! ### trees that are looked at -/
end Wd

set_option maxRecDepth 100000
set_option maxHeartbeats 4000000
namespace Wd
open PySem L2 Ow
section
variable {t1 t2 : List Tie} {m f y n : Nat}
end
end Wd

set_option maxRecDepth 100000
set_option maxHeartbeats 4000000
namespace L2
open PySem PySem.Spec PyProof.Rows
end L2
namespace Wd
open PySem L2 Ow
/-! ### trees of one wood within another that are looked at -/
theorem tupS_trans {H H1 H2 : Hp} (a : TupS H H1) (b : TupS H1 H2) : TupS H H2 := fun c xs h => b c xs (a c xs h)
end Wd

set_option maxRecDepth 100000
set_option maxHeartbeats 4000000
namespace L2
open PySem PySem.Spec PyProof.Rows
/-! ### own exceptions: their classes -/
/-! ### what stays when an exception passes: all but the frames that run -/
section
variable {X : Cx} {pins : List (Addr × Obj)} {σ : St} {H H' : Hp} {s s' : Shared} {h2 : Heap}
end
/-! ### how an exception lies behind a call -/
/-! ### try .. except C as n -/
section
variable {X : Cx} {pins : List (Addr × Obj)} {σ : St} {H H' : Hp} {s s' : Shared} {h2 : Heap}
end
end L2

set_option maxRecDepth 100000
set_option maxHeartbeats 4000000
namespace L2
open PySem PySem.Spec PyProof.Rows
/-! ### isinstance of an own exception -/
section
variable {prog : Program} {w : World} {A : Around} {E : Value → Shared → Prop} {h : Heap} {g : Array GenState} {d : Drawn} {t : Nat} {os : OsState} {a D : Addr} {o : Obj} {K : PySem.W.Frag} {bD : List Value}
end
end L2
namespace Wd
open PySem L2 Ow
end Wd

set_option maxRecDepth 100000
set_option maxHeartbeats 4000000
namespace Wd
open PySem L2 Ow
/-! ### what lies beneath an option -/
/-! ### how it is found: turn by turn -/
end Wd

set_option maxRecDepth 100000
set_option maxHeartbeats 4000000
namespace L2
open PySem PySem.Spec PyProof.Rows
end L2

set_option maxRecDepth 100000
set_option maxHeartbeats 4000000
namespace L2
open PySem PySem.Spec PyProof.Rows
/-! ### lambdas that an exception may leave -/
section
variable {X : Cx} {k : Nat} {f : Addr} {fd : FuncData} {ps : List Str} {x : Str} {p pos : Pos} {e : Expr} {es : List Expr} {t : TA}
end
end L2

set_option maxRecDepth 100000
set_option maxHeartbeats 4000000
namespace Wd
open PySem L2 Ow
/-! ### asked, and what is heard -/
end Wd

set_option maxRecDepth 100000
set_option maxHeartbeats 4000000
namespace Ow
open PySem
end Ow
namespace Wd
open PySem L2 Ow
/-! ### picks, and the stand that they tell -/
theorem tupS_put {H : Hp} {a : Addr} {o o' : HO} (h : H a = some o) (no : ∀ xs, o ≠ .tup xs) : TupS H (upd H a o') := fun b xs hb => by
  have n : b ≠ a := fun z => by
    rw [z, h] at hb
    exact no xs (Option.some.inj hb)
  rw [upd_ne n]
  exact hb
/-! ### a ware chosen option by option -/
/-! ### one wood within another, by their wares -/
end Wd

set_option maxRecDepth 100000
set_option maxHeartbeats 4000000
namespace L2
open PySem PySem.Spec PyProof.Rows
end L2
namespace Wd
open PySem L2 Ow
end Wd

set_option maxRecDepth 100000
set_option maxHeartbeats 4000000
namespace Wd
open PySem L2 Ow
/-! ### picks taken back -/
end Wd

set_option maxRecDepth 100000
set_option maxHeartbeats 4000000
namespace L2
open PySem PySem.Spec PyProof.Rows
/-! ### in, of a list of data -/
end L2
namespace Wd
open PySem L2 Ow
/-! ### the sets that a stand and ties let in -/
/-! ### picks of a ware, in any order -/
/-! ### orders of options -/
/-! ### boughs alone always have a ware -/
/-! ### picks taken back one by one -/
end Wd

set_option maxRecDepth 100000
set_option maxHeartbeats 4000000
namespace Wd
open PySem L2 Ow
/-! ### picks that a choice may hold -/
/-! ### what is offered, told option by option -/
/-! ### what a lambda closes over -/
/-! ### deeds that are refused -/
/-! ### picks, where only a pen or a choice is written -/
end Wd

set_option maxRecDepth 100000
set_option maxHeartbeats 4000000
namespace L2
open PySem PySem.Spec
theorem tupOfK {X : Cx} {K : PySem.W.Frag} (h : X.K = K := by rfl) : CallR X (.type "tuple") (fun xs H Q => ∃ p ys, xs = [V.ref p] ∧ ((SqL K H p ys ∧ ∀ l, H l = none → Q (.ref l) (upd H l (.tup ys))) ∨ SqT K H p ys ∧ Q (.ref p) H)) := h ▸ call_tuple_of
end L2
namespace Wd
open PySem L2 Ow
/-! ### woods drawn, kids handed on in a tuple -/
def spBoughT (K : PySem.W.Frag) : Sp := fun vs H Q _ => ∃ (pen sp : Addr) (ns : List Int) (tk : Addr) (u : Int) (kids : List Int) (m : Int) (k : Int), vs = [.ref pen, .int u, .ref tk] ∧ Pen K H pen sp ns k ∧ 0 ≤ k ∧ k ≤ 950000 ∧ H tk = some (.tup (kids.map V.int)) ∧ kids.length ≤ 9 ∧ 0 ≤ u ∧ kids ≠ [] ∧ rising m (kids.map PyData.int) u = true ∧
  ∀ (d : PyData) (v : V) (k' : Int) (H' : Hp), SameX pen H H' → H' pen = some (.lst [.ref sp, .int k']) → k ≤ k' → k' ≤ k + 3 → Dn H' d v → isBough m d = true → flatD 3 d = true → kidsOf d = kids → Q v H'
/-- has, by // and % -/
def spHasD : Sp := fun vs H Q _ => ∃ (n k : Nat), vs = [.int (n : Int), .int (k : Int)] ∧ k ≤ 20 ∧ Q (.bl (n.testBit k)) H
theorem bit_div (n k : Nat) : decide (V.int ((n : Int) / ((2 ^ k : Nat) : Int) % 2) = V.int 1) = n.testBit k := by
  have e : (n : Int) / ((2 ^ k : Nat) : Int) % 2 = ((n / 2 ^ k % 2 : Nat) : Int) := by
    rw [Int.natCast_emod, Int.natCast_ediv]
    rfl
  rw [e, Nat.testBit_eq_decide_div_mod_eq, Bool.eq_iff_iff, decide_eq_true_iff, decide_eq_true_iff]
  constructor
  · intro h
    injection h with h
    omega
  · intro h
    rw [h]
    rfl
theorem tie_most {m : Nat} {top : Int} {ps : List PyData} (pok : ps.all pairOk = true) (pri : rising (m : Int) (ps.map fstD) (-1) = true) (p0 : 0 < ps.length) : isTie m (.tuple [.str ("most" : Str), .int top, .tuple ps]) = true := by
  show tieK m ("most" : Str) (.int top) (.tuple ps) = true
  unfold tieK
  rw [if_pos rfl]
  show (true && (decide (0 < ps.length) && ps.all pairOk && rising m (ps.map fstD) (-1))) = true
  rw [decide_eq_true p0, pok, pri]
  rfl
theorem flat_most {m : Nat} {top : Int} {ps : List PyData} (pfl : ps.all (flatD 1) = true) (pfw : ps.length ≤ 1000) : flatD 3 (.tuple [.str ("most" : Str), .int top, .tuple ps]) = true := by
  have f2 : flatD 2 (.tuple ps) = true := by
    show (decide (ps.length ≤ 1000) && ps.all (flatD 1)) = true
    rw [decide_eq_true pfw, pfl]
    rfl
  show (true && (flatD 2 (.str ("most" : Str)) && (flatD 2 (.int top) && (flatD 2 (.tuple ps) && true)))) = true
  rw [show flatD 2 (.str ("most" : Str)) = true from strOk_most, f2]
  rfl
theorem _root_.Ow.PairsTo.snoc {H : Hp} {i : Nat} {ps : List PyData} {xs : List V} {tp : Addr} {x : Int} (pt : PairsTo H i ps xs) (h : H tp = some (.tup [.int (i : Int), .int x])) : PairsTo H (i + 1) (ps ++ [.tuple [.int (i : Int), .int x]]) (xs ++ [.ref tp]) := by
  refine ⟨?_, ?_, ?_, ?_, ?_⟩
  · exact pt.dn.append ⟨_, [], rfl, ⟨tp, _, rfl, h, _, _, rfl, rfl, _, _, rfl, rfl, rfl⟩, rfl⟩
  · rw [List.all_append, pt.ok]
    rfl
  · rw [List.all_append, pt.flat]
    rfl
  · rw [List.map_append]
    show rising ((i + 1 : Nat) : Int) (ps.map fstD ++ [.int (i : Int)]) (-1) = true
    exact rising_snoc (by omega) pt.ris (by omega)
  · rw [List.length_append, List.length_singleton]
    have := pt.few
    omega
theorem _root_.Ow.PairsTo.up {H : Hp} {i : Nat} {ps : List PyData} {xs : List V} (pt : PairsTo H i ps xs) : PairsTo H (i + 1) ps xs := ⟨pt.dn, pt.ok, pt.flat, rising_mono (by omega) pt.ris, Nat.le_succ_of_le pt.few⟩
theorem _root_.Ow.PairsTo.tupS {H H' : Hp} (t : TupS H H') {i : Nat} {ps : List PyData} {xs : List V} (pt : PairsTo H i ps xs) : PairsTo H' i ps xs := ⟨DnL.tupS t pt.flat pt.dn, pt.ok, pt.flat, pt.ris, pt.few⟩
theorem pairs_one {H : Hp} {m : Nat} {tp : Addr} {o x : Int} (o0 : 0 ≤ o) (o1 : o < m) (h : H tp = some (.tup [.int o, .int x])) : PairsTo H m [.tuple [.int o, .int x]] [.ref tp] := by
  refine ⟨⟨_, [], rfl, ⟨tp, _, rfl, h, _, _, rfl, rfl, _, _, rfl, rfl, rfl⟩, rfl⟩, rfl, rfl, ?_, by show 1 ≤ m; omega⟩
  have := rising_snoc (m := (m : Int)) (j := o) o1 (ks := []) (u := -1) rfl (by omega)
  exact this
end Wd

set_option maxRecDepth 100000
set_option maxHeartbeats 4000000
namespace L2
open PySem PySem.Spec PyProof.Rows
section
variable {X : Cx}
/-- list.index of a whole number that is there -/
def rIndex : V → List V → Hp → VK → Prop := fun x vs H Q => ∃ (l : Addr) (xs : List V) (y : V) (j : Nat), x = .ref l ∧ vs = [y] ∧ H l = some (.lst xs) ∧ flatV y = true ∧ xs.all flatV = true ∧ (xs[j]?.map fun z => eqV z y) = some true ∧ (∀ i, i < j → (xs[i]?.map fun z => eqV z y) = some false) ∧ Q (.int (j : Int)) H
theorem mt_index : MtM X "list.index" rIndex := by
  intro pins s σ H x vs v us Q I rx rv h
  obtain ⟨l, xs, y, j, rfl, rfl, hH, fy, fs, hj, hno, q⟩ := h
  cases rx
  obtain ⟨u, rfl, ru⟩ := rv.one
  obtain ⟨z, its, n, r, hl, e⟩ := I.lstM hH
  have lxs := r.length
  have jl : j < xs.length := by
    rcases Nat.lt_or_ge j xs.length with z | z
    · exact z
    · rw [List.getElem?_eq_none z] at hj
      cases hj
  have at_ : ∀ i (h1 : i < xs.length) (h2 : i < its.length), eqU y its[i] = eqV xs[i] y := by
    intro i h1 h2
    obtain ⟨w, hw, rr⟩ := r.get (List.getElem?_eq_getElem h1)
    rw [List.getElem?_eq_getElem h2] at hw
    cases hw
    exact eqU_of rr (List.all_eq_true.mp fs _ (List.getElem_mem h1))
  have j63 : (j : Int) < 2 ^ 63 - 1 := by
    have h63 : ((xs.length : Nat) : Int) < ((2 ^ 63 : Nat) : Int) := Int.ofNat_lt.mpr (Nat.lt_of_le_of_lt z line63)
    have e63 : ((2 ^ 63 : Nat) : Int) = 2 ^ 63 := rfl
    omega
  refine call_meets F.slot_list_index ⟨_, e, rfl⟩ F.entry_list_index (F.args_list_index_2 _ _) (SeqAt.list_indexAt l its.toArray n none #[] u (eqU y) j (by rw [List.size_toArray]; omega) j63 ?_ ?_) ⟨e, fun w hw => mem_eqAt ru fy r fs w (by simpa using hw), ?_⟩
  · rw [List.getElem_toArray, at_ j jl (by omega)]
    rw [List.getElem?_eq_getElem jl] at hj
    exact Option.some.inj hj
  · intro i hi hij
    rw [List.size_toArray] at hi
    rw [List.getElem_toArray, at_ i (by omega) hi]
    have := hno i hij
    rw [List.getElem?_eq_getElem (by omega)] at this
    exact Option.some.inj this
  · exact ⟨.int (j : Int), H, I.tok _, ⟨_, rfl⟩, q⟩
end
end L2

set_option maxRecDepth 100000
set_option maxHeartbeats 4000000
namespace L2
open PySem PySem.Spec PyProof.Rows
/-! ### try .. except C, without a name -/
end L2

set_option maxRecDepth 100000
set_option maxHeartbeats 4000000
namespace Wd
open PySem L2 Ow
/-! ### options that stay, numbered anew -/
/-! ### ties numbered anew -/
/-! ### a ware's set keeps the ties numbered anew -/
/-! ### the options of some ware -/
/-- a wood by its boughs and its cross ties -/
def tsOf (L : List Bg) (C : List Tie) : List Tie := L.map Bg.tie ++ C
end Wd

set_option maxRecDepth 100000
set_option maxHeartbeats 4000000
namespace Wd
open PySem L2 Ow
theorem pairs_flat : ∀ ps : List (Nat × Int), (ps.map pairD).all (flatD 1) = true
  | [] => rfl
  | p :: ps => by
    rw [List.map_cons, List.all_cons, pairs_flat ps]
    rfl
theorem bough_flat {u : Nat} {lo hi : Int} {ks : List Nat} (h : ks.length ≤ 1000) : flatD 3 (Tie.bough u lo hi ks).toD = true := by
  have := bgh_flat (u : Int) lo hi (ks.map fun k : Nat => (k : Int)) (by rw [List.length_map]; exact h)
  unfold bghD at this
  rw [List.map_map] at this
  exact this
theorem tie_flat {m : Nat} {t : Tie} (ok : t.Ok m) (m9 : m ≤ 900) : flatD 3 t.toD = true := by
  cases t with
  | bough u lo hi ks => exact bough_flat (Nat.le_trans ok.few (by omega))
  | needs a b =>
    show (true && (flatD 2 (.str ("needs" : Str)) && (true && (true && true)))) = true
    rw [show flatD 2 (.str ("needs" : Str)) = true from strOk_needs]
    rfl
  | bans a b =>
    show (true && (flatD 2 (.str ("bans" : Str)) && (true && (true && true)))) = true
    rw [show flatD 2 (.str ("bans" : Str)) = true from strOk_bans]
    rfl
  | most top ps => exact flat_most (m := m) (pairs_flat ps) (by rw [List.length_map]; exact Nat.le_trans ok.2.2.2 (by omega))
theorem ties_flat {m : Nat} {ts : List Tie} (ok : ∀ t ∈ ts, t.Ok m) (m9 : m ≤ 900) : (ts.map Tie.toD).all (flatD 3) = true := by
  rw [List.all_map, List.all_eq_true]
  exact fun t ht => tie_flat (ok t ht) m9
theorem dn_nats {H : Hp} : ∀ ks : List Nat, DnL H (ks.map fun k : Nat => PyData.int (k : Int)) (natsL ks)
  | [] => rfl
  | k :: ks => ⟨_, _, rfl, rfl, dn_nats ks⟩
/-! ### ties in a tuple -/
def TiesAt (H : Hp) (p : Addr) (ts : List Tie) : Prop := ∃ xs, H p = some (.tup xs) ∧ DnL H (ts.map Tie.toD) xs
theorem TiesAt.same {H H' : Hp} {p : Addr} {ts : List Tie} (s : Same H H') (h : TiesAt H p ts) : TiesAt H' p ts := by
  obtain ⟨xs, h1, h2⟩ := h
  exact ⟨xs, s _ _ h1, DnL.same s _ _ h2⟩
theorem TiesAt.tupS {H H' : Hp} {p : Addr} {m : Nat} {ts : List Tie} (t : TupS H H') (ok : ∀ t ∈ ts, t.Ok m) (m9 : m ≤ 900) (h : TiesAt H p ts) : TiesAt H' p ts := by
  obtain ⟨xs, h1, h2⟩ := h
  exact ⟨xs, t _ _ h1, DnL.tupS t (ties_flat ok m9) h2⟩
/-! ### the whole fold -/
/-- a wood by its parts -/
structure WoodP (H : Hp) (wd tb tc : Addr) (m : Nat) (L : List Bg) (C : List Tie) : Prop where
  at_ : H wd = some (.tup [.int (m : Int), .ref tb, .ref tc])
  bs : TiesAt H tb (L.map Bg.tie)
  cs : TiesAt H tc C
  okb : ∀ b ∈ L, Tie.BoughOkW m b.u b.lo b.hi b.ks
  okc : ∀ t ∈ C, t.Ok m
  nb : ∀ t ∈ C, ∀ u lo hi ks, t ≠ .bough u lo hi ks
  m1 : 1 ≤ m
  m9 : m ≤ 9
  fewb : L.length ≤ 20
  fewc : C.length ≤ 20
theorem WoodP.same {H H' : Hp} {wd tb tc : Addr} {m : Nat} {L : List Bg} {C : List Tie} (s : Same H H') (h : WoodP H wd tb tc m L C) : WoodP H' wd tb tc m L C := ⟨s _ _ h.at_, h.bs.same s, h.cs.same s, h.okb, h.okc, h.nb, h.m1, h.m9, h.fewb, h.fewc⟩
theorem WoodP.ok {H : Hp} {wd tb tc : Addr} {m : Nat} {L : List Bg} {C : List Tie} (h : WoodP H wd tb tc m L C) : ∀ t ∈ tsOf L C, t.Ok m := fun t ht => by
  rcases List.mem_append.mp ht with z | z
  · obtain ⟨b, hb, rfl⟩ := List.mem_map.mp z
    exact h.okb b hb
  · exact h.okc t z
theorem WoodP.tupS {H H' : Hp} {wd tb tc : Addr} {m : Nat} {L : List Bg} {C : List Tie} (s : TupS H H') (h : WoodP H wd tb tc m L C) : WoodP H' wd tb tc m L C := ⟨s _ _ h.at_, h.bs.tupS s (m := m) (fun t ht => h.ok t (List.mem_append.mpr (.inl ht))) (by have := h.m9; omega), h.cs.tupS s (m := m) (fun t ht => h.ok t (List.mem_append.mpr (.inr ht))) (by have := h.m9; omega), h.okb, h.okc, h.nb, h.m1, h.m9, h.fewb, h.fewc⟩
end Wd

set_option maxRecDepth 100000
set_option maxHeartbeats 4000000
namespace L2
open PySem PySem.Spec
end L2
namespace Wd
open PySem L2 Ow
theorem WoodX.parts {H : Hp} {wd : Addr} {m : Nat} {bs cs : List PyData} (h : WoodX H wd m bs cs) : ∃ (tb tc : Addr) (L : List Bg) (C : List Tie), WoodP H wd tb tc m L C ∧ bs = (L.map Bg.tie).map Tie.toD ∧ cs = C.map Tie.toD := by
  obtain ⟨xs, ys, ⟨tb, tc, h1, h2, h3⟩, db, dc⟩ := h.ex
  obtain ⟨L, e, ok⟩ := bgs_of h.gb.each
  obtain ⟨C, e2, okc⟩ := list_ties (P := fun t => t.Ok m ∧ ∀ u lo hi ks, t ≠ .bough u lo hi ks) (l := cs) fun x hx => by
    obtain ⟨t, a, b, c⟩ := tie_of_cross (h.gc x hx)
    exact ⟨t, a, b, c⟩
  have b8 := h.b8
  have c8 := h.c8
  have e' : bs = (L.map Bg.tie).map Tie.toD := by rw [e, List.map_map]; rfl
  refine ⟨tb, tc, L, C, ⟨h1, ⟨xs, h2, by rw [← e']; exact db⟩, ⟨ys, h3, by rw [← e2]; exact dc⟩, fun b hb => (ok b hb).toBoughOkW, fun t ht => (okc t ht).1, fun t ht => (okc t ht).2, h.m1, h.m9, ?_, ?_⟩, e', e2⟩
  · rw [e, List.length_map] at b8
    omega
  · rw [e2, List.length_map] at c8
    omega
end Wd

set_option maxRecDepth 100000
set_option maxHeartbeats 4000000
namespace Wd
open PySem L2 Ow
/-! ### what a fold keeps -/
end Wd

set_option maxRecDepth 100000
set_option maxHeartbeats 4000000
namespace Wd
open PySem L2 Ow
theorem shaped_flat {n : Nat} {ds : List PyData} (h : ds.all (flatD n) = true) (hn : n ≤ 60) : SeqAt.shaped (.list ds) = true := by
  obtain ⟨a, b⟩ := flat_layAll n _ h
  unfold SeqAt.shaped
  rw [Bool.and_eq_true]
  refine ⟨by simpa [PyData.canLay0] using a, decide_eq_true ?_⟩
  simp only [PyData.depth]
  omega
end Wd

set_option maxRecDepth 100000
set_option maxHeartbeats 4000000
namespace Wd
open PySem L2 Ow
/-! ### sets of new numbers, by the old ones -/
theorem pw_ext : ∀ {A B : List Nat}, A.Pairwise (· < ·) → B.Pairwise (· < ·) → (∀ x, x ∈ A ↔ x ∈ B) → A = B
  | [], [], _, _, _ => rfl
  | [], b :: r, _, _, h => nomatch (h b).mpr List.mem_cons_self
  | a :: r, [], _, _, h => nomatch (h a).mp List.mem_cons_self
  | a :: r, b :: r', pa, pb, h => by
    rw [List.pairwise_cons] at pa pb
    have e : a = b := by
      rcases List.mem_cons.mp ((h a).mp List.mem_cons_self) with z | z
      · exact z
      · rcases List.mem_cons.mp ((h b).mpr List.mem_cons_self) with y | y
        · exact y.symm
        · have := pa.1 b y
          have := pb.1 a z
          omega
    subst e
    congr 1
    refine pw_ext pa.2 pb.2 fun x => ⟨fun hx => ?_, fun hx => ?_⟩
    · rcases List.mem_cons.mp ((h x).mp (List.mem_cons_of_mem _ hx)) with z | z
      · have := pa.1 x hx; omega
      · exact z
    · rcases List.mem_cons.mp ((h x).mpr (List.mem_cons_of_mem _ hx)) with z | z
      · have := pb.1 x hx; omega
      · exact z
/-! ### a set that keeps the ties numbered anew, by the old numbers -/
/-! ### folded again -/
end Wd

set_option maxRecDepth 100000
set_option maxHeartbeats 4000000
namespace L2
open PySem PySem.Spec PyProof.Rows
end L2
namespace Wd
open PySem L2 Ow
def bitsL (n : Nat) : List Nat := (List.range (Builtin.Int.intBits (n : Int))).filter fun k => n.testBit k
theorem bits_lt {n k : Nat} (h : n.testBit k = true) : k < Builtin.Int.intBits (n : Int) := by
  rcases Nat.lt_or_ge k (Builtin.Int.intBits (n : Int)) with z | z
  · exact z
  · exfalso
    unfold Builtin.Int.intBits at z
    by_cases e : n = 0
    · rw [e, Nat.zero_testBit] at h
      cases h
    · rw [if_neg (by simpa using e)] at z
      have h1 : (n : Int).natAbs = n := Int.natAbs_natCast n
      rw [h1] at z
      have h2 := Nat.lt_log2_self (n := n)
      have p : 2 ^ (n.log2 + 1) ≤ 2 ^ k := Nat.pow_le_pow_right (by decide) z
      rw [Nat.testBit_lt_two_pow (by omega)] at h
      cases h
theorem bits_le9 {n : Nat} (h : n < 512) : Builtin.Int.intBits (n : Int) ≤ 9 := by
  have : ∀ n : _root_.Fin 512, Builtin.Int.intBits ((n.val : Nat) : Int) ≤ 9 := by decide +kernel
  exact this ⟨n, h⟩
theorem mem_bitsL {n k : Nat} : k ∈ bitsL n ↔ n.testBit k = true := by
  unfold bitsL
  rw [List.mem_filter, List.mem_range]
  exact ⟨fun h => h.2, fun h => ⟨bits_lt h, h⟩⟩
def spBitsOf : Sp := fun vs H Q _ => ∃ n : Nat, vs = [.int (n : Int)] ∧ n < 512 ∧ ∀ (l : Addr) (H' : Hp), Same H H' → H l = none → H' l = some (.lst (natsL (bitsL n))) → Q (.ref l) H'
def woodDt (m : Nat) (L : List Bg) (C : List Tie) : PyData := .tuple [.int (m : Int), .tuple ((L.map Bg.tie).map Tie.toD), .tuple (C.map Tie.toD)]
theorem WoodP.dn {H : Hp} {wd tb tc : Addr} {m : Nat} {L : List Bg} {C : List Tie} (h : WoodP H wd tb tc m L C) : Dn H (woodDt m L C) (.ref wd) := by
  obtain ⟨xs, h1, d1⟩ := h.bs
  obtain ⟨ys, h2, d2⟩ := h.cs
  exact ⟨wd, _, rfl, h.at_, _, _, rfl, rfl, _, _, rfl, ⟨tb, _, rfl, h1, d1⟩, _, _, rfl, ⟨tc, _, rfl, h2, d2⟩, rfl⟩
end Wd

set_option maxRecDepth 100000
set_option maxHeartbeats 4000000
namespace L2
open PySem PySem.Spec PyProof.Rows
section
variable {X : Cx} {tg iter elt : Expr} {cs : List Expr} {sc sc0 : Scope} {pos : Pos} {wi : TI} {g : TG} {tc : TT} {te : TE} {XN N' : List Str} {n : Nat} {kp : List Nat}
end
end L2
namespace L2
open PySem PySem.Spec PyProof.Rows
/-! ### isinstance of an own exception, of several classes -/
end L2
namespace Wd
open PySem L2 Ow
/-! ### the fold, told by wares -/
/-! ### the folded wood is a wood -/
theorem rising_pw {m : Int} : ∀ {ks : List Nat} {u : Int}, ks.Pairwise (· < ·) → (∀ k ∈ ks, u < (k : Int) ∧ (k : Int) < m) → rising m ((ks.map fun k : Nat => (k : Int)).map PyData.int) u = true
  | [], _, _, _ => rfl
  | k :: ks, u, pw, h => by
    obtain ⟨p1, p2⟩ := List.pairwise_cons.mp pw
    have hk := h k List.mem_cons_self
    show (decide (u + 1 ≤ (k : Int)) && decide ((k : Int) ≤ m - 1) && rising m _ (k : Int)) = true
    rw [decide_eq_true (by omega), decide_eq_true (by omega), rising_pw p2 fun x hx => ⟨by have := p1 x hx; omega, (h x (List.mem_cons_of_mem _ hx)).2⟩]
    rfl
theorem isTie_of {m : Nat} {t : Tie} (ok : t.Ok m) (nb : ∀ u lo hi ks, t ≠ .bough u lo hi ks) : isTie m t.toD = true := by
  cases t with
  | bough u lo hi ks => exact absurd rfl (nb u lo hi ks)
  | needs a b =>
    obtain ⟨h1, h2, h3⟩ := ok
    show tieK m ("needs" : Str) (.int (a : Int)) (.int (b : Int)) = true
    unfold tieK
    rw [if_neg (by decide +kernel), if_pos (.inl rfl)]
    show ((decide (0 ≤ (a : Int)) && decide ((a : Int) ≤ (m : Int) - 1)) && ((decide (0 ≤ (b : Int)) && decide ((b : Int) ≤ (m : Int) - 1)) && !decide ((a : Int) = (b : Int)))) = true
    rw [decide_eq_true (by omega), decide_eq_true (by omega), decide_eq_true (by omega), decide_eq_true (by omega), decide_eq_false (by omega)]
    rfl
  | bans a b =>
    obtain ⟨h1, h2, h3⟩ := ok
    show tieK m ("bans" : Str) (.int (a : Int)) (.int (b : Int)) = true
    unfold tieK
    rw [if_neg (by decide +kernel), if_pos (.inr rfl)]
    show ((decide (0 ≤ (a : Int)) && decide ((a : Int) ≤ (m : Int) - 1)) && ((decide (0 ≤ (b : Int)) && decide ((b : Int) ≤ (m : Int) - 1)) && !decide ((a : Int) = (b : Int)))) = true
    rw [decide_eq_true (by omega), decide_eq_true (by omega), decide_eq_true (by omega), decide_eq_true (by omega), decide_eq_false (by omega)]
    rfl
  | most top ps =>
    obtain ⟨h1, h2, h3, h4⟩ := ok
    refine tie_most (m := m) ?_ ?_ ?_
    · rw [List.all_eq_true]
      intro d hd
      obtain ⟨p, _, rfl⟩ := List.mem_map.mp hd
      rfl
    · have e : (ps.map pairD).map fstD = ((ps.map (·.1)).map fun k : Nat => (k : Int)).map PyData.int := by
        rw [List.map_map, List.map_map, List.map_map]
        rfl
      rw [e]
      refine rising_pw h3 fun k hk => ?_
      obtain ⟨p, hp, rfl⟩ := List.mem_map.mp hk
      have := h2 p hp
      omega
    · rw [List.length_map]
      exact List.length_pos_iff.mpr h1
theorem third_of {m : Nat} {t : Tie} (ok : t.Ok m) (m9 : m ≤ 9) (nb : ∀ u lo hi ks, t ≠ .bough u lo hi ks) : thirdOk t.toD := by
  cases t with
  | bough u lo hi ks => exact absurd rfl (nb u lo hi ks)
  | needs a b => exact trivial
  | bans a b => exact trivial
  | most top ps =>
    show (ps.map pairD).length ≤ _
    rw [List.length_map]
    exact Nat.le_trans ok.2.2.2 (by omega)
end Wd

set_option maxRecDepth 100000
set_option maxHeartbeats 4000000
/-! ### Data: what an expression gives, by what the names hold -/
namespace L2
open PySem PySem.Spec PyProof.Rows Wd
section
variable {te ta tb ti tst : TE} {tl th : TO} {tr : TA} {es : List (Option PyData)} {d c : PyData} {ds cs : List PyData} {K : PySem.W.Frag}
end
section
variable {te ta tb tc : TE} {tr : TA} {es : List (Option PyData)} {d : PyData} {ds : List PyData} {P P1 P2 P3 : PyData → Prop} {R S : List PyData → Prop}
end
/-! f"text {n} text" -/
/-! displays of constants, by words that are not unfolded -/
@[irreducible] def PAi (X : Cx) (es : List Expr) (t : TA) : Prop := PA X es t
theorem PAi.of {X : Cx} {es : List Expr} {t : TA} (h : PA X es t) : PAi X es t := by unfold PAi; exact h
theorem PAi.pa {X : Cx} {es : List Expr} {t : TA} (h : PAi X es t) : PA X es t := by unfold PAi at h; exact h
theorem pai_nil {X : Cx} : PAi X [] tNil := .of pa_nil
theorem pai_cons {X : Cx} {e : Expr} {es : List Expr} {te : TE} {tr : TA} (a : PEi X e te) (b : PAi X es tr) (hs : starEach (e :: es) X.env = (false, eval e X.env) :: starEach es X.env := by rfl) : PAi X (e :: es) (tCons te tr) := .of (pa_cons a.pe b.pa hs)
theorem pei_lst {X : Cx} {es : List Expr} {t : TA} {pos : Pos} (h : PAi X es t) : PEi X (.List es pos) (tLst t) := .of (pe_lst h.pa)
end L2

set_option maxRecDepth 100000
set_option maxHeartbeats 4000000
/-! ### What is no wood -/
namespace Wd
open PySem L2 Ow
end Wd

set_option maxRecDepth 100000
set_option maxHeartbeats 4000000
/-! ### What is no bough, no tie -/
namespace Wd
open PySem L2 Ow
end Wd

set_option maxRecDepth 100000
set_option maxHeartbeats 4000000
/-! ### Boughs that make no wood -/
namespace Wd
open PySem L2 Ow
section
variable {many : Int} {bs : List PyData} (g : GoodB many bs) (m9 : many ≤ 9) (b8 : bs.length ≤ 8)
include g m9 b8
end
end Wd

set_option maxRecDepth 100000
set_option maxHeartbeats 4000000
/-! ### Texts: the rules -/
namespace L2
open PySem PySem.Spec PyProof.Rows
open PySem.Builtin PySem.Builtin.Str
section
variable {X : Cx}
theorem vals_strs : ∀ (l : List (Str × Tok)), Vals ((l.map (·.1)).map V.str) (strValues l)
  | [] => .nil
  | p :: l => .cons ⟨p.2, rfl⟩ (vals_strs l)
theorem strs_vals : ∀ {ws : List Str} {us : List Value}, Vals (ws.map V.str) us → ∃ l : List (Str × Tok), us = strValues l ∧ l.map (·.1) = ws
  | [], us, r => by
    cases r
    exact ⟨[], rfl, rfl⟩
  | w :: ws, us, r => by
    cases r with
    | cons rx rr =>
      obtain ⟨t, rfl⟩ := rx
      obtain ⟨l, rfl, e⟩ := strs_vals rr
      exact ⟨(w, t) :: l, rfl, by rw [List.map_cons, e]⟩
/-- x.split(y) -/
def rSplit : V → List V → Hp → VK → Prop := fun x vs H Q => ∃ z y : Str, x = .str z ∧ vs = [.str y] ∧ (y.length == 0) = false ∧ z.length ≤ 1000000 ∧ ∀ p, H p = none → Q (.ref p) (upd H p (.lst ((Txt.split z y).map V.str)))
theorem mt_split : MtR X "str.split" rSplit := by
  intro pins s σ H x xs v us Q I rx r h
  obtain ⟨z, y, rfl, rfl, hy, hz, q⟩ := h
  obtain ⟨t, rfl⟩ := rx
  obtain ⟨u, rfl, u', rfl⟩ := vals1 r
  have sl := split_le z y
  have zl : z.length + 2 ≤ sizeLine := by rw [sizeLine_eq]; omega
  have fin : ∀ (l : List (Str × Tok)) (k : Nat), l.map (·.1) = Txt.split z y → EP X pins σ Q (.ref s.heap.objs.size) { s with toks := k, heap := s.heap.push { cls := .type "list", data := .seq (strValues l).toArray } } := fun l k e => by
    have vl := vals_strs l
    rw [e] at vl
    refine ⟨.ref s.heap.objs.size, _, I.laid (t' := k) (fun b o hb => Heap.get?_push_of_some _ hb) (Nat.le_refl _) (show ObjOk X.prog X.w _ _ _ (.lst ((Txt.split z y).map V.str)) from ⟨by rw [List.length_map]; omega, strValues l, _, vl, Heap.get?_push_size _ rfl⟩), rfl, q _ (I.hok.fresh (Nat.le_refl _))⟩
  cases h1 : (decide (z.length < y.length) || decide (strKind z < strKind y))
  · cases hf : (occurrences z y 0 z.length (z.length + 1)).isEmpty
    · have e : Txt.split z y = partsBetween z (occurrences z y 0 z.length (z.length + 1)) y.length := (if_neg (ne_true_of_eq_false h1)).trans (if_neg (ne_true_of_eq_false hf))
      refine call_meets F.slot_str_split (typeIs_str _ _ _) F.entry_str_split (F.args_str_split_2 _ _) (meets_str_split_sep z y t u' h1 hy hf (by omega) (by rw [← e]; omega)) ?_
      show wants _ _ _ { s with toks := _, heap := s.heap.push { cls := .type "list", data := .seq (strsFrom s.toks (partsBetween z (occurrences z y 0 z.length (z.length + 1)) y.length)).toArray } }
      rw [strsFrom_eq]
      exact fin _ _ ((numbered_texts _ _).trans e.symm)
    · exact call_meets F.slot_str_split (typeIs_str _ _ _) F.entry_str_split (F.args_str_split_2 _ _) (meets_str_split_not_found z y t u' h1 hy hf) (fin [(z, t)] s.toks ((if_neg (ne_true_of_eq_false h1)).trans (if_pos hf)).symm)
  · exact call_meets F.slot_str_split (typeIs_str _ _ _) F.entry_str_split (F.args_str_split_2 _ _) (meets_str_split_cannot_occur z y t u' h1) (fin [(z, t)] s.toks (if_pos h1).symm)
/-- sep.join(list of texts) -/
def rJoin (K : PySem.W.Frag) : V → List V → Hp → VK → Prop := fun x vs H Q => ∃ (sep : Str) (p : Addr) (ws : List Str), x = .str sep ∧ vs = [.ref p] ∧ SqL K H p (ws.map V.str) ∧ (ws.map (·.length)).sum + ws.length * sep.length ≤ 1000000 ∧ Q (.str (Str.join sep ws)) H
theorem mt_join : MtR X "str.join" (rJoin X.K) := by
  intro pins s σ H x xs v us Q I rx r h
  obtain ⟨sep, p, ws, rfl, rfl, hq, hz, q⟩ := h
  obtain ⟨t, rfl⟩ := rx
  obtain ⟨u, rfl, ru⟩ := vals1 r
  cases ru
  obtain ⟨its, rv, pl, _⟩ := I.list hq
  obtain ⟨l, rfl, e⟩ := strs_vals rv
  have hl : tooLong ((l.map (·.1)).toArray.foldl (· + ·.length + sep.length) 0) = false := by
    rw [e, StrLaws.joinTotal]
    unfold tooLong
    exact decide_eq_false (by rw [sizeLine_eq]; omega)
  refine call_meets F.slot_str_join (typeIs_str _ _ _) F.entry_str_join (F.args_str_join_2 _ _) (meets_str_join_list sep t p l hl) ⟨pl.isList, ?_⟩
  have gj := StrLaws.glued_eq_join sep ws
  match l, e with
  | [], e =>
    subst e
    exact ⟨by show (0 : Nat) ≤ sizeLine; exact Nat.zero_le _, .str _, H, I.tok _, ⟨_, rfl⟩, q⟩
  | [(x, tx)], e =>
    subst e
    exact ⟨.str x, H, I, ⟨tx, rfl⟩, q⟩
  | a :: b :: l, e =>
    subst e
    refine ⟨?_, .str _, H, I.tok _, ⟨_, rfl⟩, ?_⟩
    · show (glued sep ((a :: b :: l).map (·.1))).length ≤ sizeLine
      rw [gj]
      exact Nat.le_trans (StrLaws.join_length_le _ _) (by rw [sizeLine_eq]; omega)
    · rw [gj]
      exact q
/-- x.startswith(y) -/
def rStarts : V → List V → Hp → VK → Prop := fun x vs H Q => ∃ z y : Str, x = .str z ∧ vs = [.str y] ∧ Q (.bl (decide (0 + y.length ≤ z.length) && subAt z y 0)) H
theorem mt_starts : MtR X "str.startswith" rStarts := by
  intro pins s σ H x xs v us Q I rx r h
  obtain ⟨z, y, rfl, rfl, q⟩ := h
  obtain ⟨t, rfl⟩ := rx
  obtain ⟨u, rfl, u', rfl⟩ := vals1 r
  exact call_gives F.slot_str_startswith (typeIs_str _ _ _) F.entry_str_startswith (F.args_str_startswith_2 _ _) (gives_str_startswith z y t u') ⟨.bl _, H, I, rfl, q⟩
/-- z[lo:hi] of a text -/
def rSlS : V → Option Int → Option Int → Hp → VK → Prop := fun x lo hi H Q => ∃ z : Str, x = .str z ∧ z.length ≤ sizeLine ∧ Q (.str (StrLaws.sliceText z lo hi)) H
theorem sl_str : SlR X rSlS := by
  intro pins s σ H x v vl vu lo hi sl Q I rx hs pl pu h
  obtain ⟨z, rfl, hz, q⟩ := h
  obtain ⟨t, rfl⟩ := rx
  obtain ⟨o, ho, hc, hd⟩ := hs
  refine ⟨"str", _, F.slot_str_getitem.lookup, typeIs_str _ _ _, ?_⟩
  have fin : ∀ l u : Option (Int × Tok), s.heap.IsSlice sl l u none → l.map (·.1) = lo → u.map (·.1) = hi → wpAny (model X.prog X.w) X.A (getItem (.str z t) (.ref sl)) (EP X pins σ Q) X.xe s := fun l u h1 h2 h3 => by
    subst h2
    subst h3
    exact wpAny_getItem_str_slice (l := l) (u := u) (st := none) h1 rfl (post_val_or_str ⟨Nat.le_trans (Txt.slice_le z _ _) hz, fun t' k => ⟨.str _, H, I.tok _, ⟨_, rfl⟩, q⟩⟩)
  cases pl with
  | none =>
    cases pu with
    | none => exact fin none none ⟨o, ho, hc, hd⟩ rfl rfl
    | int j tj => exact fin none (some (j, tj)) ⟨o, ho, hc, hd⟩ rfl rfl
  | int i ti =>
    cases pu with
    | none => exact fin (some (i, ti)) none ⟨o, ho, hc, hd⟩ rfl rfl
    | int j tj => exact fin (some (i, ti)) (some (j, tj)) ⟨o, ho, hc, hd⟩ rfl rfl
/-- int(text) -/
theorem call_intS : CallR X (.type "int") (fun xs H Q => ∃ (x : Str) (n : Int), xs = [.str x] ∧ intText? x = some n ∧ x.length ≤ 640 ∧ Q (.int n) H) := by
  intro pins s σ H xs us Q I r h
  obtain ⟨x, n, rfl, hn, hl, q⟩ := h
  obtain ⟨u, rfl, t, rfl⟩ := vals1 r
  exact PySem.W.KIN.call_text hn hl ⟨.int n, H, I.tok _, ⟨_, rfl⟩, q⟩
/-- text * n -/
theorem op_mulS : OpR X (binaryOp .Mult) (fun x y H Q => ∃ (z : Str) (n : Int), x = .str z ∧ y = .int n ∧ 1 ≤ n ∧ n ≤ 1000 ∧ z.length ≤ 1000 ∧ Q (.str (Txt.mul z n)) H) := by
  intro pins s σ H x y v u Q I rx ry h
  obtain ⟨z, n, rfl, rfl, h1, h2, hz, q⟩ := h
  obtain ⟨t, rfl⟩ := rx
  obtain ⟨t', rfl⟩ := ry
  have hm : MulOk z n := by
    refine ⟨?_, fun _ _ => ?_, fun _ _ => ?_⟩
    · rw [decide_eq_false (by omega), decide_eq_false (by omega)]
      rfl
    · have : (1000 : Int) ≤ (2 ^ 63 - 1) / n := (Int.le_ediv_iff_mul_le (by omega)).mpr (by omega)
      omega
    · refine decide_eq_false ?_
      have h3 : z.length * n.toNat ≤ 1000 * 1000 := Nat.mul_le_mul hz (by omega)
      rw [sizeLine_eq]
      omega
  exact SB.mul hm fun t'' k => ⟨.str _, H, I.tok _, ⟨_, rfl⟩, q⟩
/-! a text walked, sign by sign -/
def Itc (x : Str) : It := ⟨fun i _ => i < x.cps.size, fun i H v H' => H' = H ∧ ∃ c, x.cps[i]? = some c ∧ v = .str ⟨#[c]⟩, fun i _ => x.cps.size ≤ i⟩
theorem iter_ascii {prog : Program} {w : World} {A : Around} {E : Value → Shared → Prop} {s : Shared} {it : Addr} {x : Str} {t : Tok} {i : Nat} {Q : Value → Shared → Prop} (hit : s.heap.IsStrIter it "str_ascii_iterator" x t i) (h : Q (.ref it) s) :
    wpAny (model prog w) A (pyIter (.ref it)) Q E s := by
  refine wpAny_pyIter_slot hit.typeIs F.slot_str_ascii_iterator_iter (wpAny_call_entry F.slot_str_ascii_iterator_iter hit.typeIs F.entry_str_ascii_iterator_iter ?_ (F.args_str_ascii_iterator_iter_1 _))
  show wpAny _ _ (ret (.ref it)) _ _ s
  exact wpAny_pure ⟨_, rfl, "str_ascii_iterator", _, hit.typeIs, F.slot_str_ascii_iterator_next.lookup, h⟩
theorem turn_str {P : Program} {w : World} {K : PySem.W.Frag} {tg : Expr} (x : Str) (t : Tok) (it : Addr) : Turn P w K tg (Itc x) [it] it (fun i h => h.IsStrIter it "str_ascii_iterator" x t i) where
  mem := by simp
  obj := fun i h st b hb => by
    have e : b = it := by simpa using hb
    subst e
    obtain ⟨o, e, c, d⟩ := st
    exact ⟨o, e, fun v z => by rw [d] at z; cases z⟩
  keep := fun i h h' st k => by
    obtain ⟨o, e, c, d⟩ := st
    exact ⟨o, k it (by simp) o e, c, d⟩
  item := by
    intro X hP hw hK hc i pins s σ H E I hf st hg
    subst hP hw hK
    obtain ⟨f0, f1, f2, f3, f4, f5⟩ := hf it (by simp)
    have hx : x.cps[i]? = some x.cps[i] := Array.getElem?_eq_getElem hg
    refine wpAny_pyNext_ascii_item st hx fun h' st' sb => ?_
    have I1 : Inv X pins σ H { s with heap := h', toks := s.toks + 1 } := I.turned (t' := s.toks + 1) (fun b o hb e => (sb.2 b hb).trans e) f0 f1 f3 f4 f5
    obtain ⟨o, e, c, d⟩ := id st'
    exact ⟨_, rfl, go_of (s := { s with heap := h', toks := s.toks + 1 }) e c d (by decide) ⟨.str ⟨#[x.cps[i]]⟩, H, I1, ⟨_, rfl⟩, ⟨rfl, _, hx, rfl⟩, st', fun b hb => (hf b hb).1⟩⟩
  done := by
    intro X hP hw hK hc i pins s σ H E I hf st hg
    subst hP hw hK
    obtain ⟨f0, f1, f2, f3, f4, f5⟩ := hf it (by simp)
    exact wpAny_pyNext_ascii_end (I.ok.hd hc) st (Array.getElem?_eq_none hg) fun h' eb => ⟨rfl, I.turned (t' := s.toks) (fun b o hb e => eb b o hb e) f0 f1 f3 f4 f5⟩
  self := fun _ _ _ _ _ st h => iter_ascii st h
def iStr (ta : TE) : TI := fun σ H R => ta σ H fun v H1 => ∃ x : Str, v = .str x ∧ x.cps.all (· < 128) = true ∧ R (Itc x) H1
theorem pi_str {tg l : Expr} {tl : TE} (hl : PE X l tl) : PI X tg l (iStr tl) := by
  intro pins s σ H R I h
  refine thn (hl pins s σ H _ I h) fun v s1 ⟨x, H1, I1, r1, q1⟩ => ?_
  obtain ⟨z, e, ha, q⟩ := q1
  subst e
  obtain ⟨t, rfl⟩ := r1
  refine wpAny_pyIter_ascii ha ?_
  refine ⟨s1.heap.objs.size, [s1.heap.objs.size], _, _, H1, rfl, I1.kept (t' := s1.toks) fun b o e => Heap.get?_push_of_some _ e, turn_str z t _, ⟨_, Heap.get?_push_size _ rfl, rfl, rfl⟩, fun b hb => ?_, q⟩
  have e : b = s1.heap.objs.size := by simpa using hb
  subst e
  exact I1.fpOk (Nat.le_refl _) (I1.hok.fresh (Nat.le_refl _))
/-- a comprehension over a text -/
theorem lc_str {x : Str} {σ0 : St} {H : Hp} {g : TG} {tc : TT} {te : TE} {Q : VK} (Pv : Nat → List V → St → Hp → Prop) (h0 : Pv 0 [] σ0 H) (hz : ∀ i ys σ H, i ≤ x.cps.size → Pv i ys σ H → ys.length ≤ sizeLine)
    (hs : ∀ i c ys σ H, x.cps[i]? = some c → Pv i ys σ H → g (.str ⟨#[c]⟩) σ H fun σ3 H3 => tc σ3 H3 fun b H4 => if b = true then te σ3 H4 fun v H5 => Pv (i + 1) (ys ++ [v]) σ3 H5 else Pv (i + 1) ys σ3 H4)
    (hd : ∀ ys σ H, Pv x.cps.size ys σ H → ∀ p, H p = none → Q (.ref p) (upd H p (.lst ys))) :
    lcGo (Itc x) g tc te σ0 H Q := by
  refine ⟨fun i m ys σ H => m = x.cps.size - i ∧ i ≤ x.cps.size ∧ Pv i ys σ H, ⟨x.cps.size, by simp, Nat.zero_le _, h0⟩, ?_⟩
  rintro i m ys σ H ⟨rfl, hi, p⟩
  refine ⟨hz i ys σ H hi p, ?_⟩
  by_cases hlt : i < x.cps.size
  · refine .inr ⟨hlt, Pv (i + 1), fun ys' σ' H' p' => ⟨x.cps.size - (i + 1), by omega, rfl, hlt, p'⟩, fun v H' y => ?_⟩
    obtain ⟨e, c, hc, rfl⟩ := y
    subst e
    exact hs i c ys σ _ hc p
  · have e : i = x.cps.size := by omega
    subst e
    exact .inl ⟨Nat.le_refl _, hd ys σ H p⟩
end
end L2

set_option maxRecDepth 100000
set_option maxHeartbeats 4000000
/-! ### The table of a set of small whole numbers -/
namespace Sx
open PySem PySem.SetTable
def cl (l : List Nat) (j : Nat) : Nat := (l.filter fun x => decide (x < j)).length
theorem cl_le (l : List Nat) (j : Nat) : cl l j ≤ l.length := List.length_filter_le _ _
theorem cl_none {l : List Nat} {j : Nat} (h : ∀ x ∈ l, j ≤ x) : cl l j = 0 := by
  unfold cl
  rw [List.filter_eq_nil_iff.mpr (fun x hx => by have := h x hx; simp; omega)]
  rfl
theorem lt_cl : ∀ {l : List Nat} {j k : Nat}, l.Pairwise (· < ·) → ∀ h : k < l.length, (l[k] < j ↔ k < cl l j)
  | [], j, k, _, h => by simp at h
  | a :: r, j, k, p, h => by
    obtain ⟨p1, p2⟩ := List.pairwise_cons.mp p
    by_cases ha : a < j
    · have e : cl (a :: r) j = cl r j + 1 := by
        unfold cl
        rw [List.filter_cons, if_pos (decide_eq_true ha), List.length_cons]
      rw [e]
      cases k with
      | zero => simp [ha]
      | succ k =>
        rw [List.getElem_cons_succ, lt_cl p2 (by simpa using h)]
        omega
    · have e : cl (a :: r) j = 0 := cl_none fun x hx => by
        rcases List.mem_cons.mp hx with z | z
        · omega
        · have := p1 x z; omega
      rw [e]
      cases k with
      | zero => simp; omega
      | succ k =>
        rw [List.getElem_cons_succ]
        have := p1 _ (List.getElem_mem (show k < r.length by simpa using h))
        omega
theorem below_go {l : List Nat} {j : Nat} (p : l.Pairwise (· < ·)) : ∀ (fuel lo hi : Nat), lo ≤ cl l j → cl l j ≤ hi → hi ≤ l.length → hi - lo ≤ fuel → below.go l.toArray j fuel lo hi = cl l j
  | 0, lo, hi, h1, h2, _, h4 => by
    show lo = _
    omega
  | fuel + 1, lo, hi, h1, h2, h3, h4 => by
    unfold below.go
    by_cases hlt : lo < hi
    · rw [if_pos hlt]
      have hm : (lo + hi) / 2 < l.length := by omega
      have e : l.toArray.getD ((lo + hi) / 2) j = l[(lo + hi) / 2] := by simp [hm]
      have iff := lt_cl (j := j) p hm
      by_cases hc : l[(lo + hi) / 2] < j
      · simp only [e, hc, if_true]
        exact below_go p fuel _ _ (by have := iff.mp hc; omega) h2 h3 (by omega)
      · simp only [e, hc, if_false]
        exact below_go p fuel _ _ h1 (by have := fun z => hc (iff.mpr z); omega) (by omega) (by omega)
    · rw [if_neg hlt]
      omega
theorem below_eq {l : List Nat} (p : l.Pairwise (· < ·)) (j : Nat) : below l.toArray j = cl l j := by
  unfold below
  exact below_go p _ _ _ (Nat.zero_le _) (by simpa using cl_le l j) (by simp) (by simp)
theorem insertAt_list {α : Type} (l : List α) (p : Nat) (x : α) : (insertAt l.toArray p x).toList = l.take p ++ x :: l.drop p := by
  unfold insertAt
  simp
  exact List.take_of_length_le (by rw [List.length_drop]; omega)
/-- where j is not there, it is put behind all that are less -/
theorem ins_sorted : ∀ {l : List Nat} {j : Nat}, l.Pairwise (· < ·) → j ∉ l → (l.take (cl l j) ++ j :: l.drop (cl l j)).Pairwise (· < ·)
  | [], j, _, _ => by simp
  | a :: r, j, p, nj => by
    obtain ⟨p1, p2⟩ := List.pairwise_cons.mp p
    have na : j ≠ a := fun z => nj (by rw [z]; exact List.mem_cons_self)
    by_cases ha : a < j
    · have e : cl (a :: r) j = cl r j + 1 := by
        unfold cl
        rw [List.filter_cons, if_pos (decide_eq_true ha), List.length_cons]
      rw [e, List.take_succ_cons, List.drop_succ_cons, List.cons_append]
      refine List.pairwise_cons.mpr ⟨fun x hx => ?_, ins_sorted p2 fun z => nj (List.mem_cons_of_mem _ z)⟩
      rcases List.mem_append.mp hx with z | z
      · exact p1 x (List.take_subset _ _ z)
      · rcases List.mem_cons.mp z with z | z
        · rw [z]; exact ha
        · exact p1 x (List.drop_subset _ _ z)
    · have e : cl (a :: r) j = 0 := cl_none fun x hx => by
        rcases List.mem_cons.mp hx with z | z
        · omega
        · have := p1 x z; omega
      rw [e]
      refine List.pairwise_cons.mpr ⟨fun x hx => ?_, p⟩
      rcases List.mem_cons.mp hx with z | z
      · omega
      · have := p1 x z; omega
/-- a table without dummies -/
abbrev tb (m : Nat) (pl : List Nat) (led : Bool) (mv : Nat) : SetTable := { mask := m, place := pl.toArray, dummies := #[], finger := 0, led := led, moves := mv, plain := true }
theorem go_same (m : Nat) (pl : List Nat) (led : Bool) (mv : Nat) (ha : Nat → Int) (h : Int) : ∀ (fuel : Nat) (p : Probe), probe.go (tb m pl led mv) ha h fuel p = probe.go (tb m pl true 0) ha h fuel p
  | 0, _ => rfl
  | fuel + 1, p => by
    unfold probe.go
    have e : (tb m pl led mv).slot p.j = (tb m pl true 0).slot p.j := rfl
    rw [e]
    cases (tb m pl true 0).slot p.j with
    | empty => rfl
    | dummy => exact go_same m pl led mv ha h fuel _
    | live i =>
      dsimp only
      split
      · rfl
      · exact go_same m pl led mv ha h fuel _
theorem free_same (m : Nat) (pl : List Nat) (led : Bool) (mv : Nat) (h : Int) : (tb m pl led mv).freeSlot h = (tb m pl true 0).freeSlot h := by
  unfold freeSlot probe
  rw [show (tb m pl led mv).probeStart h = (tb m pl true 0).probeStart h from rfl, show 10 * turns (tb m pl led mv).mask = 10 * turns (tb m pl true 0).mask from rfl, go_same]
def bitsL (n m : Nat) : List Nat := (List.range n).filter fun k => m.testBit k
def ok7 (pl : List Nat) (h : Nat) : Bool := match (tb 7 pl true 0).freeSlot h with
  | some (j, d) => !d && decide (j < 8) && !pl.contains j
  | none => false
def all7 : Bool := (List.range 256).all fun m => decide (4 < (bitsL 8 m).length) || (List.range 10).all fun h => ok7 (bitsL 8 m) h
theorem all7_true : all7 = true := by decide +kernel
theorem sorted_bits {n : Nat} {pl : List Nat} (p : pl.Pairwise (· < ·)) (h : ∀ x ∈ pl, x < n) : pl = bitsL n (Wd.maskL pl) := by
  refine Wd.pw_ext p (List.Pairwise.filter _ List.pairwise_lt_range) fun x => ?_
  unfold bitsL
  rw [List.mem_filter, List.mem_range, Wd.maskL_bit]
  exact ⟨fun z => ⟨h x z, by simpa using z⟩, fun z => by simpa using z.2⟩
theorem free7 {pl : List Nat} (p : pl.Pairwise (· < ·)) (h8 : ∀ x ∈ pl, x < 8) (l4 : pl.length ≤ 4) {h : Nat} (h10 : h < 10) (led : Bool) (mv : Nat) : ∃ j, (tb 7 pl led mv).freeSlot h = some (j, false) ∧ j < 8 ∧ j ∉ pl := by
  have a := all7_true
  unfold all7 at a
  rw [List.all_eq_true] at a
  have e := sorted_bits p h8
  have b := a (Wd.maskL pl) (List.mem_range.mpr (Wd.maskL_lt h8))
  rw [← e, Bool.or_eq_true, decide_eq_true_eq] at b
  rcases b with b | b
  · omega
  · rw [List.all_eq_true] at b
    have c := b h (List.mem_range.mpr h10)
    unfold ok7 at c
    rw [free_same]
    cases hf : (tb 7 pl true 0).freeSlot h with
    | none => rw [hf] at c; cases c
    | some q =>
      obtain ⟨j, dd⟩ := q
      rw [hf] at c
      simp only [Bool.and_eq_true, Bool.not_eq_true', decide_eq_true_eq] at c
      obtain ⟨⟨c1, c2⟩, c3⟩ := c
      refine ⟨j, by rw [c1], c2, fun z => ?_⟩
      rw [List.contains_iff_mem.mpr z] at c3
      cases c3
theorem slot_empty {m : Nat} {pl : List Nat} (p : pl.Pairwise (· < ·)) {j : Nat} (h : j ∉ pl) (led : Bool) (mv : Nat) : (tb m pl led mv).slot j = .empty := by
  unfold slot
  dsimp only
  rw [below_eq p]
  have n1 : (pl.toArray[cl pl j]? == some j) = false := by
    rw [List.getElem?_toArray, Bool.eq_false_iff]
    intro z
    exact h (List.mem_of_getElem? (by simpa using z))
  rw [n1]
  have n2 : has #[] j = false := rfl
  rw [n2]
  rfl
theorem free31 {pl : List Nat} (p : pl.Pairwise (· < ·)) {h : Nat} (h32 : h < 32) (nh : h ∉ pl) (led : Bool) (mv : Nat) : (tb 31 pl led mv).freeSlot h = some (h, false) := by
  have eb : bits (h : Int) = h := by
    unfold bits
    have : ((h : Int) % (2 ^ 64 : Int)) = h := Int.emod_eq_of_lt (by omega) (by omega)
    rw [this]
    rfl
  have ej : ((tb 31 pl led mv).probeStart (h : Int)).j = h := by
    show bits (h : Int) % 32 = h
    rw [eb, Nat.mod_eq_of_lt h32]
  unfold freeSlot probe
  rw [show 10 * turns (tb 31 pl led mv).mask = 459 + 1 from rfl]
  unfold probe.go
  rw [ej, slot_empty p nh]
  rfl
/-! laid anew, with room for 32 -/
def own (pre : List Nat) : Array (Option Nat) := ((List.range 32).map fun j => if j ∈ pre then some (pre.idxOf j) else none).toArray
theorem own_at {pre : List Nat} {j : Nat} (h : j < 32) (d : Option Nat) : (own pre).getD j d = if j ∈ pre then some (pre.idxOf j) else none := by
  unfold own
  rw [Array.getD_eq_getD_getElem?, List.getElem?_toArray, List.getElem?_map, List.getElem?_range h]
  rfl
theorem own_put {pre : List Nat} {v : Nat} (h : v ∉ pre) : (own pre).setIfInBounds v (some pre.length) = own (pre ++ [v]) := by
  apply Array.ext_getElem?
  intro j
  unfold own
  rw [List.setIfInBounds_toArray, List.getElem?_toArray, List.getElem?_toArray, List.getElem?_set]
  simp only [List.length_map, List.length_range, List.getElem?_map]
  by_cases e : v = j
  · subst e
    by_cases h32 : v < 32
    · rw [if_pos rfl, if_pos h32, List.getElem?_range h32]
      simp [List.idxOf_append, h]
    · rw [if_pos rfl, if_neg h32, List.getElem?_eq_none (by simp; omega)]
      rfl
  · rw [if_neg e]
    by_cases h32 : j < 32
    · rw [List.getElem?_range h32]
      have e' : ¬ j = v := fun z => e z.symm
      simp only [Option.map_some, List.mem_append, List.mem_singleton, e', or_false, List.idxOf_append]
      by_cases hj : j ∈ pre
      · simp [hj]
      · simp [hj]
    · rw [List.getElem?_eq_none (by simp; omega)]
      rfl
theorem bits_small {v : Nat} (h : v < 10) : bits (v : Int) = v := by
  unfold bits
  have : ((v : Int) % (2 ^ 64 : Int)) = v := Int.emod_eq_of_lt (by omega) (by omega)
  rw [this]
  rfl
theorem free_at {pre : List Nat} {v : Nat} (h : v < 10) (nv : v ∉ pre) : layClean.free 31 (own pre) (turns 31) (bits (v : Int) % 32) (bits (v : Int)) = some v := by
  rw [bits_small h, Nat.mod_eq_of_lt (by omega), show turns 31 = 45 + 1 from rfl]
  unfold layClean.free
  have er : runEnd 31 v + 1 - v = 9 + 1 := by
    unfold runEnd
    rw [if_pos (by omega)]
    omega
  rw [er, List.range_succ_eq_map, List.find?_cons]
  have e0 : ((own pre).getD (v + 0) (some 0)).isNone = true := by
    rw [Nat.add_zero, own_at (by omega), if_neg nv]
    rfl
  rw [e0]
  rfl
theorem fold_own : ∀ (vs pre : List Nat), (pre ++ vs).Nodup → (∀ v ∈ vs, v < 10) →
    (vs.map fun v : Nat => (v : Int)).foldl (fun (acc : Option (Array (Option Nat) × Nat)) (h : Int) => do
      let (owner, k) ← acc
      let j ← layClean.free 31 owner (turns 31) (bits h % (31 + 1)) (bits h)
      pure (owner.setIfInBounds j (some k), k + 1)) (some (own pre, pre.length)) = some (own (pre ++ vs), (pre ++ vs).length)
  | [], pre, _, _ => by rw [List.append_nil]; rfl
  | v :: vs, pre, nd, h => by
    have nv : v ∉ pre := fun z => (List.nodup_append.mp nd).2.2 v z v List.mem_cons_self rfl
    rw [List.map_cons, List.foldl_cons]
    have e : (do
      let (owner, k) ← (some (own pre, pre.length) : Option (Array (Option Nat) × Nat))
      let j ← layClean.free 31 owner (turns 31) (bits (v : Int) % (31 + 1)) (bits (v : Int))
      pure (owner.setIfInBounds j (some k), k + 1)) = some (own (pre ++ [v]), (pre ++ [v]).length) := by
      show (layClean.free 31 (own pre) (turns 31) (bits (v : Int) % (31 + 1)) (bits (v : Int))).bind (fun j => some ((own pre).setIfInBounds j (some pre.length), pre.length + 1)) = _
      rw [free_at (h v List.mem_cons_self) nv]
      show some (_, _) = _
      rw [own_put nv, List.length_append]
      rfl
    rw [e, fold_own vs (pre ++ [v]) (by rw [List.append_assoc]; exact nd) fun x hx => h x (List.mem_cons_of_mem _ hx), List.append_assoc]
    rfl
theorem own_nil : own [] = Array.replicate (31 + 1) none := by decide +kernel
theorem clean31 {vs : List Nat} (nd : vs.Nodup) (h : ∀ v ∈ vs, v < 10) : layClean 31 (vs.map fun v : Nat => (v : Int)).toArray = some (own vs) := by
  unfold layClean
  rw [List.foldl_toArray, ← own_nil]
  have e := fold_own vs [] nd h
  rw [List.nil_append] at e
  exact congrArg (Option.map (·.1)) e
def srt (vs : List Nat) : List Nat := (List.range 32).filter fun j => decide (j ∈ vs)
theorem live31 (vs : List Nat) : ((List.range (31 + 1)).filterMap fun j => ((own vs).getD j none).map fun x => (j, x)) = (srt vs).map fun j => (j, vs.idxOf j) := by
  have go : ∀ l : List Nat, (∀ j ∈ l, j < 32) → (l.filterMap fun j => ((own vs).getD j none).map fun x => (j, x)) = (l.filter fun j => decide (j ∈ vs)).map fun j => (j, vs.idxOf j) := by
    intro l
    induction l with
    | nil => intro _; rfl
    | cons a l ih =>
      intro h
      rw [List.filterMap_cons, own_at (h a List.mem_cons_self), List.filter_cons]
      by_cases ha : a ∈ vs
      · rw [if_pos ha, if_pos (decide_eq_true ha), List.map_cons, ← ih fun j hj => h j (List.mem_cons_of_mem _ hj)]
        rfl
      · rw [if_neg ha, if_neg (by simpa using ha), ← ih fun j hj => h j (List.mem_cons_of_mem _ hj)]
        rfl
  exact go _ fun j hj => List.mem_range.mp hj
theorem srt_pw (vs : List Nat) : (srt vs).Pairwise (· < ·) := List.Pairwise.filter _ List.pairwise_lt_range
theorem srt_mem {vs : List Nat} (h : ∀ v ∈ vs, v < 10) (x : Nat) : x ∈ srt vs ↔ x ∈ vs := by
  unfold srt
  rw [List.mem_filter, List.mem_range, decide_eq_true_eq]
  exact ⟨fun z => z.2, fun z => ⟨by have := h x z; omega, z⟩⟩
theorem srt_perm {vs : List Nat} (nd : vs.Nodup) (h : ∀ v ∈ vs, v < 10) : (srt vs).Perm vs := by
  refine (List.perm_ext_iff_of_nodup ?_ nd).mpr (srt_mem h)
  exact (srt_pw vs).imp fun z => Nat.ne_of_lt z
theorem idx_range {vs : List Nat} (nd : vs.Nodup) : vs.map (fun v => vs.idxOf v) = List.range vs.length := by
  apply List.ext_getElem
  · rw [List.length_map, List.length_range]
  · intro i h1 h2
    rw [List.getElem_map, List.getElem_range]
    exact nd.idxOf_getElem _ _
/-- an element -/
abbrev ev (p : Nat × Tok) : Int × Value := ((p.1 : Int), Value.int (p.1 : Int) p.2)
theorem relay31 {ent : List (Nat × Tok)} {sl : List Nat} {led : Bool} {mv : Nat} (nd : (ent.map (·.1)).Nodup) (h : ∀ v ∈ ent.map (·.1), v < 10) (l5 : ent.length = 5) :
    ∃ (ent' : List (Nat × Tok)) (mv' : Nat), relayAll (tb 7 sl led mv) (ent.map ev).toArray (grown 5) = ((ent'.map ev).toArray, tb 31 (srt (ent.map (·.1))) led mv', false) ∧ ent'.map (·.1) = srt (ent.map (·.1)) := by
  obtain ⟨vs, hvs⟩ : ∃ vs, vs = ent.map (·.1) := ⟨_, rfl⟩
  rw [← hvs] at nd h ⊢
  have hs : (ent.map ev).toArray.map (·.1) = (vs.map fun v : Nat => (v : Int)).toArray := by
    rw [List.map_toArray, hvs, List.map_map, List.map_map]
    rfl
  have hr : (tb 7 sl led mv).relaid ((ent.map ev).toArray.map (·.1)) (grown 5) = some (tb 31 (srt vs) led ((tb 7 sl led mv).movedTo 31), ((srt vs).map fun j => vs.idxOf j).toArray) := by
    unfold relaid
    rw [show sizeAbove (grown 5) - 1 = 31 from rfl]
    unfold laid
    rw [hs, clean31 nd h]
    show some (_, _) = _
    rw [live31, List.map_map, List.map_map]
    have e1 : (srt vs).map ((fun p : Nat × Nat => p.1) ∘ fun j => (j, vs.idxOf j)) = srt vs := List.map_id'' (fun _ => rfl) _
    show some (({ mask := 31, place := ((srt vs).map ((fun p : Nat × Nat => p.1) ∘ fun j => (j, vs.idxOf j))).toArray, dummies := #[], finger := 0, led := led, moves := (tb 7 sl led mv).movedTo 31, plain := true } : SetTable), _) = _
    rw [e1]
    rfl
  have at_ : ∀ v ∈ srt vs, ∃ e, ent[vs.idxOf v]? = some e ∧ e.1 = v := fun v hv => by
    have hm : v ∈ vs := (srt_mem h v).mp hv
    have hi : vs.idxOf v < vs.length := List.idxOf_lt_length_iff.mpr hm
    have hi' : vs.idxOf v < ent.length := by rw [hvs, List.length_map] at hi; rw [hvs]; exact hi
    refine ⟨ent[vs.idxOf v], List.getElem?_eq_getElem hi', ?_⟩
    have e1 : vs[vs.idxOf v] = v := List.getElem_idxOf hi
    have e2 : vs[vs.idxOf v]? = (ent[vs.idxOf v]?).map (·.1) := by conv => lhs; rw [show vs[vs.idxOf v]? = (ent.map (·.1))[vs.idxOf v]? from by rw [← hvs]]; rw [List.getElem?_map]
    rw [List.getElem?_eq_getElem hi, List.getElem?_eq_getElem hi', e1] at e2
    exact (Option.some.inj e2).symm
  refine ⟨(srt vs).filterMap fun v => ent[vs.idxOf v]?, (tb 7 sl led mv).movedTo 31, ?_, ?_⟩
  · unfold relayAll
    rw [hr]
    dsimp only
    have ee : (((srt vs).map fun j => vs.idxOf j).toArray.filterMap fun i => (ent.map ev).toArray[i]?) = (((srt vs).filterMap fun v => ent[vs.idxOf v]?).map ev).toArray := by
      rw [List.filterMap_toArray, List.filterMap_map, List.map_filterMap]
      congr 1
      congr 1
      funext v
      show (ent.map ev).toArray[vs.idxOf v]? = _
      rw [List.getElem?_toArray, List.getElem?_map]
    rw [ee]
    have ln : ((srt vs).filterMap fun v => ent[vs.idxOf v]?).length = 5 := by
      have : ((srt vs).filterMap fun v => ent[vs.idxOf v]?).length = (srt vs).length := by
        have go : ∀ l : List Nat, (∀ v ∈ l, ∃ e, ent[vs.idxOf v]? = some e ∧ e.1 = v) → (l.filterMap fun v => ent[vs.idxOf v]?).length = l.length := by
          intro l
          induction l with
          | nil => intro _; rfl
          | cons a l ih =>
            intro hh
            obtain ⟨e, he, _⟩ := hh a List.mem_cons_self
            rw [List.filterMap_cons, he, List.length_cons, List.length_cons, ih fun v hv => hh v (List.mem_cons_of_mem _ hv)]
        exact go _ at_
      rw [this, (srt_perm nd h).length_eq, hvs, List.length_map, l5]
    have cv : coversAll ((srt vs).map fun j => vs.idxOf j).toArray (ent.map ev).toArray.size = true := by
      unfold coversAll
      rw [List.isPerm_iff, List.size_toArray, List.length_map]
      have pm := (srt_perm nd h).map (fun v => vs.idxOf v)
      rw [idx_range nd] at pm
      rw [show ent.length = vs.length from by rw [hvs, List.length_map]]
      exact pm
    have ft : (tb 31 (srt vs) led ((tb 7 sl led mv).movedTo 31)).fits (((srt vs).filterMap fun v => ent[vs.idxOf v]?).map ev).toArray.size = true := by
      have z5 : (((srt vs).filterMap fun v => ent[vs.idxOf v]?).map ev).toArray.size = 5 := by rw [List.size_toArray, List.length_map, ln]
      rw [z5]
      unfold fits
      have sl5 : (srt vs).length = 5 := by rw [(srt_perm nd h).length_eq, hvs, List.length_map, l5]
      have e1 : (tb 31 (srt vs) led ((tb 7 sl led mv).movedTo 31)).place.size = 5 := by simp [sl5]
      have e2 : (tb 31 (srt vs) led ((tb 7 sl led mv).movedTo 31)).fill = 5 := by unfold fill; rw [e1]; rfl
      rw [e1, e2]
      rfl
    rw [cv, ft]
    rfl
  · have go : ∀ l : List Nat, (∀ v ∈ l, ∃ e, ent[vs.idxOf v]? = some e ∧ e.1 = v) → (l.filterMap fun v => ent[vs.idxOf v]?).map (·.1) = l := by
      intro l
      induction l with
      | nil => intro _; rfl
      | cons a l ih =>
        intro hh
        obtain ⟨e, he, e1⟩ := hh a List.mem_cons_self
        rw [List.filterMap_cons, he, List.map_cons, e1, ih fun v hv => hh v (List.mem_cons_of_mem _ hv)]
    exact go _ at_
/-- the state of a set of small whole numbers: its elements in the order of their places -/
structure Ts (es : Array (Int × Value)) (t : SetTable) (led : Bool) (ent : List (Nat × Tok)) : Prop where
  ex : ∃ (m : Nat) (sl : List Nat) (mv : Nat), t = tb m sl led mv ∧ sl.length = ent.length ∧ sl.Pairwise (· < ·) ∧ ((m = 7 ∧ ent.length ≤ 4 ∧ ∀ x ∈ sl, x < 8) ∨ (m = 31 ∧ ent.length ≤ 10 ∧ sl = ent.map (·.1)))
  es : es = (ent.map ev).toArray
  nd : (ent.map (·.1)).Nodup
  lt : ∀ v ∈ ent.map (·.1), v < 10
theorem few10 {vs : List Nat} (nd : vs.Nodup) (h : ∀ v ∈ vs, v < 10) : vs.length ≤ 10 := by
  have z := nd.length_le_of_subset (l₂ := List.range 10) fun v hv => List.mem_range.mpr (h v hv)
  rwa [List.length_range] at z
theorem fits_tb {m : Nat} {sl : List Nat} {led : Bool} {mv n : Nat} (h : sl.length = n) (h2 : n ≤ m) : (tb m sl led mv).fits n = true := by
  unfold fits
  have e1 : (tb m sl led mv).place.size = n := by simp [h]
  have e2 : (tb m sl led mv).fill = n := by unfold fill; rw [e1]; rfl
  rw [e1, e2]
  simp [h2]
theorem Ts.fits {es : Array (Int × Value)} {t : SetTable} {led : Bool} {ent : List (Nat × Tok)} (h : Ts es t led ent) : t.fits es.size = true := by
  obtain ⟨m, sl, mv, rfl, hl, _, hm⟩ := h.ex
  rw [h.es, List.size_toArray, List.length_map]
  refine fits_tb hl ?_
  rcases hm with ⟨rfl, z, _⟩ | ⟨rfl, z, _⟩ <;> omega
theorem put_tb {m : Nat} {sl : List Nat} {led : Bool} {mv j : Nat} (p : sl.Pairwise (· < ·)) : (tb m sl led mv).put j = (tb m (sl.take (cl sl j) ++ j :: sl.drop (cl sl j)) led mv, cl sl j) := by
  unfold put
  dsimp only
  rw [below_eq p]
  have e1 : insertAt sl.toArray (cl sl j) j = (sl.take (cl sl j) ++ j :: sl.drop (cl sl j)).toArray := by
    apply Array.toList_inj.mp
    rw [insertAt_list]
  rw [e1]
  rfl
/-- a new element is laid: no table gives way -/
theorem lay {es : Array (Int × Value)} {t : SetTable} {led : Bool} {ent : List (Nat × Tok)} (T : Ts es t led ent) {n : Nat} (n10 : n < 10) (nn : n ∉ ent.map (·.1)) (tk : Tok) :
    ∃ es1 t1, layNew t es (n : Int) (.int (n : Int) tk) = (es1, t1, false, false) ∧ t1.plain = true ∧ es1.size = ent.length + 1 ∧ t1.fits es1.size = true ∧
      ((t1.tooFull = false ∧ ∃ ent', Ts es1 t1 led ent' ∧ (ent'.map (·.1)).Perm (n :: ent.map (·.1))) ∨
       (t1.tooFull = true ∧ ∃ es2 t2, relayAll t1 es1 (grown es1.size) = (es2, t2, false) ∧ ∃ ent', Ts es2 t2 led ent' ∧ (ent'.map (·.1)).Perm (n :: ent.map (·.1)))) := by
  obtain ⟨m, sl, mv, rfl, hl, pw, hm⟩ := T.ex
  have he := T.es
  obtain ⟨j, hj, nj, jm⟩ : ∃ j, (tb m sl led mv).freeSlot (n : Int) = some (j, false) ∧ j ∉ sl ∧ (m = 7 → j < 8) ∧ (m = 31 → j = n) := by
    rcases hm with ⟨rfl, l4, h8⟩ | ⟨rfl, l10, rfl⟩
    · obtain ⟨j, h1, h2, h3⟩ := free7 pw h8 (by omega) n10 led mv
      exact ⟨j, h1, h3, fun _ => h2, (fun z => by cases z)⟩
    · exact ⟨n, free31 pw (by omega) nn led mv, nn, (fun z => by cases z), fun _ => rfl⟩
  have hp := put_tb (m := m) (led := led) (mv := mv) (j := j) pw
  obtain ⟨p, hpp⟩ : ∃ p, p = cl sl j := ⟨_, rfl⟩
  have pl : p ≤ ent.length := by rw [hpp, ← hl]; exact cl_le _ _
  have pw' := ins_sorted pw nj
  rw [← hpp] at hp pw'
  obtain ⟨sl', hsl⟩ : ∃ sl', sl' = sl.take p ++ j :: sl.drop p := ⟨_, rfl⟩
  rw [← hsl] at hp pw'
  obtain ⟨ent', hent⟩ : ∃ ent', ent' = ent.take p ++ (n, tk) :: ent.drop p := ⟨_, rfl⟩
  have le' : ent'.length = ent.length + 1 := by
    rw [hent, List.length_append, List.length_cons, List.length_take, List.length_drop]
    omega
  have ls' : sl'.length = ent.length + 1 := by
    rw [hsl, List.length_append, List.length_cons, List.length_take, List.length_drop]
    omega
  have ee : insertAt es p ((n : Int), .int (n : Int) tk) = (ent'.map ev).toArray := by
    apply Array.toList_inj.mp
    rw [he, insertAt_list, hent, List.map_append, List.map_cons, List.map_take, List.map_drop]
  have fst' : ent'.map (·.1) = (ent.map (·.1)).take p ++ n :: (ent.map (·.1)).drop p := by
    rw [hent, List.map_append, List.map_cons, List.map_take, List.map_drop]
  have pm : (ent'.map (·.1)).Perm (n :: ent.map (·.1)) := by
    rw [fst']
    have z := List.perm_middle (a := n) (l₁ := (ent.map (·.1)).take p) (l₂ := (ent.map (·.1)).drop p)
    rwa [List.take_append_drop] at z
  have nd' : (ent'.map (·.1)).Nodup := pm.nodup_iff.mpr (List.nodup_cons.mpr ⟨nn, T.nd⟩)
  have lt' : ∀ v ∈ ent'.map (·.1), v < 10 := fun v hv => by
    rcases List.mem_cons.mp (pm.subset hv) with z | z
    · omega
    · exact T.lt v z
  have f10 := few10 nd' lt'
  rw [List.length_map, le'] at f10
  have mle : ent.length + 1 ≤ m := by
    rcases hm with ⟨rfl, l4, _⟩ | ⟨rfl, _, _⟩ <;> omega
  have sz : (ent'.map ev).toArray.size = ent.length + 1 := by rw [List.size_toArray, List.length_map, le']
  have ft : (tb m sl' led mv).fits (ent.length + 1) = true := fits_tb ls' mle
  refine ⟨(ent'.map ev).toArray, tb m sl' led mv, ?_, rfl, sz, by rw [sz]; exact ft, ?_⟩
  · unfold layNew
    rw [hj]
    dsimp only
    rw [hp]
    dsimp only
    rw [ee, sz]
    unfold orStandIn
    rw [ft]
    rfl
  · have fl : (tb m sl' led mv).tooFull = decide ((ent.length + 1) * 5 ≥ m * 3) := by
      unfold tooFull
      have e2 : (tb m sl' led mv).fill = ent.length + 1 := by
        unfold fill
        have e1 : (tb m sl' led mv).place.size = ent.length + 1 := by simp [ls']
        rw [e1]
        rfl
      rw [e2]
    rcases hm with ⟨rfl, l4, h8⟩ | ⟨rfl, l10, rfl⟩
    · by_cases full : ent.length = 4
      · refine .inr ⟨by rw [fl]; exact decide_eq_true (by omega), ?_⟩
        obtain ⟨ent2, mv2, r1, r2⟩ := relay31 (ent := ent') (sl := sl') (led := led) (mv := mv) nd' lt' (by omega)
        rw [sz, full]
        refine ⟨_, _, r1, ent2, ?_, ?_⟩
        · refine ⟨⟨31, srt (ent'.map (·.1)), mv2, rfl, by rw [← r2, List.length_map], srt_pw _, .inr ⟨rfl, ?_, r2.symm⟩⟩, rfl, ?_, ?_⟩
          · have := (srt_perm nd' lt').length_eq
            rw [← r2, List.length_map, List.length_map] at this
            omega
          · rw [r2]
            exact (srt_pw _).imp fun z => Nat.ne_of_lt z
          · rw [r2]
            exact fun v hv => lt' v ((srt_mem lt' v).mp hv)
        · rw [r2]
          exact (srt_perm nd' lt').trans pm
      · refine .inl ⟨by rw [fl]; exact decide_eq_false (by omega), ent', ⟨⟨7, sl', mv, rfl, by omega, pw', .inl ⟨rfl, by omega, fun x hx => ?_⟩⟩, rfl, nd', lt'⟩, pm⟩
        rw [hsl] at hx
        rcases List.mem_append.mp hx with z | z
        · exact h8 x (List.take_subset _ _ z)
        · rcases List.mem_cons.mp z with z | z
          · rw [z]; exact jm.1 rfl
          · exact h8 x (List.drop_subset _ _ z)
    · refine .inl ⟨by rw [fl]; exact decide_eq_false (by omega), ent', ⟨⟨31, sl', mv, rfl, by omega, pw', .inr ⟨rfl, by omega, ?_⟩⟩, rfl, nd', lt'⟩, pm⟩
      rw [hsl, fst', jm.2 rfl]
end Sx

set_option maxRecDepth 100000
set_option maxHeartbeats 4000000
/-! ### A set of small whole numbers, made of a list -/
namespace Sx
open PySem PySem.SetTable PyProof.Rows
section
variable {prog : Program} {w : World} {A : Around} {E : Value → Shared → Prop} {s : Shared} {p : Addr} {led : Bool} {ent : List (Nat × Tok)}
def SetS (h : Heap) (p : Addr) (led : Bool) (ent : List (Nat × Tok)) : Prop := ∃ o es ep t, h.get? p = some o ∧ o.ExactSet ∧ o.data = .set es ep t ∧ Ts es t led ent
theorem hash10 {n : Nat} (h : n < 10) : hashInt (n : Int) = n := by
  have z : ∀ m : Fin 10, hashInt ((m.val : Nat) : Int) = m.val := by decide
  exact z ⟨n, h⟩
theorem Ts.elems {es : Array (Int × Value)} {t : SetTable} (T : Ts es t led ent) : ElemsOf (intKind prog w) es.toList := fun e he => by
  rw [T.es] at he
  obtain ⟨q, hq, rfl⟩ := List.mem_map.mp he
  refine ⟨⟨(q.1 : Int), intKind_is _ _ _ _, ?_⟩, rfl⟩
  show (q.1 : Int) = hashInt (q.1 : Int)
  rw [hash10 (T.lt _ (List.mem_map_of_mem hq))]
theorem Ts.size {es : Array (Int × Value)} {t : SetTable} (T : Ts es t led ent) : es.size = ent.length ∧ es.size ≤ 10 := by
  have h1 : es.size = ent.length := by rw [T.es, List.size_toArray, List.length_map]
  have h2 := few10 T.nd T.lt
  rw [List.length_map] at h2
  exact ⟨h1, by omega⟩
theorem add_small (hS : SetS s.heap p led ent) {n : Nat} (n10 : n < 10) {tk : Tok} {Q : Bool → Shared → Prop}
    (h : ∀ b h' ent', Heap.SameBut p s.heap h' → SetS h' p led ent' → (∀ v, v ∈ ent'.map (·.1) ↔ v = n ∨ v ∈ ent.map (·.1)) → Q b { s with heap := h' }) :
    wpAny (model prog w) A (setAddHashed p (.int (n : Int) tk) (hashInt (n : Int))) Q E s := by
  obtain ⟨o, es, ep, t, ho, hx, hd, T⟩ := hS
  have hE : ElemsOf (intKind prog w) es.toList := T.elems
  obtain ⟨z1, z2⟩ := T.size
  have key : (intKind prog w).is (n : Int) (.int (n : Int) tk) = true := intKind_is _ _ _ _
  unfold setAddHashed setAddHashedIn
  refine wpAny_holding (wpAny_bind (wpAny_setState_of ho hd T.fits ?_))
  simp only [byScan_of (knd := intKind prog w) (x := .int (n : Int) tk) rfl (show es.size < 4096 by omega) hE, if_true]
  unfold setAddByScan
  refine wpAny_bind (wpAny_bind (wpAny_rule (wpAny_bind (wpAny_setScan_of (knd := intKind prog w) key ho hd T.fits hE ?_))))
  cases hf : List.findIdx? (fun e => (intKind prog w).is (n : Int) e.2) es.toList with
  | some j =>
    obtain ⟨hj, hp, _⟩ := List.findIdx?_eq_some_iff_getElem.mp hf
    have hm : n ∈ ent.map (·.1) := by
      have m1 := List.getElem_mem hj
      generalize es.toList[j] = q at hp m1
      rw [T.es] at m1
      obtain ⟨e, he, rfl⟩ := List.mem_map.mp m1
      obtain ⟨t', e2⟩ := Value.isInt_shape (show Value.isInt (n : Int) (ev e).2 = true from hp)
      have e3 : (e.1 : Int) = n := by injection e2
      have : e.1 = n := by omega
      rw [← this]
      exact List.mem_map_of_mem he
    have e0 : s = { s with heap := s.heap } := by cases s; rfl
    refine wpAny_pure (wpAny_pure ?_)
    rw [e0]
    exact h _ s.heap ent (Heap.SameBut.refl p s.heap) ⟨o, es, ep, t, ho, hx, hd, T⟩ fun v => ⟨.inr, fun z => z.elim (fun y => y ▸ hm) id⟩
  | none =>
    have nn : n ∉ ent.map (·.1) := fun z => by
      obtain ⟨e, he, rfl⟩ := List.mem_map.mp z
      have q := List.findIdx?_eq_none_iff.mp hf (ev e) (by rw [T.es]; exact List.mem_map_of_mem he)
      rw [intKind_is] at q
      cases q
    obtain ⟨es1, t1, hL, hpl, hz1, hft, hc⟩ := lay T n10 nn tk
    obtain ⟨zl1, zl2⟩ : es1.size ≤ 11 ∧ es1.size < 4096 := ⟨by omega, by omega⟩
    dsimp only
    rw [hash10 n10, hL]
    dsimp only
    refine wpAny_bind (wpAny_pure ?_)
    rw [hpl]
    simp only [if_true]
    rw [hashByValue_scannable 8 (x := .int (n : Int) tk) rfl]
    refine wpAny_bind (wpAny_pure ?_)
    simp only [show plainKind (.int (n : Int) tk) = true from rfl, if_true]
    refine wpAny_bind (wpAny_storeSet_of ho hd ?_ (by rw [sizeLine_eq]; omega))
    have g1 : (s.heap.update p (Obj.putSet es1 t1)).get? p = some { o with data := .set es1 (ep + 1) t1 } := by
      have g := Heap.get?_update_self (Obj.putSet es1 t1) ho (by rw [putSet_of es1 t1 hd]; rfl)
      rwa [putSet_of es1 t1 hd] at g
    have sb1 := Heap.SameBut.update s.heap p (Obj.putSet es1 t1)
    rcases hc with ⟨hn, ent', T', pm⟩ | ⟨hn, es2, t2, hR, ent', T', pm⟩
    · simp only [hn, Bool.not_false, Bool.and_false, Bool.false_eq_true, if_false]
      refine wpAny_pure (wpAny_pure ?_)
      exact h _ _ ent' sb1 ⟨_, es1, _, t1, g1, hx, rfl, T'⟩ fun v => by rw [pm.mem_iff, List.mem_cons]
    · simp only [hn, hR, Bool.not_false, Bool.and_true, if_true]
      have g2 : ((s.heap.update p (Obj.putSet es1 t1)).update p (Obj.putSet es2 t2)).get? p = some { o with data := .set es2 (ep + 1 + 1) t2 } := by
        have g := Heap.get?_update_self (Obj.putSet es2 t2) g1 (by rw [putSet_of es2 t2 (o := { o with data := .set es1 (ep + 1) t1 }) rfl]; rfl)
        rwa [putSet_of es2 t2 (o := { o with data := .set es1 (ep + 1) t1 }) rfl] at g
      obtain ⟨z3, z4⟩ := T'.size
      refine wpAny_bind (wpAny_pure (wpAny_bind (wpAny_storeSet_of g1 rfl ?_ (by rw [sizeLine_eq]; omega))))
      refine wpAny_pure (wpAny_pure ?_)
      exact h _ _ ent' (sb1.trans (Heap.SameBut.update _ p _)) ⟨_, es2, _, t2, g2, hx, rfl, T'⟩ fun v => by rw [pm.mem_iff, List.mem_cons]
theorem SetS.keep {h h' : Heap} (S : SetS h p led ent) (k : ∀ o, h.get? p = some o → h'.get? p = some o) : SetS h' p led ent := by
  obtain ⟨o, es, ep, t, ho, rest⟩ := S
  exact ⟨o, es, ep, t, k o ho, rest⟩
end
/-- a set that things are put into, one by one: Sp h i M: the set holds what M says, behind at most i of them -/
structure Adds (prog : Program) (w : World) {κ : Type} (Rk : κ → Value → Prop) (ok : κ → Prop) (p : Addr) (Sp : Heap → Nat → (κ → Prop) → Prop) : Prop where
  add : ∀ {A : Around} {E : Value → Shared → Prop} {s : Shared} {k : κ} {x : Value} {i : Nat} {M : κ → Prop} {Q : Bool → Shared → Prop}, i < 1000 → ok k → Rk k x → Sp s.heap i M →
    (∀ b h', Heap.SameBut p s.heap h' → Sp h' (i + 1) (fun v => v = k ∨ M v) → Q b { s with heap := h', toks := s.toks + 1 }) → wpAny (model prog w) A (setAdd p x) Q E s
  keep : ∀ {h h' : Heap} {i : Nat} {M : κ → Prop}, Sp h i M → (∀ o, h.get? p = some o → h'.get? p = some o) → Sp h' i M
  same : ∀ {h : Heap} {i : Nat} {M M' : κ → Prop}, Sp h i M → (∀ v, M v ↔ M' v) → Sp h i M'
section
variable {prog : Program} {w : World} {A : Around} {R : Result → Shared → Prop} {I p : Addr} {fp wr : List Addr} {G : Array GenState → Array GenState → Prop} {n : Nat} {P : Nat → Value → Prop} {St : Nat → Shared → Prop}
variable {κ : Type} {Rk : κ → Value → Prop} {ok : κ → Prop} {Sp : Heap → Nat → (κ → Prop) → Prop}
/-- what a walk gives, put into the set one by one -/
theorem upd_loop (D : Adds prog w Rk ok p Sp) (W : WalksS prog w A.in1 I fp wr G n P St) (np : p ∉ fp) (val : Nat → κ) (hv : ∀ i v, P i v → Rk (val i) v) (hok : ∀ i, i < n → ok (val i)) (hn : n ≤ 1000) :
    ∀ (k i : Nat) (s : Shared), n - i = k → i ≤ n → St i s → Sp s.heap i (fun v => ∃ j, j < i ∧ val j = v) →
      (∀ s', Moved (p :: wr) G s s' → Sp s'.heap n (fun v => ∃ j, j < n ∧ val j = v) → R (.ok (.ret .none)) s') →
      codeAny (model prog w) A (.builtin "set.update.loop" ⟨[.ref p, .ref I], []⟩) R s
  | 0, i, s, hk, hi, st, S, fin => by
    have e : i = n := by omega
    subst e
    have nw : p ∉ wr := fun z => np (W.sub _ z)
    refine codeAny_builtin PyProof.Rows.F.entry_set_update_loop ?_
    rw [Around.under_plainId PyProof.Rows.F.plain_set_update_loop _]
    show wpAny _ _ (pyNext (.ref I) >>= _) _ _ s
    refine wpAny_bind (W.done s _ _ st fun s' mv => ?_)
    show wpAny _ _ (ret Value.none) _ _ s'
    exact wpAny_pure (fin s' (mv.mono fun b hb => List.mem_cons_of_mem _ hb) (D.keep S fun o e => mv.heap p o nw e))
  | k + 1, i, s, hk, hi, st, S, fin => by
    have lt : i < n := by omega
    have nw : p ∉ wr := fun z => np (W.sub _ z)
    refine codeAny_builtin PyProof.Rows.F.entry_set_update_loop ?_
    rw [Around.under_plainId PyProof.Rows.F.plain_set_update_loop _]
    show wpAny _ _ (pyNext (.ref I) >>= _) _ _ s
    refine wpAny_bind (W.item i s _ _ lt st fun v s' hP st' mv => ?_)
    have S' := D.keep S fun o e => mv.heap p o nw e
    show wpAny _ _ (holding [v] (setAdd p v) >>= _) _ _ s'
    refine wpAny_bind (wpAny_holding (D.add (by omega) (hok i lt) (hv i v hP) S' fun b h' sb S2 => ?_))
    refine wpAny_pure ⟨plainId_quiet PyProof.Rows.F.plain_set_update_loop _, upd_loop D W np val hv hok hn k (i + 1) _ (by omega) lt (W.frame _ s' _ _ st' (Nat.le_succ _) fun b hb o e => ?_) (D.same S2 fun v => ?_) fun s2 mv2 S3 => ?_⟩
    · rw [sb.2 b (fun z : b = p => np (z ▸ hb))]
      exact e
    · constructor
      · rintro (rfl | ⟨j, hj, e⟩)
        · exact ⟨i, Nat.lt_succ_self i, rfl⟩
        · exact ⟨j, Nat.lt_succ_of_lt hj, e⟩
      · rintro ⟨j, hj, e⟩
        rcases Nat.lt_or_eq_of_le (Nat.le_of_lt_succ hj) with z | z
        · exact .inr ⟨j, z, e⟩
        · exact .inl (by rw [← e, z])
    · refine fin s2 (Moved.trans W.gtrans ((mv.mono fun b hb => List.mem_cons_of_mem _ hb).then_heap (Nat.le_succ _) fun b o hb e => ?_) mv2) S3
      rw [sb.2 b (fun z : b = p => hb (z ▸ List.mem_cons_self))]
      exact e
end
section
variable {prog : Program} {w : World} {A : Around} {E : Value → Shared → Prop} {s : Shared}
/-- a set's object, new -/
abbrev newO (led : Bool) : Obj := { cls := .type "set", dict := none, data := .set #[] 0 (.fresh 0 0 led) }
theorem fresh_S {h : Heap} {p : Addr} {led : Bool} (e : h.get? p = some (newO led)) : SetS h p led [] :=
  ⟨_, #[], 0, _, e, ⟨rfl, rfl, rfl⟩, rfl, ⟨⟨7, [], 0, rfl, rfl, .nil, .inl ⟨rfl, by simp, fun x hx => by simp at hx⟩⟩, rfl, by simp, fun v hv => by simp at hv⟩⟩
theorem new_led (a : Value) {Q1 : Value → Shared → Prop} (h : Q1 (.ref s.heap.objs.size) { s with heap := s.heap.push (newO (!w.params.followText "set-order")) }) :
    codeAny (model prog w) A (.call (.builtin "set.__new__") ⟨[.type "set", a], []⟩) (wants Q1 E) s := by
  refine codeAny_of_tree ?_
  refine wpAny_bind (wpAny_of_eq (PySem.F.newCall_set_1 a) (wpAny_pure ⟨plainId_quiet PySem.F.plain_set_new _, codeAny_builtin PySem.F.entry_set_new ?_⟩))
  rw [Around.under_plainId PySem.F.plain_set_new _]
  unfold Builtin.«set.__new__» Builtin.Frozenset.newClass
  have sub := sub_set_self
  obtain ⟨hp, g, d, tk, os⟩ := s
  dsimp only
  wp_walk
  refine wpAny_askSetting (wpAny_pure ?_)
  dsimp only
  simp only [newObj]
  exact wpAny_bind (wpAny_alloc (wpAny_pure (wpAny_pure h)))
set_option maxHeartbeats 8000000 in
/-- set(l) of a list of things that may be put into a set -/
theorem call_setG {κ : Type} {Rk : κ → Value → Prop} {ok : κ → Prop} {Sp : Heap → Nat → (κ → Prop) → Prop} {l : Addr} {its : Array Value} {val : Nat → κ} {Q : Value → Shared → Prop} (D : Adds prog w Rk ok s.heap.objs.size Sp) (hh : A.handled = none) (hl : s.heap.IsList l its)
    (hval : ∀ i v, its[i]? = some v → Rk (val i) v) (hok : ∀ i, i < its.size → ok (val i)) (hn : its.size ≤ 1000)
    (new : ∀ h : Heap, h.get? s.heap.objs.size = some (newO (!w.params.followText "set-order")) → Sp h 0 (fun _ => False))
    (h : ∀ (h' : Heap) (tk : Nat), Sp h' its.size (fun v => ∃ j, j < its.size ∧ val j = v) →
      (∀ b o, b < s.heap.objs.size → s.heap.get? b = some o → h'.get? b = some o) → Q (.ref s.heap.objs.size) { s with heap := h', toks := tk }) :
    wpAny (model prog w) A (call (.type "set") [.ref l]) Q E s := by
  obtain ⟨c, tl, mro⟩ := PySem.F.called_set.mro
  have made := PySem.F.called_set.made
  have sub := PySem.F.called_set.sub
  refine wpAny_call (codeAny_of_tree ?_)
  show wpAny _ _ (callAny (.type "set") _) _ _ _
  refine wpAny_pure ⟨Code.quiet_builtin _ (by decide +kernel), codeAny_builtin PySem.F.entry_type_call ?_⟩
  rw [Around.under_plain (weight_type_call_type "set" [.ref l] []) rfl]
  have n1 := PySem.F.called_set.notType
  have n2 := PySem.F.called_set.canCreate
  have n3 := PySem.F.typeCall_set_1 (.ref l)
  repeat (any_goals (first | assumption | wp_step))
  obtain ⟨led, hled⟩ : ∃ led, led = !w.params.followText "set-order" := ⟨_, rfl⟩
  rw [← hled] at new
  refine codeAny_mono (new_led (.ref l) (E := E) (Q1 := fun ob s1 => ob = .ref s.heap.objs.size ∧ s1 = { s with heap := s.heap.push (newO led) }) ⟨rfl, by rw [hled]⟩) fun r s1 hr => ?_
  cases r with
  | error e => exact hr
  | ok fl =>
    cases fl with
    | ret ob =>
      obtain ⟨rfl, rfl⟩ := hr
      have gS : (s.heap.push (newO led)).get? s.heap.objs.size = some (newO led) := Heap.get?_push_size _ rfl
      have tS : Shared.TypeIs { s with heap := s.heap.push (newO led) } (.ref s.heap.objs.size) "set" := ⟨_, gS, rfl⟩
      have i1 := PySem.F.called_set.init.lookup
      have i2 := PySem.F.called_set.init.bind (.ref s.heap.objs.size)
      repeat (any_goals (first | assumption | wp_step))
      refine codeAny_mono (codeAny_call_builtin (R := wants (fun r s2 => r = .none ∧ ∃ h' tk, s2 = { s with heap := h', toks := tk } ∧ Sp h' its.size (fun v => ∃ j, j < its.size ∧ val j = v) ∧
          (∀ b o, b < s.heap.objs.size → s.heap.get? b = some o → h'.get? b = some o)) E) PySem.F.called_set.init.plain PySem.F.entry_set_init (check_set_init_1 tS ?_)) fun r2 s2 hr2 => ?_
      · obtain ⟨⟨oc, od, ox, os⟩, hol, hcl, nl, hdl⟩ := hl
        cases (show oc = .type "list" from hcl)
        cases (show ox = .seq its nl from hdl)
        have hol' : (s.heap.push (newO led)).get? l = some { cls := .type "list", dict := od, data := .seq its nl, slots := os } := Heap.get?_push_of_some _ hol
        have q1 := PySem.F.sub_list_set
        have q2 := PySem.F.sub_list_frozenset
        have q3 : (Value.type "list" == Value.type "dict") = false := by decide
        have hl1 : (s.heap.push (newO led)).IsList l its := ⟨_, hol', rfl, nl, rfl⟩
        unfold Builtin.«set.__init__» noKeywords Builtin.Frozenset.updateFrom
        generalize hPI : pyIter = PI
        wp_walk
        subst hPI
        refine wpAny_pyIter_list hl1 (wpAny_bind (wpAny_runValue ?_))
        have lS : l < s.heap.objs.size := Heap.lt_size hol
        have hh3 : A.in1.in1.in1.handled = none := by simp [hh]
        have ne : l ≠ (s.heap.push (newO led)).objs.size := by
          rw [Heap.size_push]
          exact Nat.ne_of_lt (Nat.lt_succ_of_lt lS)
        have nf : s.heap.objs.size ∉ [(s.heap.push (newO led)).objs.size, l] := by
          rw [Heap.size_push]
          intro z
          rcases List.mem_cons.mp z with z | z
          · exact absurd z (Nat.ne_of_lt (Nat.lt_succ_self _))
          · exact absurd (List.mem_singleton.mp z) (Nat.ne_of_gt lS)
        refine upd_loop D ((Walks.list hh3 _ l ne its).toS) nf val hval hok hn (its.size - 0) 0 _ (by omega) (Nat.zero_le _) ⟨⟨_, Heap.get?_push_size _ rfl, rfl, rfl⟩, (hl1.push _)⟩ (D.same (new _ (Heap.get?_push_of_some _ gS)) fun v => ⟨False.elim, fun ⟨j, hj, _⟩ => absurd hj (Nat.not_lt_zero j)⟩) ?_
        intro s' mv S'
        obtain ⟨h', g', d', tk', os'⟩ := s'
        cases (show g' = s.gens from mv.gens)
        cases (show d' = s.drawn from mv.drawn)
        cases (show os' = s.os from mv.os)
        refine wpAny_pure ?_
        show wpAny _ _ (ret Value.none) _ _ _
        refine wpAny_pure ⟨rfl, h', tk', rfl, S', fun b o hb e => ?_⟩
        have b1 : b ≠ s.heap.objs.size := Nat.ne_of_lt hb
        have b2 : b ≠ (s.heap.push (newO led)).objs.size := by
          rw [Heap.size_push]
          exact Nat.ne_of_lt (Nat.lt_succ_of_lt hb)
        exact mv.heap b o (by simp only [List.mem_cons, List.not_mem_nil, or_false, not_or]; exact ⟨b1, b2⟩) (Heap.get?_push_of_some _ (Heap.get?_push_of_some _ e))
      · cases r2 with
        | error e => exact hr2
        | ok fl2 =>
          cases fl2 with
          | ret r =>
            obtain ⟨rfl, h', tk, rfl, S', kp⟩ := hr2
            repeat (any_goals (first | assumption | wp_step))
            exact h _ _ S' kp
          | _ => exact hr2.elim
    | _ => exact hr.elim
theorem adds_small {p : Addr} {led : Bool} : Adds prog w (fun (n : Nat) x => ∃ t, x = .int (n : Int) t) (· < 10) p (fun h _ M => ∃ ent, SetS h p led ent ∧ ∀ v, v ∈ ent.map (·.1) ↔ M v) where
  add := by
    rintro A E s k _ i M Q _ k10 ⟨t, rfl⟩ ⟨ent, S, m⟩ h
    unfold setAdd
    refine wpAny_holding (wpAny_bind ((intKind prog w).pyHash (k := (k : Int)) (intKind_is _ _ _ _) ?_))
    exact add_small (s := { s with toks := s.toks + 1 }) S k10 fun b h' ent' sb S2 m2 => h b h' sb ⟨ent', S2, fun v => by rw [m2, m]⟩
  keep := fun ⟨ent, S, m⟩ k => ⟨ent, S.keep k, m⟩
  same := fun ⟨ent, S, m⟩ e => ⟨ent, S, fun v => (m v).trans (e v)⟩
/-- set(l) of a list of small whole numbers -/
theorem call_set {l : Addr} {its : Array Value} {ns : List Nat} {Q : Value → Shared → Prop} (hh : A.handled = none) (hl : s.heap.IsList l its) (hi : PyProof.Rows.IntsAre its.toList (ns.map fun v : Nat => (v : Int))) (h10 : ∀ v ∈ ns, v < 10) (hn : ns.length ≤ 1000)
    (h : ∀ (h' : Heap) (tk : Nat) (ent : List (Nat × Tok)), SetS h' s.heap.objs.size (!w.params.followText "set-order") ent → (∀ v, v ∈ ent.map (·.1) ↔ v ∈ ns) →
      (∀ b o, b < s.heap.objs.size → s.heap.get? b = some o → h'.get? b = some o) → Q (.ref s.heap.objs.size) { s with heap := h', toks := tk }) :
    wpAny (model prog w) A (call (.type "set") [.ref l]) Q E s := by
  have lns : its.size = ns.length := by
    have := hi.length
    rw [List.length_map, Array.length_toList] at this
    exact this
  have at_ : ∀ v, (∃ j, j < its.size ∧ ns.getD j 0 = v) ↔ v ∈ ns := fun v => by
    constructor
    · rintro ⟨j, hj, e⟩
      rw [List.getD_eq_getElem?_getD, List.getElem?_eq_getElem (by omega)] at e
      rw [← e]
      exact List.getElem_mem _
    · intro hv
      obtain ⟨j, hj, e⟩ := List.getElem_of_mem hv
      exact ⟨j, by omega, by rw [List.getD_eq_getElem?_getD, List.getElem?_eq_getElem hj, e]; rfl⟩
  refine call_setG (adds_small (led := !w.params.followText "set-order")) (val := fun i => ns.getD i 0) hh hl (fun i v hv => ?_) (fun i hi' => h10 _ ((at_ _).mp ⟨i, hi', rfl⟩)) (by omega) (fun g hg => ⟨[], fresh_S hg, fun v => by simp⟩) fun h' tk ⟨ent, S, m⟩ k => h h' tk ent S (fun v => (m v).trans (at_ v)) k
  obtain ⟨t, e⟩ := PyProof.Rows.IntsAre.int_at hi i v (by rw [Array.getElem?_toList]; exact hv)
  have hi' : i < its.size := (Array.getElem?_eq_some_iff.mp hv).1
  refine ⟨t, ?_⟩
  rw [e, List.getD_eq_getElem?_getD, List.getElem?_map, List.getElem?_eq_getElem (by omega), List.getD_eq_getElem?_getD, List.getElem?_eq_getElem (by omega)]
  rfl
end
end Sx

set_option maxRecDepth 100000
set_option maxHeartbeats 4000000
/-! ### A set of small whole numbers, walked -/
namespace Sx
open PySem PySem.SetTable PyProof.Rows
theorem own_seti : Manifest.owners.lookup (String.ofList ['r', 'o', 't', 'a', 'r', 'e', 't', 'i', '_', 't', 'e', 's'].reverse) = some Manifest.sig_set_iterator := by kernel_rfl
theorem slot_next : Slot "set_iterator" "__next__" "set_iterator.__next__" :=
  Slot.of (owner := "set_iterator") (n := "__next__")
    (by rw [typeLookup_type, builtinLookup_eq_fast]
        kernel_rfl)
    (by decide +kernel)
    (by decide +kernel)
    (by decide +kernel)
    (by first
        | exact .inl (by decide +kernel)
        | exact .inr (by decide +kernel))
    (by rw [isSubtype_type]
        kernel_rfl)
theorem entry_next : entryFor table "set_iterator.__next__" = some Builtin.«set_iterator.__next__» := entryFor_of_tree (by kernel_rfl)
theorem args_next (a : Value) : argsOk "set_iterator.__next__" ⟨[a], []⟩ := by
  unfold argsOk
  rw [signature?_of (id := "set_iterator.__next__") (n := ['_', '_', 't', 'x', 'e', 'n', '_', '_']) (o := ['r', 'o', 't', 'a', 'r', 'e', 't', 'i', '_', 't', 'e', 's']) (by kernel_rfl) own_seti]
  kernel_rfl
theorem slot_self : Slot "set_iterator" "__iter__" "set_iterator.__iter__" :=
  Slot.of (owner := "set_iterator") (n := "__iter__")
    (by rw [typeLookup_type, builtinLookup_eq_fast]
        kernel_rfl)
    (by decide +kernel)
    (by decide +kernel)
    (by decide +kernel)
    (by first
        | exact .inl (by decide +kernel)
        | exact .inr (by decide +kernel))
    (by rw [isSubtype_type]
        kernel_rfl)
theorem entry_self : entryFor table "set_iterator.__iter__" = some Builtin.«dict_keyiterator.__iter__» := entryFor_alias (id' := "dict_keyiterator.__iter__") (by kernel_rfl) rfl (by decide +kernel) (by kernel_rfl)
theorem args_self (a : Value) : argsOk "set_iterator.__iter__" ⟨[a], []⟩ := by
  unfold argsOk
  rw [signature?_of (id := "set_iterator.__iter__") (n := ['_', '_', 'r', 'e', 't', 'i', '_', '_']) (o := ['r', 'o', 't', 'a', 'r', 'e', 't', 'i', '_', 't', 'e', 's']) (by kernel_rfl) own_seti]
  kernel_rfl
theorem entry_iter : entryFor table "set.__iter__" = some Builtin.«frozenset.__iter__» := entryFor_alias (id' := "frozenset.__iter__") (by kernel_rfl) rfl (by decide +kernel) (by kernel_rfl)
/-- the order that a text draws is one of all elements -/
theorem pick_perm {α : Type} (next : Nat → Nat) : ∀ (fuel k : Nat) (left : List α) (out : Array α), left.length = fuel → (pickOrder.go next fuel k left out).toList.Perm (out.toList ++ left)
  | 0, k, left, out, h => by
    rw [List.length_eq_zero_iff.mp h, List.append_nil]
    unfold pickOrder.go
    exact List.Perm.refl _
  | fuel + 1, k, left, out, h => by
    unfold pickOrder.go
    have hi : next k % left.length < left.length := Nat.mod_lt _ (by omega)
    rw [List.getElem?_eq_getElem hi]
    dsimp only
    refine (pick_perm next fuel (k + 1) (left.eraseIdx (next k % left.length)) (out.push left[next k % left.length]) (by rw [List.length_eraseIdx, if_pos hi]; omega)).trans ?_
    rw [Array.toList_push, List.append_assoc]
    refine List.Perm.append_left _ ?_
    rw [List.eraseIdx_eq_take_drop_succ]
    have z := List.perm_middle (a := left[next k % left.length]) (l₁ := left.take (next k % left.length)) (l₂ := left.drop (next k % left.length + 1))
    rw [List.getElem_cons_drop, List.take_append_drop] at z
    exact z.symm
section
variable {prog : Program} {w : World} {A : Around} {E : Value → Shared → Prop} {s : Shared} {p it : Addr} {led : Bool} {ent : List (Nat × Tok)}
/-- the elements in the order in which the set is walked -/
def wk (w : World) (p : Addr) (ep : Nat) (es : Array (Int × Value)) : Array (Int × Value) := if w.params.followText "set-order" = true then pickOrder (w.params.setOrder p ep) es else es
theorem wk_perm (w : World) (p : Addr) (ep : Nat) (es : Array (Int × Value)) : (wk w p ep es).toList.Perm es.toList := by
  unfold wk
  split
  · have z := pick_perm (w.params.setOrder p ep) es.size 0 es.toList #[] (by simp)
    simpa [pickOrder] using z
  · exact List.Perm.refl _
/-- where the walk stands in the table -/
def sa (w : World) (t : SetTable) (i : Nat) : Nat := if w.params.followText "set-order" = true then 0 else if i = 0 then 0 else t.place.getD (i - 1) 0 + 1
def IsSI (h : Heap) (it p : Addr) (w : World) (t : SetTable) (i n ep : Nat) : Prop := ∃ o, h.get? it = some o ∧ o.cls = .type "set_iterator" ∧ o.data = .fields #[.int (sa w t i : Int) 0, .int (i : Int) 0, .ref p, .int (n : Int) 0, .int (ep : Int) 0]
theorem IsSI.typeIs {t : SetTable} {i n ep : Nat} (h : IsSI s.heap it p w t i n ep) : s.TypeIs (.ref it) "set_iterator" := by
  obtain ⟨o, h1, h2, _⟩ := h
  exact ⟨o, h1, h2⟩
/-- the next place of a table, by the walk -/
theorem next_at {es : Array (Int × Value)} {t : SetTable} {ep i : Nat} {o : Obj} {Q : Option (Value × Nat) → Shared → Prop} (ho : s.heap.get? p = some o) (hd : o.data = .set es ep t) (T : Ts es t (!w.params.followText "set-order") ent)
    (hi : i ≤ es.size) (h : Q (((wk w p ep es)[i]?).map fun e => (e.2, sa w t (i + 1))) s) : wpAny (model prog w) A (setNext p (sa w t i) i ep) Q E s := by
  unfold setNext
  refine wpAny_bind (wpAny_setState_of ho hd T.fits ?_)
  dsimp only
  unfold setsByText
  refine wpAny_bind (wpAny_bind (wpAny_askSetting (wpAny_pure ?_)))
  show wpAny _ _ (if (w.params.followText "set-order") = true then _ else _) _ _ _
  by_cases hb : w.params.followText "set-order" = true
  · rw [if_pos hb]
    rw [if_neg (by simp)]
    refine wpAny_bind ?_
    unfold setWalk
    refine wpAny_bind (wpAny_setState_of ho hd T.fits ?_)
    dsimp only
    unfold setsByText
    refine wpAny_bind (wpAny_bind (wpAny_askSetting (wpAny_pure ?_)))
    show wpAny _ _ (if (w.params.followText "set-order") = true then _ else _) _ _ _
    rw [if_pos hb]
    refine wpAny_bind (wpAny_askSetting (wpAny_pure (wpAny_pure ?_)))
    have e1 : wk w p ep es = pickOrder (w.params.setOrder p ep) es := by unfold wk; rw [if_pos hb]
    have e2 : ∀ j, sa w t j = 0 := fun j => by unfold sa; rw [if_pos hb]
    rw [e1, e2] at h
    rw [e2]
    exact h
  · rw [if_neg hb]
    obtain ⟨m, sl, mv, rfl, hl, pw, hm⟩ := T.ex
    have bf : w.params.followText "set-order" = false := by simpa using hb
    have z := T.size
    show wpAny _ _ (if (!true && decide (es.size > 1)) = true then _ else _) _ _ _
    rw [if_neg (by simp)]
    show wpAny _ _ ((if (!(!w.params.followText "set-order") && !es.isEmpty) = true then unsupported _ else pure ()) >>= _) _ _ _
    rw [bf, if_neg (by simp)]
    refine wpAny_bind (wpAny_pure ?_)
    have e1 : wk w p ep es = es := by unfold wk; rw [if_neg hb]
    rw [e1] at h
    have ssz : sl.length = es.size := by omega
    have eb : below sl.toArray (sa w (tb m sl (!w.params.followText "set-order") mv) i) = i := by
      rw [below_eq pw]
      unfold sa
      rw [if_neg hb]
      by_cases h0 : i = 0
      · subst h0
        rw [if_pos rfl]
        exact cl_none fun x _ => Nat.zero_le x
      · rw [if_neg h0]
        have hi1 : i - 1 < sl.length := by omega
        have eg : (tb m sl (!w.params.followText "set-order") mv).place.getD (i - 1) 0 = sl[i - 1] := by simp [hi1]
        rw [eg]
        have a1 := (lt_cl (j := sl[i - 1] + 1) pw hi1).mp (Nat.lt_succ_self _)
        by_cases hlt : i < sl.length
        · have a2 : ¬ sl[i] < sl[i - 1] + 1 := by
            have := List.pairwise_iff_getElem.mp pw (i - 1) i hi1 hlt (by omega)
            omega
          have a3 : ¬ i < cl sl (sl[i - 1] + 1) := fun q => a2 ((lt_cl (j := sl[i - 1] + 1) pw hlt).mpr q)
          omega
        · have := cl_le sl (sl[i - 1] + 1)
          omega
    show wpAny _ _ (pure (match es[below sl.toArray (sa w (tb m sl (!w.params.followText "set-order") mv) i)]?, sl.toArray[below sl.toArray (sa w (tb m sl (!w.params.followText "set-order") mv) i)]? with
      | some (_, x), some j => some (x, j + 1)
      | _, _ => none)) _ _ _
    rw [eb]
    refine wpAny_pure ?_
    by_cases hlt : i < es.size
    · have hls : i < sl.length := by omega
      have es2 : sa w (tb m sl (!w.params.followText "set-order") mv) (i + 1) = sl[i] + 1 := by
        unfold sa
        rw [if_neg hb, if_neg (by omega)]
        simp [hls]
      rw [es2, Array.getElem?_eq_getElem hlt] at h
      rw [Array.getElem?_eq_getElem hlt, List.getElem?_toArray, List.getElem?_eq_getElem hls]
      exact h
    · rw [Array.getElem?_eq_none (by omega)] at h ⊢
      exact h
theorem item_set {es : Array (Int × Value)} {t : SetTable} {ep i : Nat} {o : Obj} {Q : Option Value → Shared → Prop} (hit : IsSI s.heap it p w t i es.size ep) (ho : s.heap.get? p = some o) (hd : o.data = .set es ep t) (T : Ts es t (!w.params.followText "set-order") ent) (ne : p ≠ it)
    {e : Int × Value} (he : (wk w p ep es)[i]? = some e) (hi : i < es.size) (hQ : ∀ h', IsSI h' it p w t (i + 1) es.size ep → Heap.SameBut it s.heap h' → Q (some e.2) { s with heap := h' }) : wpAny (model prog w) A (pyNext (.ref it)) Q E s := by
  have tI := hit.typeIs
  obtain ⟨oi, gi, ci, di⟩ := id hit
  unfold pyNext
  refine wpAny_bind (wpAny_attempt (wpAny_callSpecial?_slot (name := Str.ofString "__next__") tI slot_next (wpAny_call_entry slot_next tI entry_next ?_ (args_next _))))
  refine wpAny_bind (wpAny_pure ?_)
  refine wpAny_bind (wpAny_fieldsOf gi di ?_)
  dsimp only
  refine wpAny_bind (wpAny_setEntries_of ho hd T.fits ?_)
  rw [if_neg (by simp)]
  refine wpAny_bind (next_at ho hd T (Nat.le_of_lt hi) ?_)
  rw [Int.toNat_natCast, he]
  obtain ⟨f0, hf0⟩ : ∃ f : Obj → Obj, f = Obj.mapFields (·.setIfInBounds 0 (rawInt (sa w t (i + 1) : Nat))) := ⟨_, rfl⟩
  obtain ⟨f1, hf1⟩ : ∃ f : Obj → Obj, f = Obj.mapFields (·.setIfInBounds 1 (rawInt ((i : Int) + 1))) := ⟨_, rfl⟩
  have d1 : (f0 oi).data = .fields #[.int (sa w t (i + 1) : Int) 0, .int (i : Int) 0, .ref p, .int (es.size : Int) 0, .int (ep : Int) 0] := by
    rw [hf0, Obj.data_mapFields di]
    simp [rawInt]
  have g1 : (s.heap.update it f0).get? it = some (f0 oi) := Heap.get?_update_self _ gi (Obj.isFreed_of_fields d1)
  have c1 : (f0 oi).cls = .type "set_iterator" := by rw [hf0]; exact (Obj.cls_mapFields ..).trans ci
  have d2 : (f1 (f0 oi)).data = .fields #[.int (sa w t (i + 1) : Int) 0, .int ((i + 1 : Nat) : Int) 0, .ref p, .int (es.size : Int) 0, .int (ep : Int) 0] := by
    rw [hf1, Obj.data_mapFields d1]
    simp [rawInt]
  have g2 : ((s.heap.update it f0).update it f1).get? it = some (f1 (f0 oi)) := Heap.get?_update_self _ g1 (Obj.isFreed_of_fields d2)
  have c2 : (f1 (f0 oi)).cls = .type "set_iterator" := by rw [hf1]; exact (Obj.cls_mapFields ..).trans c1
  show wpAny _ _ (setField (.ref it) 0 (rawInt (sa w t (i + 1) : Nat)) >>= _) _ _ _
  refine wpAny_bind (wpAny_setField gi di (by simp) ?_)
  rw [← hf0]
  show wpAny _ _ (setField (.ref it) 1 (rawInt ((i : Int) + 1)) >>= _) _ _ _
  refine wpAny_bind (wpAny_setField g1 d1 (by simp) ?_)
  rw [← hf1]
  exact wpAny_pure ⟨_, rfl, wpAny_pure (hQ _ ⟨_, g2, c2, d2⟩ ((Heap.SameBut.update ..).trans (Heap.SameBut.update ..)))⟩
theorem end_set {es : Array (Int × Value)} {t : SetTable} {ep : Nat} {o : Obj} {Q : Option Value → Shared → Prop} (hh : A.handled = none) (hit : IsSI s.heap it p w t es.size es.size ep) (ho : s.heap.get? p = some o) (hd : o.data = .set es ep t) (T : Ts es t (!w.params.followText "set-order") ent)
    (hQ : ∀ h', Heap.ExtBut it s.heap h' → Q none { s with heap := h' }) : wpAny (model prog w) A (pyNext (.ref it)) Q E s := by
  have tI := hit.typeIs
  obtain ⟨oi, gi, ci, di⟩ := id hit
  have he : (wk w p ep es)[es.size]? = none := Array.getElem?_eq_none (by have z := (wk_perm w p ep es).length_eq; simp at z; omega)
  unfold pyNext
  refine wpAny_bind (wpAny_attempt (wpAny_callSpecial?_slot (name := Str.ofString "__next__") tI slot_next (wpAny_call_entry slot_next tI entry_next ?_ (args_next _))))
  refine wpAny_bind (wpAny_pure ?_)
  refine wpAny_bind (wpAny_fieldsOf gi di ?_)
  dsimp only
  refine wpAny_bind (wpAny_setEntries_of ho hd T.fits ?_)
  rw [if_neg (by simp)]
  refine wpAny_bind (next_at ho hd T (Nat.le_refl _) ?_)
  rw [Int.toNat_natCast, he]
  show wpAny _ _ (setField (.ref it) 2 .none >>= _) _ _ _
  refine wpAny_bind (wpAny_setField gi di (by simp) ?_)
  show wpAny _ _ (newExc (.type "StopIteration") [] >>= _) _ _ _
  refine wpAny_bind ?_
  simp only [newExc, newTuple]
  refine wpAny_bind (wpAny_newObj_type (wpAny_bind (m := firstArgMember _ _) (wpAny_of_eq (a := Value.none) (by first | rfl | (simp only [firstArgMember]; rfl)) (wpAny_newObj_type ?_ (by size_fits)))) (by size_fits))
  simp only [raiseNew]
  refine wpAny_bind (wpAny_handled ?_)
  rw [show A.in1.handled = none from hh]
  refine wpAny_bind (wpAny_pure (wpAny_throw ?_))
  refine wpAny_bind (wpAny_isInstance (T := "StopIteration") (b := true) ?_ isSubtype_stop ?_)
  · exact ⟨_, Heap.get?_push_size _ rfl, rfl⟩
  exact wpAny_pure (hQ _ (((Heap.SameBut.update ..).extBut.push _).push _))
theorem self_set {t : SetTable} {i n ep : Nat} {Q : Value → Shared → Prop} (hit : IsSI s.heap it p w t i n ep) (h : Q (.ref it) s) : wpAny (model prog w) A (pyIter (.ref it)) Q E s := by
  refine wpAny_pyIter_slot hit.typeIs slot_self (wpAny_call_entry slot_self hit.typeIs entry_self ?_ (args_self _))
  show wpAny _ _ (ret (.ref it)) _ _ s
  exact wpAny_pure ⟨_, rfl, "set_iterator", _, hit.typeIs, slot_next.lookup, h⟩
theorem iter_set {es : Array (Int × Value)} {t : SetTable} {ep : Nat} {o : Obj} {Q : Value → Shared → Prop} (ho : s.heap.get? p = some o) (hx : o.ExactSet) (hd : o.data = .set es ep t) (T : Ts es t (!w.params.followText "set-order") ent)
    (hQ : Q (.ref s.heap.objs.size) { s with heap := s.heap.push { cls := .type "set_iterator", data := .fields #[.int 0 0, .int 0 0, .ref p, .int (es.size : Int) 0, .int (ep : Int) 0] } }) : wpAny (model prog w) A (pyIter (.ref p)) Q E s := by
  have tS : s.TypeIs (.ref p) "set" := ⟨o, ho, hx.1⟩
  refine wpAny_pyIter_slot tS PySem.F.slot_set_iter (wpAny_call_entry PySem.F.slot_set_iter tS entry_iter ?_ (PySem.F.args_set_iter_1 _))
  unfold Builtin.«frozenset.__iter__» Builtin.Frozenset.slot0
  refine wpAny_bind (wpAny_bind (wpAny_pure (wpAny_pure ?_)))
  unfold Builtin.Frozenset.sizeOf
  refine wpAny_bind (wpAny_bind (wpAny_setEntries_of ho hd T.fits (wpAny_pure ?_)))
  unfold setDrawn
  refine wpAny_bind (wpAny_bind (wpAny_setState_of ho hd T.fits ?_))
  dsimp only
  unfold setsByText
  refine wpAny_bind (wpAny_bind (wpAny_askSetting (wpAny_pure (wpAny_pure ?_))))
  have pl : t.plain = true := by
    obtain ⟨m, sl, mv, rfl, _⟩ := T.ex
    rfl
  have hb : (!(w.params.followText "set-order") && (!t.plain && decide (es.size > 1))) = false := by
    rw [pl]
    simp
  show wpAny _ _ (if (!(w.params.followText "set-order") && (!t.plain && decide (es.size > 1))) = true then _ else _) _ _ _
  rw [hb, if_neg (by simp)]
  refine wpAny_bind (wpAny_pure ?_)
  refine wpAny_bind (wpAny_setEpoch_of ho hd T.fits ?_)
  refine wpAny_bind (wpAny_newObj_type (wpAny_pure ⟨_, rfl, "set_iterator", _, ⟨_, Heap.get?_push_size _ rfl, rfl⟩, slot_next.lookup, ?_⟩))
  simpa [rawInt] using hQ
theorem hint_set {Q : Bool → Shared → Prop} (hT : s.TypeIs (.ref p) "set") (h : Q false s) : wpAny (model prog w) A (Builtin.List.listLengthHint (.ref p)) Q E s := by
  unfold Builtin.List.listLengthHint
  refine wpAny_bind (wpAny_specialOf hT PySem.F.slot_set_len.lookup ?_)
  generalize hid : ("set.__len__" : String) = id0
  wp_delta
  rw [show splitId id0 = some ("set", "__len__") from by subst hid; decide +kernel]
  subst hid
  refine wpAny_bind (wpAny_isInstance (T := "set") (b := true) hT (by rw [isSubtype_type]; kernel_rfl) ?_)
  refine wpAny_ite_split (fun z => absurd z (by decide)) fun _ => ?_
  refine wpAny_ite_split (fun _ => ?_) fun z => absurd (by decide +kernel) z
  exact wpAny_bind (wpAny_typeOf hT (wpAny_pure h))
end
/-- a set's object, whole -/
def SObj (h : Heap) (p : Addr) (es : Array (Int × Value)) (ep : Nat) (t : SetTable) : Prop := ∃ o, h.get? p = some o ∧ o.ExactSet ∧ o.data = .set es ep t
theorem walks_set {prog : Program} {w : World} {A : Around} (hh : A.handled = none) (I p : Addr) (ne : p ≠ I) {es : Array (Int × Value)} {ep : Nat} {t : SetTable} {ent : List (Nat × Tok)} (T : Ts es t (!w.params.followText "set-order") ent) :
    Walks prog w A I [I, p] [I] es.size (fun i v => ∃ e, (wk w p ep es)[i]? = some e ∧ v = e.2) (fun i h => IsSI h I p w t i es.size ep ∧ SObj h p es ep t) where
  sub := fun b hb => by
    rw [List.mem_singleton.mp hb]
    exact List.mem_cons_self
  frame := fun i h h' st hk => by
    obtain ⟨⟨o, h1, h2⟩, o', h3, h4⟩ := st
    exact ⟨⟨o, hk I List.mem_cons_self o h1, h2⟩, o', hk p (List.mem_cons_of_mem _ List.mem_cons_self) o' h3, h4⟩
  item := fun i s Q E hi st hQ => by
    obtain ⟨hit, o', h3, h4, h5⟩ := st
    have hl : i < (wk w p ep es).size := by
      have z := (wk_perm w p ep es).length_eq
      simp at z
      omega
    have he := Array.getElem?_eq_getElem hl
    refine item_set hit h3 h5 T ne he hi fun h' hit' hs' => ?_
    exact hQ _ h' s.toks ⟨_, he, rfl⟩ ⟨hit', o', hs'.extBut p o' ne h3, h4, h5⟩ fun b o hb e => hs'.extBut b o (fun z => hb (by rw [z]; exact List.mem_cons_self)) e
  done := fun s Q E st hQ => by
    obtain ⟨hit, o', h3, h4, h5⟩ := st
    exact end_set hh hit h3 h5 T fun h' he' => hQ h' s.toks fun b o hb e => he' b o (fun z => hb (by rw [z]; exact List.mem_cons_self)) e
  self := fun i s Q E st hQ => self_set st.1 hQ
theorem src_set {prog : Program} {w : World} {p : Addr} {es : Array (Int × Value)} {ep : Nat} {t : SetTable} {ent : List (Nat × Tok)} (T : Ts es t (!w.params.followText "set-order") ent) : PySem.W.KdlSrc prog w "set" p p es.size (fun i v => ∃ e, (wk w p ep es)[i]? = some e ∧ v = e.2) (fun h => SObj h p es ep t) where
  type := fun _ hm => by
    obtain ⟨o, h1, h2, _⟩ := hm
    exact ⟨o, h1, h2.1⟩
  there := fun _ hm => by
    obtain ⟨o, h1, _⟩ := hm
    exact ⟨Heap.lt_size h1, Heap.lt_size h1⟩
  keep := fun h h' hm hk => by
    obtain ⟨o, h1, h2⟩ := hm
    exact ⟨o, hk p (.inl rfl) o h1, h2⟩
  notList := rfl
  notTuple := rfl
  hint := fun _ _ s _ hm hq => by
    obtain ⟨o, h1, h2, _⟩ := hm
    exact hint_set ⟨o, h1, h2.1⟩ hq
  iter := fun A s hh hm => by
    obtain ⟨o, h1, h2, h3⟩ := hm
    have ne : p ≠ s.heap.objs.size := Nat.ne_of_lt (Heap.lt_size h1)
    refine ⟨_, _, fun _ _ hq => iter_set h1 h2 h3 T hq, walks_set hh _ p ne T, ⟨_, Heap.get?_push_size _ rfl, rfl, ?_⟩, o, Heap.get?_push_of_some _ h1, h2, h3⟩
    have z : sa w t 0 = 0 := by
      unfold sa
      split <;> rfl
    rw [z]
    rfl
end Sx

set_option maxRecDepth 100000
set_option maxHeartbeats 4000000
/-! ### A set of small whole numbers in the layer: made, and sorted -/
namespace Sx
open PySem PyProof.Rows PySem.Spec
section
variable {prog : Program} {w : World} {A : Around} {E : Value → Shared → Prop} {s : Shared} {p : Addr}
theorem ints_of : ∀ (l : List (Int × Value)), (∀ e ∈ l, ∃ (n : Nat) (t : Tok), e.2 = .int (n : Int) t ∧ e.1 = (n : Int)) → IntsAre (l.map (·.2)) (l.map (·.1))
  | [], _ => .nil
  | e :: l, h => by
    obtain ⟨n, t, h1, h2⟩ := h e List.mem_cons_self
    rw [List.map_cons, List.map_cons, h1, h2]
    exact .cons _ _ (ints_of l fun x hx => h x (List.mem_cons_of_mem _ hx))
theorem rise_lt {ms : List Int} (h : ms.Pairwise (· ≤ ·)) (nd : ms.Nodup) : ms.Pairwise (· < ·) := (h.and nd).imp fun ⟨a, b⟩ => Int.lt_iff_le_and_ne.mpr ⟨a, b⟩
theorem sorted_set {ent : List (Nat × Tok)} {Q : Value → Shared → Prop} (hh : A.handled = none) (S : SetS s.heap p (!w.params.followText "set-order") ent)
    (h : ∀ (g h' : Heap) (tk : Nat) (out : Array Value) (e : Nat) (ms : List Int), IntsAre out.toList ms → ms.Pairwise (· < ·) → ms.Perm (ent.map fun e => (e.1 : Int)) → ms.length ≤ 10 →
      (∀ b o, s.heap.get? b = some o → g.get? b = some o) → (∀ b o, g.get? b = some o → h'.get? b = some o) → h'.get? g.objs.size = some (seqObj "list" out e) → Q (.ref g.objs.size) { s with heap := h', toks := tk }) :
    wpAny (model prog w) A (call (.builtin "sorted") [.ref p]) Q E s := by
  obtain ⟨o, es, ep, t, ho, hx, hd, T⟩ := S
  obtain ⟨z1, z2⟩ := T.size
  refine Calls.call_function_entry kind_sorted plain_sorted entry_sorted (args_sorted1 _) (wpAny_bind (m := checkCount "sorted" 1 1 _) (wpAny_pure (wpAny_bind (PySem.W.kdu_collect (src_set (ep := ep) T) hh ⟨o, ho, hx, hd⟩ (by rw [sizeLine_eq]; omega) fun h' tk acc hk hacc => ?_))))
  have el : acc.toList = (wk w p ep es).toList.map (·.2) := by
    have zl := (wk_perm w p ep es).length_eq
    rw [Array.length_toList, Array.length_toList] at zl
    refine List.ext_getElem? fun j => ?_
    rw [List.getElem?_map, Array.getElem?_toList, Array.getElem?_toList]
    by_cases hj : j < acc.size
    · rw [Array.getElem?_eq_getElem hj]
      obtain ⟨e, e1, e2⟩ := hacc.2 j _ (Array.getElem?_eq_getElem hj)
      rw [e1, e2]
      rfl
    · have := hacc.1
      rw [Array.getElem?_eq_none (by omega), Array.getElem?_eq_none (by omega)]
      rfl
  have hI : IntsAre acc.toList ((wk w p ep es).toList.map (·.1)) := by
    rw [el]
    refine ints_of _ fun e he => ?_
    have he' := (wk_perm w p ep es).mem_iff.mp he
    rw [T.es] at he'
    obtain ⟨q, hq, rfl⟩ := List.mem_map.mp he'
    exact ⟨q.1, q.2, rfl, rfl⟩
  have hP : ((wk w p ep es).toList.map (·.1)).Perm (ent.map fun e => (e.1 : Int)) := by
    have z := (wk_perm w p ep es).map (·.1)
    rw [show es.toList.map (·.1) = ent.map fun e => (e.1 : Int) from by rw [T.es, List.toList_toArray, List.map_map]; rfl] at z
    exact z
  have l64 : acc.toList.length < 64 := by
    rw [Array.length_toList, hacc.1]
    omega
  have oL : (h'.push (seqObj "list" acc.toList.toArray 0)).get? h'.objs.size = some (seqObj "list" acc.toList.toArray 0) := Heap.get?_push_size _ rfl
  refine wpAny_bind (wpAny_newList ?_)
  refine wpAny_bind (wpAny_holding (wpAny_call_entry slot_list_sort ⟨_, oL, rfl⟩ entry_list_sort (list_sort_tree oL hI l64 fun out ms a1 a2 a3 => ⟨_, rfl, ?_⟩) (args_list_sort _)))
  obtain ⟨e, he⟩ := sortedHeap_at (out := out) oL
  have nd : (ent.map fun e => (e.1 : Int)).Nodup := by
    have z := T.nd
    rw [show (ent.map fun e => (e.1 : Int)) = (ent.map (·.1)).map (fun n : Nat => (n : Int)) from by rw [List.map_map]; rfl]
    exact List.Pairwise.map _ (fun a b hab z => hab (by exact_mod_cast z)) z
  have pm := a2.trans hP
  refine wpAny_pure ⟨_, rfl, h h' _ tk out e ms a1 (rise_lt a3 (pm.nodup_iff.mpr nd)) pm ?_ hk (fun b ob hb' => ?_) he⟩
  · rw [pm.length_eq, List.length_map]
    omega
  · have lt := Heap.lt_size hb'
    rw [sortedHeap_old (Nat.ne_of_lt lt) (by rw [size_push']; exact Nat.lt_succ_of_lt lt)]
    exact Heap.get?_push_of_some _ hb'
end
end Sx
namespace L2
open PySem PySem.Spec PyProof.Rows
/-- a set of whole numbers below 10 -/
def sN (w : World) (p : Addr) (ns : List Nat) : HO := .ext fun h => ∃ ent, Sx.SetS h p (!w.params.followText "set-order") ent ∧ ∀ v, v ∈ ent.map (·.1) ↔ v ∈ ns
section
variable {X : Cx} {w : World}
theorem call_setN (hc : X.calm = true) (hw : X.w = w := by rfl) : CallR X (.type "set") (fun xs H Q => ∃ (l : Addr) (ns : List Nat), xs = [.ref l] ∧ SqL X.K H l (ns.map fun v : Nat => V.int (v : Int)) ∧ (∀ v ∈ ns, v < 10) ∧ ns.length ≤ 1000 ∧ ∀ p, H p = none → Q (.ref p) (upd H p (sN w p ns))) := by
  subst hw
  intro pins s σ H xs us Q I r h
  obtain ⟨l, ns, rfl, hq, h10, hn, q⟩ := h
  obtain ⟨u, rfl, rx⟩ := vals1 r
  cases rx
  rw [show (ns.map fun v : Nat => V.int (v : Int)) = (ns.map fun v : Nat => (v : Int)).map V.int from by rw [List.map_map]; rfl] at hq
  obtain ⟨its, rv, pl, _⟩ := I.list hq
  refine Sx.call_set (I.ok.hd hc) pl.isList (ns := ns) (by simpa using intsAre_of rv) h10 hn fun h' tk ent S hm k => ?_
  have ob : ∃ o, h'.get? s.heap.objs.size = some o := by
    obtain ⟨o, _, _, _, ho, _⟩ := S
    exact ⟨o, ho⟩
  exact ⟨.ref s.heap.objs.size, _, I.laid (o := sN X.w s.heap.objs.size ns) (t' := tk) (fun b o hb => k b o (Heap.lt_size hb) hb) (Nat.le_refl _) ⟨⟨ent, S, hm⟩, ob, fun g1 g2 ⟨en, S', m'⟩ kk => ⟨en, S'.keep kk, m'⟩⟩, rfl, q _ (I.hok.fresh (Nat.le_refl _))⟩
theorem call_sortedN (hc : X.calm = true) (hw : X.w = w := by rfl) : CallR X (.builtin "sorted") (fun xs H Q => ∃ (p : Addr) (ns : List Nat), xs = [.ref p] ∧ H p = some (sN w p ns) ∧ ∀ ms : List Int, ms.Pairwise (· < ·) → (∀ v, v ∈ ms ↔ ∃ n ∈ ns, v = ((n : Nat) : Int)) → ∀ l, H l = none → Q (.ref l) (upd H l (.lst (ms.map V.int)))) := by
  subst hw
  intro pins s σ H xs us Q I r h
  obtain ⟨p, ns, rfl, hq, q⟩ := h
  obtain ⟨u, rfl, rx⟩ := vals1 r
  cases rx
  obtain ⟨⟨ent, S, hm⟩, _⟩ := I.hok p _ hq
  refine Sx.sorted_set (I.ok.hd hc) S fun g h' tk out e ms a1 a2 a3 a4 k1 k2 he => ?_
  have I1 : Inv X pins σ H { s with heap := g, toks := tk } := I.kept k1
  refine ⟨.ref g.objs.size, _, I1.laid (t' := tk) k2 (Nat.le_refl _) (show ObjOk X.prog X.w _ _ _ (.lst (ms.map V.int)) from ⟨by rw [List.length_map, sizeLine_eq]; omega, out.toList, e, vals_ints a1, he⟩), rfl, q ms a2 (fun v => ?_) _ (I1.hok.fresh (Nat.le_refl _))⟩
  rw [a3.mem_iff, List.mem_map]
  constructor
  · rintro ⟨en, h1, rfl⟩
    exact ⟨en.1, (hm _).mp (List.mem_map_of_mem h1), rfl⟩
  · rintro ⟨n, h1, rfl⟩
    obtain ⟨en, h2, h3⟩ := List.mem_map.mp ((hm n).mpr h1)
    exact ⟨en, h2, by rw [h3]⟩
end
end L2

set_option maxRecDepth 100000
set_option maxHeartbeats 4000000
/-! ### A set of texts: made, and counted -/
namespace Sx
open PySem PyProof.Rows PySem.Spec
section
variable {prog : Program} {w : World} {p : Addr}
abbrev kS (prog : Program) (w : World) : KeyKind prog w Str := PySem.strKind prog w
theorem setOf_keep {h h' : Heap} {S : Str → Bool} {n : Nat} (x : h.SetOf (kS prog w) p S n) (k : ∀ o, h.get? p = some o → h'.get? p = some o) : h'.SetOf (kS prog w) p S n := by
  obtain ⟨o, es, ep, t, ho, rest⟩ := x
  exact ⟨o, es, ep, t, k o ho, rest⟩
theorem adds_str : Adds prog w (fun (k : Str) x => ∃ t, x = .str k t) (fun _ => True) p (fun h i M => ∃ ks : List Str, ks.Nodup ∧ ks.length ≤ i ∧ (∀ k, k ∈ ks ↔ M k) ∧ h.SetOf (kS prog w) p (fun k => decide (k ∈ ks)) ks.length) where
  add := by
    rintro A E s k _ i M Q i1 _ ⟨t, rfl⟩ ⟨ks, nd, le, m, S⟩ h
    unfold setAdd
    refine wpAny_holding (wpAny_bind ((kS prog w).pyHash (k := k) (strKind_is _ _ _ _) ?_))
    refine wpAny_setAddHashed_of (knd := kS prog w) (s := { s with toks := s.toks + 1 }) (strKind_is _ _ _ _) rfl S (by unfold scanBound; omega) fun h' sb S2 => h _ h' sb ?_
    by_cases c : k ∈ ks
    · refine ⟨ks, nd, by omega, fun v => by rw [m]; exact ⟨.inr, fun z => z.elim (fun e => e ▸ (m k).mp c) id⟩, SetOf_congr S2 (fun v => ?_) (by simp [c])⟩
      by_cases e : v = k
      · subst e
        simp [c]
      · simp [e]
    · refine ⟨k :: ks, List.nodup_cons.mpr ⟨c, nd⟩, by rw [List.length_cons]; omega, fun v => by rw [List.mem_cons, m], SetOf_congr S2 (fun v => ?_) (by simp [c])⟩
      simp [List.mem_cons, Bool.or_comm]
  keep := fun ⟨ks, a, b, c, S⟩ k => ⟨ks, a, b, c, setOf_keep S k⟩
  same := fun ⟨ks, a, b, c, S⟩ e => ⟨ks, a, b, fun v => (c v).trans (e v), S⟩
end
end Sx
namespace L2
open PySem PySem.Spec PyProof.Rows
/-- a set of texts: ks, each once -/
def sS (P : Program) (w : World) (p : Addr) (ks : List Str) : HO := .ext fun h => h.SetOf (Sx.kS P w) p (fun k => decide (k ∈ ks)) ks.length
section
variable {X : Cx} {P : Program} {w : World}
theorem call_setS (hc : X.calm = true) (hP : X.prog = P := by rfl) (hw : X.w = w := by rfl) : CallR X (.type "set") (fun xs H Q => ∃ (l : Addr) (ns : List Str), xs = [.ref l] ∧ SqL X.K H l (ns.map V.str) ∧ ns.length ≤ 1000 ∧ ∀ (ks : List Str), ks.Nodup → (∀ k, k ∈ ks ↔ k ∈ ns) → ks.length ≤ ns.length → ∀ p, H p = none → Q (.ref p) (upd H p (sS P w p ks))) := by
  subst hw hP
  intro pins s σ H xs us Q I r h
  obtain ⟨l, ns, rfl, hq, hn, q⟩ := h
  obtain ⟨u, rfl, rx⟩ := vals1 r
  cases rx
  obtain ⟨its, rv, pl, _⟩ := I.list hq
  obtain ⟨zs, rfl, e⟩ := strs_vals rv
  have zl : zs.length = ns.length := by rw [← e, List.length_map]
  have sz : (strValues zs).toArray.size = ns.length := by
    have := rv.length
    rw [List.length_map] at this
    rw [List.size_toArray]
    omega
  have ga : ∀ i, ns.getD i default = ((zs[i]?).map (·.1)).getD default := fun i => by rw [← e, List.getD_eq_getElem?_getD, List.getElem?_map]
  refine Sx.call_setG Sx.adds_str (val := fun i => ns.getD i default) (I.ok.hd hc) pl.isList (fun i v hv => ?_) (fun _ _ => True.intro) (by omega) (fun g hg => ⟨[], List.nodup_nil, Nat.le_refl _, fun v => by simp, SetOf_congr ((setObjOf_fresh (knd := Sx.kS X.prog X.w) _).setOf hg (by unfold scanBound; omega)) (fun _ => by simp) rfl⟩) fun h' tk ⟨ks, nd, le, m, S⟩ k => ?_
  · rw [List.getElem?_toArray] at hv
    rw [ga]
    unfold strValues at hv
    rw [List.getElem?_map] at hv
    cases ez : zs[i]? with
    | none =>
      rw [ez] at hv
      cases hv
    | some z =>
      rw [ez] at hv
      cases hv
      exact ⟨_, rfl⟩
  · have ob : ∃ o, h'.get? s.heap.objs.size = some o := by
      obtain ⟨o, _, _, _, ho, _⟩ := S
      exact ⟨o, ho⟩
    refine ⟨.ref s.heap.objs.size, _, I.laid (o := sS X.prog X.w s.heap.objs.size ks) (t' := tk) (fun b o hb => k b o (Heap.lt_size hb) hb) (Nat.le_refl _) ⟨S, ob, fun g1 g2 S' kk => Sx.setOf_keep S' kk⟩, rfl, q ks nd (fun v => (m v).trans ?_) (by omega) _ (I.hok.fresh (Nat.le_refl _))⟩
    constructor
    · rintro ⟨j, hj, e2⟩
      rw [List.getD_eq_getElem?_getD, List.getElem?_eq_getElem (by omega)] at e2
      rw [← e2]
      exact List.getElem_mem _
    · intro hv
      obtain ⟨j, hj, e2⟩ := List.getElem_of_mem hv
      exact ⟨j, by omega, by rw [List.getD_eq_getElem?_getD, List.getElem?_eq_getElem hj, e2]; rfl⟩
theorem call_lenS (hP : X.prog = P := by rfl) (hw : X.w = w := by rfl) : CallR X (.builtin "len") (fun xs H Q => ∃ (p : Addr) (ks : List Str), xs = [.ref p] ∧ H p = some (sS P w p ks) ∧ Q (.int ks.length) H) := by
  subst hw hP
  intro pins s σ H xs us Q I r h
  obtain ⟨p, ks, rfl, hq, q⟩ := h
  obtain ⟨u, rfl, rx⟩ := vals1 r
  cases rx
  obtain ⟨o, es, ep, t, ho, hex, hd, hel, hmem, hb, hf, hn⟩ := (I.hok p _ hq).1
  refine call_len_set ho hex hd hf (by unfold scanBound at hb; omega) ⟨.int ks.length, H, I.tok _, ⟨_, by rw [hn]⟩, q⟩
end
end L2

set_option maxRecDepth 100000
set_option maxHeartbeats 4000000
/-! ### Texts: a module's tuple of texts -/
namespace L2
open PySem PySem.Spec PyProof.Rows
def strOf : Value → Option Str
  | .str s _ => some s
  | _ => none
def tupOfS (o : Obj) (ks : List Str) : Bool := match o.cls, o.data with
  | .type "tuple", .seq its _ => its.toList.map strOf == ks.map some && decide (its.size ≤ 100)
  | _, _ => false
/-- a tuple of texts that the module made -/
def kTup (K : PySem.W.Frag) (a : Addr) (ks : List Str) : Bool := match K.lookup a with
  | some o => tupOfS o ks
  | none => false
theorem strOf_vals : ∀ {us : List Value} {ks : List Str}, us.map strOf = ks.map some → Vals (ks.map V.str) us
  | [], [], _ => .nil
  | [], _ :: _, h => by cases h
  | _ :: _, [], h => by cases h
  | u :: us, k :: ks, h => by
    rw [List.map_cons, List.map_cons] at h
    injection h with h1 h2
    refine .cons ?_ (strOf_vals h2)
    cases u with
    | str s t =>
      have e : s = k := by injection h1
      exact ⟨t, by rw [e]⟩
    | _ => cases h1
theorem kTup_sq {K : PySem.W.Frag} {a : Addr} {ks : List Str} (h : kTup K a ks = true) (H : Hp) : SqT K H a (ks.map V.str) := by
  unfold kTup at h
  split at h
  · rename_i o ho
    unfold tupOfS at h
    split at h
    · rename_i its n hc hd
      rw [Bool.and_eq_true] at h
      refine .inr ⟨o, its, n, ho, hc, hd, ?_, strOf_vals (by simpa using h.1)⟩
      have := of_decide_eq_true h.2
      rw [sizeLine_eq]
      omega
    · cases h
  · cases h
end L2

set_option maxRecDepth 100000
set_option maxHeartbeats 4000000
/-! ### Texts of woods: what the parts of read and shown promise -/
namespace Ow
open PySem L2 Wd
def inT (c : Nat) (y : Str) : Bool := !(Builtin.Str.occurrences y ⟨#[c]⟩ 0 y.length 1).isEmpty
def madeOf (z y : Str) : Bool := z.cps.toList.all fun c => inT c y
def Plain (z : Str) : Prop := z.cps.all (· < 128) = true ∧ z.cps.size ≤ 1000
def spMade : Sp := fun vs H Q _ => ∃ z y : Str, vs = [.str z, .str y] ∧ Plain z ∧ ∀ H', Same H H' → Q (.bl (madeOf z y)) H'
def lettersT : Str := "abcdefghijklmnopqrstuvwxyz"
def figuresT : Str := "0123456789"
def noNames : List Str := ["must", "may", "one", "from", "needs", "bans", "most"]
def isName (z : Str) : Bool := decide (1 ≤ z.length ∧ z.length ≤ 8) && (madeOf z lettersT && !noNames.contains z)
def spName : Sp := fun vs H Q _ => ∃ z : Str, vs = [.str z] ∧ Plain z ∧ ∀ H', Same H H' → Q (.bl (isName z)) H'
/-- a list of texts -/
def strsL (ws : List Str) : List V := ws.map V.str
theorem flat_strs (ws : List Str) : (strsL ws).all flatV = true := by
  rw [List.all_eq_true]
  intro v hv
  obtain ⟨z, _, rfl⟩ := List.mem_map.mp hv
  rfl
theorem inV_strs (z : Str) (ws : List Str) : inV (.str z) (strsL ws) = ws.contains z := by
  unfold inV strsL
  rw [List.any_map]
  induction ws with
  | nil => rfl
  | cons w ws ih =>
    rw [List.any_cons, ih, List.contains_cons]
    congr 1
    show eqV (.str w) (.str z) = (z == w)
    exact BEq.comm
theorem idx_get {z : Str} : ∀ {ns : List Str}, z ∈ ns → ns[ns.idxOf z]? = some z
  | [], h => by cases h
  | n :: ns, h => by
    rw [List.idxOf_cons]
    by_cases e : n = z
    · rw [show (n == z) = true from beq_iff_eq.mpr e]
      simp [e]
    · rw [show (n == z) = false from beq_eq_false_iff_ne.mpr e]
      exact idx_get ((List.mem_cons.mp h).resolve_left fun q => e q.symm)
theorem idx_ne {z : Str} : ∀ {ns : List Str} {i : Nat} {y : Str}, i < ns.idxOf z → ns[i]? = some y → y ≠ z
  | [], i, y, h, h2 => by cases h2
  | n :: ns, i, y, h, h2 => by
    rw [List.idxOf_cons] at h
    by_cases e : n = z
    · rw [show (n == z) = true from beq_iff_eq.mpr e] at h
      exact absurd h (Nat.not_lt_zero _)
    · rw [show (n == z) = false from beq_eq_false_iff_ne.mpr e] at h
      cases i with
      | zero =>
        injection h2 with h2
        rw [← h2]
        exact e
      | succ i => exact idx_ne (Nat.lt_of_succ_lt_succ h) h2
def spOptIn : Sp := fun vs H Q _ => ∃ (l : Addr) (ns : List Str) (z : Str), vs = [.ref l, .str z] ∧ H l = some (.lst (strsL ns)) ∧ z ∈ ns ∧ ns.length ≤ 1000 ∧ Q (.int (ns.idxOf z : Nat)) H
def crossLine (ws : List Str) : Bool := (ws.head? == some ("most" : Str)) || (decide (ws.length = 3) && (["needs", "bans"] : List Str).contains (ws.getD 1 ""))
def spCrossLine : Sp := fun vs H Q _ => ∃ (l : Addr) (ws : List Str), vs = [.ref l] ∧ H l = some (.lst (strsL ws)) ∧ ws ≠ [] ∧ ∀ H', Same H H' → Q (.bl (crossLine ws)) H'
end Ow

set_option maxRecDepth 100000
set_option maxHeartbeats 4000000
namespace L2
open PySem PySem.Spec PyProof.Rows
/-! ### every other item of a list -/
def every2 {α : Type} : List α → List α
  | [] => []
  | [x] => [x]
  | x :: _ :: r => x :: every2 r
theorem every2_get {α : Type} : ∀ (l : List α), (List.range ((l.length + 1) / 2)).filterMap (fun j => l[2 * j]?) = every2 l
  | [] => by simp [every2]
  | [x] => by simp [every2]
  | x :: y :: r => by
    have e : ((x :: y :: r).length + 1) / 2 = (r.length + 1) / 2 + 1 := by
      rw [List.length_cons, List.length_cons]
      omega
    rw [e, List.range_succ_eq_map, List.filterMap_cons, List.filterMap_map]
    show x :: _ = x :: every2 r
    rw [← every2_get r]
    rfl
theorem pick_step2 (its : List Value) (k : Nat) : slicePick its.toArray (some (k : Int)) none (some 2) = (every2 (its.drop k)).toArray := by
  have h : sliceBounds (some (k : Int)) none (some 2) its.toArray.size = (((min k its.length : Nat) : Int), (its.length : Int), (2 : Int)) := by
    unfold sliceBounds
    simp
    omega
  unfold slicePick
  rw [h]
  show ((sliceRange ((min k its.length : Nat) : Int) (its.length : Int) 2).filterMap fun i => its.toArray[i]?).toArray = _
  congr 1
  have hr : sliceRange ((min k its.length : Nat) : Int) (its.length : Int) 2 = (List.range (((its.drop k).length + 1) / 2)).map fun j => k + 2 * j := by
    unfold sliceRange
    rw [List.length_drop]
    have hc : (if (2 : Int) > 0 then (if ((min k its.length : Nat) : Int) < its.length then ((its.length : Int) - ((min k its.length : Nat) : Int) + 2 - 1) / 2 else 0) else (if ((min k its.length : Nat) : Int) > its.length then (((min k its.length : Nat) : Int) - its.length - 2 - 1) / (-2) else 0)).toNat = (its.length - k + 1) / 2 := by
      rw [if_pos (by decide)]
      split <;> omega
    simp only [hc]
    refine List.map_congr_left fun j hj => ?_
    have := List.mem_range.mp hj
    omega
  rw [hr, List.filterMap_map, ← every2_get]
  congr 1
  funext j
  show its.toArray[k + 2 * j]? = (its.drop k)[2 * j]?
  rw [List.getElem?_toArray, List.getElem?_drop]
theorem vals_every2 : ∀ {xs : List V} {us : List Value}, Vals xs us → Vals (every2 xs) (every2 us)
  | _, _, .nil => .nil
  | _, _, .cons h .nil => .cons h .nil
  | _, _, .cons h (.cons _ t) => .cons h (vals_every2 t)
theorem vals_drop : ∀ {xs : List V} {us : List Value} (k : Nat), Vals xs us → Vals (xs.drop k) (us.drop k)
  | _, _, 0, h => h
  | _, _, k + 1, .nil => .nil
  | _, _, k + 1, .cons _ t => vals_drop k t
theorem every2_le {α : Type} : ∀ (l : List α), (every2 l).length ≤ l.length
  | [] => Nat.le_refl _
  | [x] => Nat.le_refl _
  | x :: y :: r => by
    have := every2_le r
    show (every2 r).length + 1 ≤ r.length + 1 + 1
    omega
section
variable {X : Cx} {e lo st : Expr} {te tl tst : TE} {pos p2 : Pos}
def tStep2 (te tl tst : TE) : TE := fun σ H Q => te σ H fun x H1 => tl σ H1 fun z H2 => tst σ H2 fun y H3 => ∃ a xs, ∃ k : Nat, y = .int 2 ∧ z = .int (k : Int) ∧ x = .ref a ∧ H3 a = some (.lst xs) ∧ ∀ p, H3 p = none → Q (.ref p) (upd H3 p (.lst (every2 (xs.drop k))))
/-- l[k::2] of a list -/
theorem pe_step2 (he : PE X e te) (hl : PE X lo tl) (hst : PE X st tst) : PE X (.Subscript e (.Slice (some lo) none (some st) p2) pos) (tStep2 te tl tst) := by
  intro pins s σ H Q I h
  refine Subscript_ (thn (he pins s σ H _ I h) fun v s1 ⟨x, H1, I1, r1, q1⟩ => ?_)
  refine wpAny_Slice ?_
  rw [evalPart_some]
  refine thn (hl pins s1 σ H1 _ I1 q1) fun vl s2 ⟨z, H2, I2, r2, q2⟩ => ?_
  rw [evalPart_none]
  refine wpAny_pure ?_
  rw [evalPart_some]
  refine thn (hst pins s2 σ H2 _ I2 q2) fun vs s3 ⟨y, H3, I3, r3, q3⟩ => ?_
  obtain ⟨a, xs, k, rfl, rfl, rfl, hx, q⟩ := q3
  cases r1
  obtain ⟨t, rfl⟩ := r3
  obtain ⟨t2, rfl⟩ := r2
  have I4 : Inv X pins σ H3 { s3 with heap := s3.heap.push { cls := .type "slice", data := .fields #[.int (k : Int) t2, .none, .int 2 t] } } := I3.kept (t' := s3.toks) fun b ob q => Heap.get?_push_of_some _ q
  obtain ⟨its, r, ht, hz⟩ := I4.list (SqL.of hx)
  have hlen := r.length
  show wpAny (model X.prog X.w) X.A (subscriptTail e (.Slice (some lo) none (some st) p2) (.ref a) (.ref s3.heap.objs.size)) (EP X pins σ Q) X.xe { s3 with heap := s3.heap.push { cls := .type "slice", data := .fields #[.int (k : Int) t2, .none, .int 2 t] } }
  refine tail_any (ops := [.ref a, .ref s3.heap.objs.size]) ht.isList.typeIs slot_list_getitem.lookup ?_ (by with_unfolding_all rfl)
  refine wpAny_getItem_list_slice ht.isList (Heap.IsSliceOf.new ..) (.int (k : Int) t2) .none (.int 2 t) (by simp) ?_ (by rw [List.size_toArray]; omega)
  rw [pick_step2]
  have r' := vals_every2 (vals_drop k r)
  refine ⟨.ref _, _, I4.laid (t' := s3.toks) (o := .lst (every2 (xs.drop k))) (fun b ob q => Heap.get?_push_of_some _ q) (Nat.le_refl _) ?_, rfl, q _ (I4.hok.fresh (Nat.le_refl _))⟩
  refine ⟨?_, every2 (its.drop k), 0, r', Heap.get?_push_size _ rfl⟩
  have h1 := every2_le (xs.drop k)
  rw [List.length_drop] at h1
  omega
end
end L2

set_option maxRecDepth 100000
set_option maxHeartbeats 4000000
/-! ### Texts of woods: numbers, bounds -/
namespace Ow
open PySem L2 Wd
def minusAt (z : Str) : Bool := decide (0 + (1 : Nat) ≤ z.length) && Builtin.Str.subAt z "-" 0
def figs (z : Str) : Str := if minusAt z = true then StrLaws.sliceText z (some 1) none else z
def isNum (z : Str) : Bool := decide (1 ≤ (figs z).length ∧ (figs z).length ≤ 60) && madeOf (figs z) figuresT && (decide (z = "0") || !decide ((figs z).cps.toList.head? = some 48))
def spNumber : Sp := fun vs H Q _ => ∃ z : Str, vs = [.str z] ∧ Plain z ∧ Plain (figs z) ∧ ∀ H', Same H H' → Q (.bl (isNum z)) H'
def spNumberIn : Sp := fun vs H Q _ => ∃ (z : Str) (n : Int), vs = [.str z] ∧ Plain z ∧ Plain (figs z) ∧ isNum z = true ∧ intText? z = some n ∧ z.length ≤ 640 ∧ ∀ H', Same H H' → Q (.int n) H'
def numT (n : Int) : Str := Str.ofString (toString n)
def boundW (lo hi m : Nat) : List Str := if lo = m ∧ hi = m then ["must"] else if lo = 0 ∧ hi = m then ["may"] else if lo = 1 ∧ hi = 1 then ["one"] else ["from", numT lo, "to", numT hi]
def spBoundW : Sp := fun vs H Q _ => ∃ lo hi m : Nat, vs = [.int (lo : Int), .int (hi : Int), .int (m : Int)] ∧ lo ≤ 1000 ∧ hi ≤ 1000 ∧ ∀ p, H p = none → Q (.ref p) (upd H p (.lst (strsL (boundW lo hi m))))
theorem nat_eq (a b : Nat) : decide (V.int (a : Int) = V.int (b : Int)) = decide (a = b) := by
  rw [Bool.eq_iff_iff, decide_eq_true_iff, decide_eq_true_iff]
  constructor
  · intro h
    injection h with h
    omega
  · intro h
    rw [h]
theorem log_small {n : Nat} (h : n ≤ 1000) : ((n : Int)).natAbs.log2 < 1920 := by
  rw [Int.natAbs_natCast]
  rcases Nat.eq_zero_or_pos n with z | z
  · rw [z]
    decide
  · exact (Nat.log2_lt (by omega)).mpr (Nat.lt_of_le_of_lt h (Nat.lt_of_lt_of_le (by decide : 1000 < 2 ^ 10) (Nat.pow_le_pow_right (by decide) (by decide))))
theorem iteAnd {b1 b2 : Bool} {A B C : Prop} (hu : (if b2 = true then A else B) → C) (h : if (b1 && b2) = true then A else B) : if b1 = true then C else (if false = true then A else B) := by
  cases b1 with
  | false => exact h
  | true => exact hu h
theorem iteOr {b1 b2 : Bool} {A B C : Prop} (hu : (if b2 = true then A else B) → C) (h : if (b1 || b2) = true then A else B) : if b1 = true then (if true = true then A else B) else C := by
  cases b1 with
  | false => exact hu h
  | true => exact h
theorem nat_and (a b x y : Nat) : (decide (V.int (a : Int) = V.int (b : Int)) && decide (V.int (x : Int) = V.int (y : Int))) = decide (a = b ∧ x = y) := by
  rw [nat_eq, nat_eq, Bool.eq_iff_iff, Bool.and_eq_true, decide_eq_true_iff, decide_eq_true_iff, decide_eq_true_iff]
end Ow

set_option maxRecDepth 100000
set_option maxHeartbeats 4000000
/-! ### Texts of woods: lists of texts compared; the first line, rising names -/
namespace Ow
open PySem L2 Wd
def strD (ws : List Str) : PyData := .list (ws.map PyData.str)
def PlainL (ws : List Str) : Prop := ∀ w ∈ ws, PyData.strOk w = true
theorem dnl_strs (H : Hp) : ∀ ws : List Str, DnL H (ws.map PyData.str) (strsL ws)
  | [] => rfl
  | w :: ws => ⟨_, _, rfl, rfl, dnl_strs H ws⟩
theorem dn_strs {H : Hp} {l : Addr} {ws : List Str} (h : H l = some (.lst (strsL ws))) : Dn H (strD ws) (.ref l) := ⟨l, _, rfl, h, dnl_strs H ws⟩
theorem flat_strD : ∀ {ws : List Str}, PlainL ws → (ws.map PyData.str).all (flatD 1) = true
  | [], _ => rfl
  | w :: ws, h => by
    rw [List.map_cons, List.all_cons, flat_strD (ws := ws) fun x hx => h x (List.mem_cons_of_mem _ hx), Bool.and_true]
    exact h w List.mem_cons_self
theorem shaped_strs {ws : List Str} (h : PlainL ws) : SeqAt.shaped (strD ws) = true := shaped_flat (flat_strD h) (by decide)
theorem eqv_strs : ∀ ws vs : List Str, PyData.eqv (strD ws) (strD vs) = decide (ws = vs) := by
  have z : ∀ ws vs : List Str, PyData.eqvAll (ws.map PyData.str) (vs.map PyData.str) = decide (ws = vs) := by
    intro ws
    induction ws with
    | nil =>
      intro vs
      cases vs with
      | nil => simp [PyData.eqvAll]
      | cons v vs => simp [PyData.eqvAll]
    | cons w ws ih =>
      intro vs
      cases vs with
      | nil => simp [PyData.eqvAll]
      | cons v vs =>
        have e1 : (w == v) = decide (w = v) := by
          rw [Bool.eq_iff_iff, beq_iff_eq, decide_eq_true_iff]
        simp only [List.map_cons, PyData.eqvAll, ih, PyData.eqv, e1, List.cons.injEq]
        exact (Bool.decide_and _ _).symm
  intro ws vs
  simp only [strD, PyData.eqv]
  exact z ws vs
section
variable {X : Cx}
theorem op_eq_strs (hu : X.A.units + 64 < cLine) : OpR X (compareOp .Eq) (fun x y H Q => ∃ (a b : Addr) (ws vs : List Str), x = .ref a ∧ y = .ref b ∧ H a = some (.lst (strsL ws)) ∧ H b = some (.lst (strsL vs)) ∧ PlainL ws ∧ PlainL vs ∧ Q (.bl (decide (ws = vs))) H) := by
  intro pins s σ H x y v u Q I rx ry h
  obtain ⟨a, b, ws, vs, rfl, rfl, ha, hb, p1, p2, q⟩ := h
  exact op_eq_data hu pins s σ H _ _ v u Q I rx ry ⟨strD ws, strD vs, dn_strs ha, dn_strs hb, shaped_strs p1, shaped_strs p2, by rw [eqv_strs]; exact q⟩
theorem op_ne_strs (hu : X.A.units + 64 < cLine) : OpR X (compareOp .NotEq) (fun x y H Q => ∃ (a b : Addr) (ws vs : List Str), x = .ref a ∧ y = .ref b ∧ H a = some (.lst (strsL ws)) ∧ H b = some (.lst (strsL vs)) ∧ PlainL ws ∧ PlainL vs ∧ Q (.bl (!decide (ws = vs))) H) := by
  intro pins s σ H x y v u Q I rx ry h
  obtain ⟨a, b, ws, vs, rfl, rfl, ha, hb, p1, p2, q⟩ := h
  exact op_ne_data hu pins s σ H _ _ v u Q I rx ry ⟨strD ws, strD vs, dn_strs ha, dn_strs hb, shaped_strs p1, shaped_strs p2, by rw [eqv_strs]; exact q⟩
end
/-- the names of a wood: each once, each a name -/
structure Names (ns : List Str) : Prop where
  ne : ns ≠ []
  few : ns.length ≤ 9
  nd : ns.Nodup
  plain : ∀ z ∈ ns, Plain z
  name : ∀ z ∈ ns, isName z = true
def spNamesIn : Sp := fun vs H Q _ => ∃ (l : Addr) (ns : List Str), vs = [.ref l] ∧ H l = some (.lst (strsL ("ware" :: ns))) ∧ Names ns ∧ ∀ (p : Addr) (H' : Hp), Same H H' → H p = none → H' p = some (.lst (strsL ns)) → Q (.ref p) H'
def nameAt (ns : List Str) (k : Nat) : Str := ns.getD k ""
def spRiseIn : Sp := fun vs H Q _ => ∃ (l lw : Addr) (ns : List Str) (ks : List Nat), vs = [.ref l, .ref lw] ∧ H l = some (.lst (strsL ns)) ∧ H lw = some (.lst (strsL (ks.map (nameAt ns)))) ∧ ns.Nodup ∧ ns.length ≤ 9 ∧ ks ≠ [] ∧ ks.Pairwise (· < ·) ∧ (∀ k ∈ ks, k < ns.length) ∧
  ∀ (p : Addr) (H' : Hp), Same H H' → H p = none → H' p = some (.lst (natsL ks)) → Q (.ref p) H'
theorem idx_at {ns : List Str} (nd : ns.Nodup) {k : Nat} (h : k < ns.length) : nameAt ns k ∈ ns ∧ ns.idxOf (nameAt ns k) = k := by
  have e : nameAt ns k = ns[k] := by
    unfold nameAt
    rw [List.getD_eq_getElem?_getD, List.getElem?_eq_getElem h]
    rfl
  have m : nameAt ns k ∈ ns := by
    rw [e]
    exact List.getElem_mem h
  refine ⟨m, ?_⟩
  have g := idx_get m
  obtain ⟨hl, g2⟩ := List.getElem?_eq_some_iff.mp g
  exact (List.getElem_inj nd).mp (g2.trans e)
theorem rise_eq : ∀ {ms : List Int} {ks : List Nat}, ms.Pairwise (· < ·) → ks.Pairwise (· < ·) → (∀ v, v ∈ ms ↔ ∃ n ∈ ks, v = ((n : Nat) : Int)) → ms = ks.map fun k : Nat => (k : Int) := by
  intro ms ks h1 h2 h
  have h3 : (ks.map fun k : Nat => (k : Int)).Pairwise (· < ·) := List.Pairwise.map _ (fun a b hab => by exact_mod_cast hab) h2
  have nd1 : ms.Nodup := h1.imp fun hab => Int.ne_of_lt hab
  have nd2 : (ks.map fun k : Nat => (k : Int)).Nodup := h3.imp fun hab => Int.ne_of_lt hab
  have pm : ms.Perm (ks.map fun k : Nat => (k : Int)) := (List.perm_ext_iff_of_nodup nd1 nd2).mpr fun v => by
    rw [h, List.mem_map]
    exact ⟨fun ⟨n, a, b⟩ => ⟨n, a, b.symm⟩, fun ⟨n, a, b⟩ => ⟨n, a, b.symm⟩⟩
  exact pm.eq_of_pairwise (fun a b _ _ x y => absurd (Int.lt_trans x y) (Int.lt_irrefl _)) h1 h3
end Ow

set_option maxRecDepth 100000
set_option maxHeartbeats 4000000
/-! ### Numbers written out -/
namespace Ow
open PySem L2 Wd PySem.W.KIN PySem.NumText PyProof.Rows PySem.Calls PySem.W
theorem digs_step {m : Nat} (h : 10 ≤ m) : Nat.toDigits 10 m = Nat.toDigits 10 (m / 10) ++ [Nat.digitChar (m % 10)] := by
  have hm : m % 10 < 10 := Nat.mod_lt m (by decide)
  have t : Nat.toDigits 10 (m / 10) ++ Nat.toDigits 10 (m % 10) = Nat.toDigits 10 (10 * (m / 10) + m % 10) := Nat.toDigits_append_toDigits (by decide) (by omega) hm
  rw [Nat.div_add_mod, Nat.toDigits_of_lt_base hm] at t
  exact t.symm
/-- how long a number is, and that it does not begin with 0 -/
theorem digs_len : ∀ (k m : Nat), m < 10 ^ (k + 1) → (Nat.toDigits 10 m).length ≤ k + 1 ∧ Nat.toDigits 10 m ≠ [] ∧ (m ≠ 0 → (Nat.toDigits 10 m).head? ≠ some '0')
  | 0, m, h => by
    have h' : m < 10 := by simpa using h
    rw [Nat.toDigits_of_lt_base h']
    refine ⟨Nat.le_refl _, by simp, fun n => ?_⟩
    have z : ∀ d : Fin 10, d.val ≠ 0 → ([Nat.digitChar d.val].head? ≠ some '0') := by decide
    exact z ⟨m, h'⟩ n
  | k + 1, m, h => by
    by_cases h' : m < 10
    · obtain ⟨a, b, c⟩ := digs_len 0 m (by simpa using h')
      exact ⟨by omega, b, c⟩
    · have h2 : m / 10 < 10 ^ (k + 1) := by
        rw [Nat.div_lt_iff_lt_mul (by decide)]
        rw [Nat.pow_succ] at h
        exact h
      obtain ⟨a, b, c⟩ := digs_len k (m / 10) h2
      rw [digs_step (by omega)]
      refine ⟨by rw [List.length_append]; show _ + 1 ≤ _; omega, by simp, fun _ => ?_⟩
      rw [List.head?_append]
      cases e : (Nat.toDigits 10 (m / 10)).head? with
      | none => exact absurd (List.head?_eq_none_iff.mp e) b
      | some x =>
        have := c (by omega)
        rw [e] at this
        exact this
theorem digs_range {m : Nat} {c : Nat} (h : c ∈ (Nat.toDigits 10 m).map Char.toNat) : 48 ≤ c ∧ c ≤ 57 := by
  obtain ⟨ch, hch, e⟩ := List.mem_map.mp h
  have r := digit_range (Nat.isDigit_of_mem_toDigits (by decide) (by decide) hch)
  rw [← e]
  exact r
theorem fig_in {c : Nat} (h : 48 ≤ c ∧ c ≤ 57) : inT c figuresT = true := by
  have z : ∀ d : Fin 10, inT (48 + d.val) figuresT = true := by decide +kernel
  have := z ⟨c - 48, by omega⟩
  rwa [show 48 + (c - 48) = c by omega] at this
theorem numT_nat (m : Nat) : (numT (m : Int)).cps.toList = (Nat.toDigits 10 m).map Char.toNat := signs_num m
theorem numT_neg (m : Nat) : (numT (-((m + 1 : Nat) : Int))).cps.toList = 45 :: (Nat.toDigits 10 (m + 1)).map Char.toNat := by
  unfold numT
  rw [signs_ofString]
  show (("-" ++ Nat.repr (m + 1)).toList).map Char.toNat = _
  rw [String.toList_append, Nat.toList_repr]
  rfl
/-- a text by its signs -/
def ofL (cs : List Nat) : Str := ⟨cs.toArray⟩
theorem ofL_eq {z : Str} {cs : List Nat} (h : z.cps.toList = cs) : z = ofL cs := by
  obtain ⟨c⟩ := z
  unfold ofL
  rw [← h]
theorem ofL_cps (cs : List Nat) : (ofL cs).cps.toList = cs := by
  unfold ofL
  rw [List.toList_toArray]
theorem ofL_len (cs : List Nat) : (ofL cs).length = cs.length := by
  show (ofL cs).cps.size = _
  rw [← Array.length_toList, ofL_cps]
theorem plain_ofL {cs : List Nat} (h : ∀ c ∈ cs, c < 128) (hl : cs.length ≤ 1000) : Plain (ofL cs) := by
  refine ⟨?_, by have := ofL_len cs; show (ofL cs).length ≤ 1000; omega⟩
  rw [Array.all_eq_true']
  intro c hc
  have : c ∈ (ofL cs).cps.toList := Array.mem_toList_iff.mpr hc
  rw [ofL_cps] at this
  exact decide_eq_true (h c this)
theorem minus_cons (c : Nat) (cs : List Nat) : minusAt (ofL (c :: cs)) = decide (c = 45) := by
  unfold minusAt
  rw [decide_eq_true (show 0 + 1 ≤ (ofL (c :: cs)).length by rw [ofL_len, List.length_cons]; omega), Bool.true_and]
  unfold Builtin.Str.subAt
  rw [show ("-" : Str).cps = #[45] from rfl, show ("-" : Str).length = 1 from rfl, show (ofL (c :: cs)).cps.extract 0 (0 + 1) = #[c] from by
    apply Array.toList_inj.mp
    rw [Array.toList_extract, ofL_cps]
    simp]
  rw [Bool.eq_iff_iff, beq_iff_eq, decide_eq_true_iff]
  constructor
  · intro h
    simpa using h
  · intro h
    rw [h]
theorem made_digits {cs : List Nat} (h : ∀ c ∈ cs, 48 ≤ c ∧ c ≤ 57) : madeOf (ofL cs) figuresT = true := by
  unfold madeOf
  rw [ofL_cps, List.all_eq_true]
  exact fun c hc => fig_in (h c hc)
theorem figs_neg (cs : List Nat) : figs (ofL (45 :: cs)) = ofL cs := by
  unfold figs
  rw [minus_cons, if_pos (decide_eq_true rfl), StrLaws.sliceText_from (i := 1) ⟨by decide, by rw [ofL_cps, List.length_cons]; omega⟩, ofL_cps]
  show ofL (cs.take _) = ofL cs
  rw [List.take_of_length_le]
  rw [List.length_cons]
  omega
theorem figs_pos {c : Nat} {cs : List Nat} (h : c ≠ 45) : figs (ofL (c :: cs)) = ofL (c :: cs) := by
  unfold figs
  rw [minus_cons, decide_eq_false h]
  rfl
theorem head_dig {m : Nat} (h : m ≠ 0) (h2 : m < 10 ^ 60) : ∃ c cs, (Nat.toDigits 10 m).map Char.toNat = c :: cs ∧ c ≠ 48 := by
  obtain ⟨_, a, b⟩ := digs_len 59 m h2
  cases e : Nat.toDigits 10 m with
  | nil => exact absurd e a
  | cons x r =>
    refine ⟨x.toNat, r.map Char.toNat, rfl, fun z => b h ?_⟩
    rw [e, List.head?_cons]
    congr 1
    apply Char.ext
    apply UInt32.toNat_inj.mp
    exact z
theorem num_ok {n : Int} (h : n.natAbs < 10 ^ 60) : Plain (numT n) ∧ Plain (figs (numT n)) ∧ isNum (numT n) = true ∧ PySem.intText? (numT n) = some n ∧ (numT n).length ≤ 61 := by
  by_cases z : n = 0
  · subst z
    have e0 : numT 0 = ofL [48] := ofL_eq (numT_nat 0)
    have p : Plain (ofL [48]) := plain_ofL (by decide) (by decide)
    have d : ∀ c ∈ [48], 48 ≤ c ∧ c ≤ 57 := by decide
    refine ⟨by rw [e0]; exact p, by rw [e0, figs_pos (by decide)]; exact p, ?_, ?_, by rw [e0, ofL_len]; decide⟩
    · unfold isNum
      rw [e0, figs_pos (by decide), made_digits d, ofL_len]
      decide
    · exact num_reads (n := 0) (by decide) (by decide)
  · obtain ⟨m, hm⟩ : ∃ m, m = n.natAbs := ⟨_, rfl⟩
    have m0 : m ≠ 0 := by omega
    rw [← hm] at h
    obtain ⟨l60, ne, _⟩ := digs_len 59 m h
    obtain ⟨c, cs, ec, c48⟩ := head_dig m0 h
    have rg : ∀ x ∈ c :: cs, 48 ≤ x ∧ x ≤ 57 := fun x hx => digs_range (m := m) (by rw [ec]; exact hx)
    have ln : (c :: cs).length ≤ 60 := by
      rw [← ec, List.length_map]
      exact l60
    have c45 : c ≠ 45 := by
      have := rg c List.mem_cons_self
      omega
    have vb : digitsVal (c :: cs) = m := by
      rw [← ec]
      exact val_back m
    have pd : Plain (ofL (c :: cs)) := plain_ofL (fun x hx => by have := rg x hx; omega) (by omega)
    have last : (decide (1 ≤ (ofL (c :: cs)).length ∧ (ofL (c :: cs)).length ≤ 60) && madeOf (ofL (c :: cs)) figuresT) = true ∧ decide ((ofL (c :: cs)).cps.toList.head? = some 48) = false := by
      refine ⟨?_, ?_⟩
      · rw [made_digits rg, ofL_len, Bool.and_true]
        exact decide_eq_true ⟨by rw [List.length_cons]; omega, ln⟩
      · rw [ofL_cps, List.head?_cons]
        exact decide_eq_false fun z => c48 (by injection z)
    rcases Int.lt_or_le n 0 with s | s
    · have en : numT n = ofL (45 :: c :: cs) := by
        apply ofL_eq
        rw [show n = -(((m - 1) + 1 : Nat) : Int) by omega, numT_neg, show m - 1 + 1 = m by omega, ec]
      have pn : Plain (ofL (45 :: c :: cs)) := plain_ofL (fun x hx => by
        rcases List.mem_cons.mp hx with q | q
        · omega
        · have := rg x q
          omega) (by rw [List.length_cons]; omega)
      refine ⟨by rw [en]; exact pn, by rw [en, figs_neg]; exact pd, ?_, ?_, by rw [en, ofL_len, List.length_cons]; omega⟩
      · unfold isNum
        rw [en, figs_neg, last.1, last.2]
        simp
      · rw [en, intText_neg (ofL_cps _) rg (by simp) (by rw [ofL_len, List.length_cons]; omega), vb]
        congr 1
        omega
    · have en : numT n = ofL (c :: cs) := by
        apply ofL_eq
        rw [show n = ((m : Nat) : Int) by omega, numT_nat, ec]
      refine ⟨by rw [en]; exact pd, by rw [en, figs_pos c45]; exact pd, ?_, ?_, by rw [en, ofL_len]; omega⟩
      · unfold isNum
        rw [en, figs_pos c45, last.1, last.2]
        simp
      · rw [en, intText_digits (x := ofL (c :: cs)) (by rw [ofL_cps]; exact rg) (by rw [ofL_cps]; simp) (by rw [ofL_len]; omega), ofL_cps, vb]
        congr 1
        omega
/-! what more of read and shown promise -/
def spShowSet : Sp := fun vs H Q _ => ∃ (l : Addr) (ns : List Str) (n : Nat), vs = [.ref l, .int (n : Int)] ∧ H l = some (.lst (strsL ns)) ∧ n < 512 ∧ (∀ k ∈ bitsL n, k < ns.length) ∧ (∀ z ∈ ns, z.length ≤ 1000) ∧ ∀ H', Same H H' → Q (.str (Str.join "," ((bitsL n).map (nameAt ns)))) H'
def spBoundsIn : Sp := fun vs H Q _ => ∃ (l : Addr) (lo hi m : Nat), vs = [.ref l, .int (m : Int)] ∧ H l = some (.lst (strsL (boundW lo hi m))) ∧ lo ≤ 1000 ∧ hi ≤ 1000 ∧ ∀ (p : Addr) (H' : Hp), Same H H' → H p = none → H' p = some (.tup [.int (lo : Int), .int (hi : Int)]) → Q (.ref p) H'
theorem w1 (x : V) : ([x] : List V).length ≤ sizeLine := by
  rw [sizeLine_eq]
  show 1 ≤ _
  decide
theorem w2 (x y : V) : ([x, y] : List V).length ≤ sizeLine := by
  rw [sizeLine_eq]
  show 2 ≤ _
  decide
theorem strOk_plain {z : Str} (h : Plain z) : PyData.strOk z = true := by
  unfold PyData.strOk
  rw [Array.all_eq_true']
  intro c hc
  have := Array.all_eq_true'.mp h.1 c hc
  have := of_decide_eq_true this
  exact decide_eq_true (by omega)
theorem cut_from (xs : List V) (k : Nat) : cutV xs (some (k : Int)) none = xs.drop k := by
  unfold cutV
  rw [HT.sIx_nat]
  show (xs.drop (min k xs.length)).take (xs.length - min k xs.length) = _
  rw [List.take_of_length_le (by rw [List.length_drop]; omega)]
  by_cases z : k ≤ xs.length
  · rw [Nat.min_eq_left z]
  · rw [Nat.min_eq_right (by omega), List.drop_of_length_le (Nat.le_refl _), List.drop_of_length_le (by omega)]
theorem len_range {ks : List Nat} {n : Nat} (rs : ks.Pairwise (· < ·)) (lt : ∀ k ∈ ks, k < n) : ks.length ≤ n := by
  have nd : ks.Nodup := rs.imp fun h => Nat.ne_of_lt h
  have h1 := nd.length_le_of_subset (l₂ := List.range n) fun v hv => List.mem_range.mpr (lt v hv)
  rwa [List.length_range] at h1
theorem nats_ints (ks : List Nat) : natsL ks = (ks.map fun k : Nat => (k : Int)).map V.int := by
  unfold natsL
  rw [List.map_map]
  rfl
theorem plain_bound {lo hi m : Nat} (l1 : lo ≤ 1000) (l2 : hi ≤ 1000) : PlainL (boundW lo hi m) := by
  have pw : ∀ s ∈ (["must", "may", "one", "from", "to"] : List Str), PyData.strOk s = true := by decide +kernel
  have pn : ∀ n : Nat, n ≤ 1000 → PyData.strOk (numT (n : Int)) = true := fun n hn => strOk_plain (num_ok (n := (n : Int)) (Nat.lt_of_le_of_lt (show ((n : Int)).natAbs ≤ 1000 by omega) (by decide))).1
  unfold boundW
  split
  · exact fun x hx => pw x (by rw [List.mem_singleton.mp hx]; decide)
  split
  · exact fun x hx => pw x (by rw [List.mem_singleton.mp hx]; decide)
  split
  · exact fun x hx => pw x (by rw [List.mem_singleton.mp hx]; decide)
  intro x hx
  simp only [List.mem_cons, List.not_mem_nil, or_false] at hx
  rcases hx with rfl | rfl | rfl | rfl
  · exact pw _ (by decide)
  · exact pn lo l1
  · exact pw _ (by decide)
  · exact pn hi l2
theorem bound_must {lo hi m : Nat} (h : boundW lo hi m = (["must"] : List Str)) : lo = m ∧ hi = m := by
  unfold boundW at h
  split at h
  · assumption
  split at h
  · exact absurd h (by decide)
  split at h
  · exact absurd h (by decide)
  · cases h
theorem bound_cases {lo hi m : Nat} (n1 : boundW lo hi m ≠ (["must"] : List Str)) : (boundW lo hi m = (["may"] : List Str) ∧ lo = 0 ∧ hi = m) ∨ (boundW lo hi m ≠ (["may"] : List Str) ∧ ((boundW lo hi m = (["one"] : List Str) ∧ lo = 1 ∧ hi = 1) ∨ (boundW lo hi m ≠ (["one"] : List Str) ∧ boundW lo hi m = (["from", numT lo, "to", numT hi] : List Str)))) := by
  unfold boundW at n1 ⊢
  by_cases a : lo = m ∧ hi = m
  · rw [if_pos a] at n1
    exact absurd rfl n1
  rw [if_neg a]
  by_cases b : lo = 0 ∧ hi = m
  · rw [if_pos b]
    exact .inl ⟨rfl, b⟩
  rw [if_neg b]
  by_cases c : lo = 1 ∧ hi = 1
  · rw [if_pos c]
    exact .inr ⟨by decide, .inl ⟨rfl, c⟩⟩
  rw [if_neg c]
  exact .inr ⟨(by intro z; cases z), .inr ⟨(by intro z; cases z), rfl⟩⟩
theorem abs_small {n : Nat} (h : n ≤ 1000) : ((n : Int)).natAbs < 10 ^ 60 := Nat.lt_of_le_of_lt (show ((n : Int)).natAbs ≤ 1000 by omega) (by decide)
theorem len_not0 {α : Type} {l : List α} {n : Nat} (h : l ≠ []) (e : n = l.length) : decide (V.int (n : Int) = V.int 0) = false := by
  refine decide_eq_false fun z => ?_
  injection z with z
  have : l.length ≠ 0 := fun y => h (List.length_eq_zero_iff.mp y)
  omega
theorem nodup_len {ks ns : List Str} (h1 : ks.Nodup) (h2 : ns.Nodup) (h : ∀ k, k ∈ ks ↔ k ∈ ns) : ks.length = ns.length := ((List.perm_ext_iff_of_nodup h1 h2).mpr h).length_eq
end Ow

set_option maxRecDepth 100000
set_option maxHeartbeats 4000000
namespace L2
open PySem PySem.Spec PyProof.Rows
section
variable {prog : Program} {w : World} {A : Around} {E : Value → Shared → Prop} {s : Shared}
theorem alive_any {a : Addr} {Q : Option Obj → Shared → Prop} (q : Q (s.heap.get? a) s) : wpAny (model prog w) A (loadIfAlive a) Q E s := by
  intro Γ p _
  unfold loadIfAlive
  rw [Sem.wp_loadIfAlive, Sem.wp_pure]
  exact q
end
section
variable {prog : Program} {w : World} {A : Around} {s : Shared} {R : Result → Shared → Prop}
end
section
variable {prog : Program} {w : World} {A : Around} {E : Value → Shared → Prop} {s : Shared}
end
section
variable {X : Cx} {pins : List (Addr × Obj)} {σ : List (Option V)} {H H' : Hp} {s : Shared} {h' : Heap}
/-- many new objects at once -/
theorem Inv.many {t' : Nat} (I : Inv X pins σ H s) (k : ∀ b u, s.heap.get? b = some u → h'.get? b = some u) (old : ∀ b, b < s.heap.objs.size → H' b = H b) (new : ∀ b o, s.heap.objs.size ≤ b → H' b = some o → ObjOk X.prog X.w H' h' b o) :
    Inv X pins σ H' { s with heap := h', toks := t' } := by
  have ext : ∀ b o, H b = some o → H' b = some o := fun b o q => by
    rw [old b (I.hok.lt q)]
    exact q
  refine I.un ⟨fun b u q _ _ _ => k b u q, fun b u q _ _ _ => ⟨u.slots, k b u q⟩, fun b u q n _ => by rw [old b (Heap.lt_size q)]; exact n, fun b u q _ => ⟨u, k b u q⟩, fun b xs q => ext _ _ q, fun b o u q => ext _ _ q, fun b ps q => ⟨#[], by rw [ext _ _ q]; simp⟩⟩ fun b o e => ?_
  by_cases z : b < s.heap.objs.size
  · rw [old b z] at e
    exact (I.hok b o e).stay (fun c v _ q => k c v q) (fun c q => ext _ _ q) fun c xs q => ext _ _ q
  · exact new b o (Nat.le_of_not_lt z) e
end
open Classical in
section
variable {X : Cx}
end
end L2

set_option maxRecDepth 100000
set_option maxHeartbeats 4000000
/-! ### Texts of woods: lines written -/
namespace L2
open PySem
theorem mt_joinK {X : Cx} {K : PySem.W.Frag} (hK : X.K = K := by rfl) : MtR X "str.join" (rJoin K) := hK ▸ mt_join
end L2
namespace Ow
open PySem L2 Wd
theorem name_get {ns : List Str} {k : Nat} (h : k < ns.length) : (strsL ns)[k]? = some (.str (nameAt ns k)) := by
  unfold strsL nameAt
  rw [List.getElem?_map, List.getElem?_eq_getElem h, List.getD_eq_getElem?_getD, List.getElem?_eq_getElem h]
  rfl
theorem sum_len {b : Nat} : ∀ {ws : List Str}, (∀ z ∈ ws, z.length ≤ b) → (ws.map (·.length)).sum ≤ ws.length * b
  | [], _ => by simp
  | w :: ws, h => by
    have h1 := h w List.mem_cons_self
    have h2 := sum_len (ws := ws) fun z hz => h z (List.mem_cons_of_mem _ hz)
    rw [List.map_cons, List.sum_cons, List.length_cons, Nat.succ_mul]
    omega
theorem nameAt_len {ns : List Str} {b : Nat} (h : ∀ z ∈ ns, z.length ≤ b) (k : Nat) : (nameAt ns k).length ≤ b := by
  unfold nameAt
  rw [List.getD_eq_getElem?_getD]
  cases e : ns[k]? with
  | none => exact Nat.zero_le _
  | some z => exact h z (List.mem_of_getElem? e)
/-- the words of a line of a cross tie -/
def tieW (ns : List Str) : Tie → List Str
  | .needs a b => [nameAt ns a, "needs", nameAt ns b]
  | .bans a b => [nameAt ns a, "bans", nameAt ns b]
  | .most top ps => (["most", numT top, "of"] : List Str) ++ ps.flatMap fun p => [numT p.2, nameAt ns p.1]
  | .bough _ _ _ _ => []
def isCross : Tie → Bool
  | .bough _ _ _ _ => false
  | _ => true
/-- what the numbers and options of a tie may be -/
def Tie.Small (m : Nat) : Tie → Prop
  | .needs a b => a < m ∧ b < m
  | .bans a b => a < m ∧ b < m
  | .most top ps => top.natAbs < 10 ^ 60 ∧ ps.length ≤ 9 ∧ ∀ p ∈ ps, p.1 < m ∧ p.2.natAbs < 10 ^ 60
  | .bough _ _ _ _ => True
def spTieW : Sp := fun vs H Q _ => ∃ (l : Addr) (ns : List Str) (v : V) (t : Tie), vs = [.ref l, v] ∧ H l = some (.lst (strsL ns)) ∧ Dn H t.toD v ∧ isCross t = true ∧ Tie.Small ns.length t ∧ ∀ (p : Addr) (H' : Hp), Same H H' → H p = none → H' p = some (.lst (strsL (tieW ns t))) → Q (.ref p) H'
theorem log_num {n : Int} (h : n.natAbs < 10 ^ 60) : n.natAbs.log2 < 1920 := by
  rcases Nat.eq_zero_or_pos n.natAbs with z | z
  · rw [z]
    decide
  · refine (Nat.log2_lt (by omega)).mpr (Nat.lt_trans h ?_)
    exact Nat.lt_of_lt_of_le (by decide +kernel : 10 ^ 60 < 2 ^ 200) (Nat.pow_le_pow_right (by decide) (by decide))
theorem flat2_len {α : Type} {f g : α → Str} {n : Nat} : ∀ (l : List α), l.length ≤ n → (l.flatMap fun p => [f p, g p]).length ≤ 2 * n
  | l, h => by
    have e : (l.flatMap fun p => [f p, g p]).length = 2 * l.length := by
      clear h
      induction l with
      | nil => rfl
      | cons x r ih =>
        rw [List.flatMap_cons, List.length_append, ih]
        simp only [List.length_cons, List.length_nil]
        omega
    omega
theorem strs_app (a b : List Str) : strsL (a ++ b) = strsL a ++ strsL b := List.map_append ..
/-- the words of a line of a bough -/
def boughW (ns : List Str) (u lo hi : Nat) (ks : List Nat) : List Str := nameAt ns u :: (boundW lo hi ks.length ++ ks.map (nameAt ns))
def spBoughIn : Sp := fun vs H Q _ => ∃ (l lw : Addr) (ns : List Str) (u lo hi : Nat) (ks : List Nat), vs = [.ref l, .ref lw] ∧ H l = some (.lst (strsL ns)) ∧ H lw = some (.lst (strsL (boughW ns u lo hi ks))) ∧ Names ns ∧ u < ns.length ∧ lo ≤ 1000 ∧ hi ≤ 1000 ∧ ks ≠ [] ∧ ks.Pairwise (· < ·) ∧ (∀ k ∈ ks, k < ns.length) ∧
  ∀ (v : V) (H' : Hp), Same H H' → Dn H' (Tie.bough u lo hi ks).toD v → Q v H'
theorem cut_mid (xs : List V) {a b : Nat} (h : a ≤ b) (hb : b ≤ xs.length) : cutV xs (some (a : Int)) (some (b : Int)) = (xs.drop a).take (b - a) := by
  unfold cutV
  rw [HT.sIx_nat, HT.sIx_nat, Nat.min_eq_left hb, Nat.min_eq_left (Nat.le_trans h hb)]
theorem bound_len (lo hi m : Nat) : (∃ w, boundW lo hi m = [w] ∧ w ≠ "from") ∨ boundW lo hi m = (["from", numT lo, "to", numT hi] : List Str) := by
  unfold boundW
  split
  · exact .inl ⟨_, rfl, by decide⟩
  split
  · exact .inl ⟨_, rfl, by decide⟩
  split
  · exact .inl ⟨_, rfl, by decide⟩
  exact .inr rfl
theorem ite_val {c : Bool} {A : V → Prop} {x y z : V} (h : (if c = true then x else y) = z) (k : A z) : if c = true then A x else A y := by
  cases c with
  | false =>
    rw [if_neg (by simp)] at h ⊢
    rw [h]
    exact k
  | true =>
    rw [if_pos rfl] at h ⊢
    rw [h]
    exact k
theorem bound_head (lo hi m : Nat) : ∃ b0 br, boundW lo hi m = b0 :: br ∧ ((b0 = "from" ∧ br.length = 3) ∨ (b0 ≠ "from" ∧ br.length = 0)) := by
  rcases bound_len lo hi m with ⟨w0, e, n⟩ | e
  · exact ⟨w0, [], e, .inr ⟨n, rfl⟩⟩
  · exact ⟨_, _, e, .inl ⟨rfl, rfl⟩⟩
section
variable {ns : List Str} {u lo hi : Nat} {ks : List Nat} {b0 : Str} {br : List Str}
theorem cut_b1 (e : boundW lo hi ks.length = b0 :: br) : cutV (strsL (boughW ns u lo hi ks)) (some 1) (some 2) = strsL [b0] := by
  have e2 : boughW ns u lo hi ks = nameAt ns u :: b0 :: (br ++ ks.map (nameAt ns)) := by
    unfold boughW
    rw [e]
    rfl
  rw [e2]
  exact cut_mid (a := 1) (b := 2) _ (by decide) (by rw [strsL, List.length_map, List.length_cons, List.length_cons]; omega)
theorem cut_b2 (e : boundW lo hi ks.length = b0 :: br) : cutV (strsL (boughW ns u lo hi ks)) (some ((br.length + 2 : Nat) : Int)) none = strsL (ks.map (nameAt ns)) := by
  have e2 : boughW ns u lo hi ks = nameAt ns u :: b0 :: (br ++ ks.map (nameAt ns)) := by
    unfold boughW
    rw [e]
    rfl
  rw [e2, cut_from]
  unfold strsL
  rw [← List.map_drop]
  show ((br ++ ks.map (nameAt ns)).drop br.length).map V.str = _
  rw [List.drop_left]
theorem cut_b3 (e : boundW lo hi ks.length = b0 :: br) : cutV (strsL (boughW ns u lo hi ks)) (some 1) (some ((br.length + 2 : Nat) : Int)) = strsL (boundW lo hi ks.length) := by
  have e2 : boughW ns u lo hi ks = nameAt ns u :: ((b0 :: br) ++ ks.map (nameAt ns)) := by
    unfold boughW
    rw [e]
  have hb : br.length + 2 ≤ (strsL (nameAt ns u :: ((b0 :: br) ++ ks.map (nameAt ns)))).length := by
    rw [strsL, List.length_map, List.length_cons, List.length_append, List.length_cons]
    omega
  rw [e2, e, show (1 : Int) = ((1 : Nat) : Int) from rfl, cut_mid (a := 1) (b := br.length + 2) _ (by omega) hb]
  unfold strsL
  rw [← List.map_drop, ← List.map_take]
  show (((b0 :: br) ++ ks.map (nameAt ns)).take (br.length + 1)).map V.str = _
  rw [show br.length + 1 = (b0 :: br).length from rfl, List.take_left]
end
/-- a list of lists of texts, at its own place -/
def LinesAt (H : Hp) (kl : Addr) (ls : List (List Str)) : Prop := ∃ refs : List V, H kl = some (.lst refs) ∧ refs.length = ls.length ∧ ∀ (j : Nat) ws, ls[j]? = some ws → ∃ a, refs[j]? = some (.ref a) ∧ a ≠ kl ∧ H a = some (.lst (strsL ws))
theorem LinesAt.same {H H' : Hp} {kl : Addr} {ls : List (List Str)} (s : Same H H') (h : LinesAt H kl ls) : LinesAt H' kl ls := by
  obtain ⟨r, h1, h2, h3⟩ := h
  exact ⟨r, s _ _ h1, h2, fun j ws e => (h3 j ws e).imp fun a ⟨x, y, z⟩ => ⟨x, y, s _ _ z⟩⟩
theorem LinesAt.snoc {H : Hp} {kl a : Addr} {ls : List (List Str)} {refs : List V} {ws : List Str} (h : LinesAt H kl ls) (hr : H kl = some (.lst refs)) (ha : H a = some (.lst (strsL ws))) (ne : a ≠ kl) : LinesAt (upd H kl (.lst (refs ++ [.ref a]))) kl (ls ++ [ws]) := by
  obtain ⟨r, h1, h2, h3⟩ := h
  rw [hr] at h1
  cases h1
  refine ⟨_, upd_same, by rw [List.length_append, List.length_append, h2]; rfl, fun j w e => ?_⟩
  by_cases hj : j < ls.length
  · rw [List.getElem?_append_left hj] at e
    obtain ⟨b, x, y, z⟩ := h3 j w e
    exact ⟨b, by rw [List.getElem?_append_left (by omega)]; exact x, y, by rw [upd_ne y]; exact z⟩
  · have hj2 : j = ls.length := by
      rcases Nat.lt_or_ge j (ls.length + 1) with q | q
      · omega
      · rw [List.getElem?_eq_none (by rw [List.length_append]; exact q)] at e
        cases e
    subst hj2
    rw [List.getElem?_append_right (Nat.le_refl _), Nat.sub_self] at e
    cases e
    refine ⟨a, ?_, ne, by rw [upd_ne ne]; exact ha⟩
    rw [← h2, List.getElem?_append_right (Nat.le_refl _), Nat.sub_self]
    rfl
def linesB (ns : List Str) (L : List Bg) : List (List Str) := ((["ware"] : List Str) ++ ns) :: L.map fun b => boughW ns b.u b.lo.toNat b.hi.toNat b.ks
def linesOf (ns : List Str) (L : List Bg) (C : List Tie) : List (List Str) := linesB ns L ++ C.map (tieW ns)
def textOf (ns : List Str) (L : List Bg) (C : List Tie) : Str := Str.join "\n" ((linesOf ns L C).map (Str.join " "))
def spShown : Sp := fun vs H Q _ => ∃ (l wd tb tc : Addr) (ns : List Str) (L : List Bg) (C : List Tie), vs = [.ref l, .ref wd] ∧ H l = some (.lst (strsL ns)) ∧ WoodP H wd tb tc ns.length L C ∧ (∀ b ∈ L, b.hi ≤ 1000) ∧ (∀ z ∈ ns, z.length ≤ 8) ∧ (∀ t ∈ C, Tie.Small ns.length t) ∧ ∀ H', Same H H' → Q (.str (textOf ns L C)) H'
/-- how long lines are -/
def ShortL (ws : List Str) : Prop := ws.length ≤ 30 ∧ ∀ z ∈ ws, z.length ≤ 61
theorem short_join {ws : List Str} (h : ShortL ws) : (ws.map (·.length)).sum + ws.length * ((" " : Str)).length ≤ 1000000 ∧ (Str.join " " ws).length ≤ 2000 := by
  have h1 := sum_len h.2
  have h2 := h.1
  have h3 : ws.length * 61 ≤ 30 * 61 := Nat.mul_le_mul_right _ h2
  have e : ((" " : Str)).length = 1 := rfl
  have h4 := StrLaws.join_length_le (" " : Str) ws
  rw [e] at h4 ⊢
  omega
theorem short_ware {ns : List Str} (n9 : ns.length ≤ 9) (n8 : ∀ z ∈ ns, z.length ≤ 8) : ShortL ((["ware"] : List Str) ++ ns) := by
  refine ⟨by rw [List.length_append]; show 1 + _ ≤ 30; omega, fun z hz => ?_⟩
  rcases List.mem_append.mp hz with y | y
  · rw [List.mem_singleton.mp y]
    decide
  · have := n8 z y
    omega
theorem num_len {n : Nat} (h : n ≤ 1000) : (numT (n : Int)).length ≤ 61 := (num_ok (abs_small h)).2.2.2.2
theorem short_bound {lo hi m : Nat} (l1 : lo ≤ 1000) (l2 : hi ≤ 1000) : (boundW lo hi m).length ≤ 4 ∧ ∀ z ∈ boundW lo hi m, z.length ≤ 61 := by
  unfold boundW
  split
  · exact ⟨by decide, fun z hz => by rw [List.mem_singleton.mp hz]; decide⟩
  split
  · exact ⟨by decide, fun z hz => by rw [List.mem_singleton.mp hz]; decide⟩
  split
  · exact ⟨by decide, fun z hz => by rw [List.mem_singleton.mp hz]; decide⟩
  refine ⟨by show 4 ≤ 4; decide, fun x hx => ?_⟩
  simp only [List.mem_cons, List.not_mem_nil, or_false] at hx
  rcases hx with rfl | rfl | rfl | rfl
  · decide
  · exact num_len l1
  · decide
  · exact num_len l2
theorem short_bough {ns : List Str} {u lo hi : Nat} {ks : List Nat} (n8 : ∀ z ∈ ns, z.length ≤ 8) (l1 : lo ≤ 1000) (l2 : hi ≤ 1000) (k9 : ks.length ≤ 9) : ShortL (boughW ns u lo hi ks) := by
  obtain ⟨h1, h2⟩ := short_bound (m := ks.length) l1 l2
  refine ⟨?_, fun z hz => ?_⟩
  · unfold boughW
    rw [List.length_cons, List.length_append, List.length_map]
    omega
  · rcases List.mem_cons.mp hz with y | y
    · rw [y]
      exact Nat.le_trans (nameAt_len n8 u) (by decide)
    rcases List.mem_append.mp y with y | y
    · exact h2 z y
    · obtain ⟨k, _, rfl⟩ := List.mem_map.mp y
      exact Nat.le_trans (nameAt_len n8 k) (by decide)
theorem short_tie {ns : List Str} {m : Nat} {t : Tie} (n8 : ∀ z ∈ ns, z.length ≤ 8) (h : Tie.Small m t) : ShortL (tieW ns t) := by
  have na : ∀ k, (nameAt ns k).length ≤ 61 := fun k => Nat.le_trans (nameAt_len n8 k) (by decide)
  cases t with
  | bough u lo hi ks => exact ⟨Nat.zero_le _, fun z hz => by cases hz⟩
  | needs a b =>
    refine ⟨by show 3 ≤ 30; decide, fun x hx => ?_⟩
    simp only [tieW, List.mem_cons, List.not_mem_nil, or_false] at hx
    rcases hx with rfl | rfl | rfl
    · exact na a
    · decide
    · exact na b
  | bans a b =>
    refine ⟨by show 3 ≤ 30; decide, fun x hx => ?_⟩
    simp only [tieW, List.mem_cons, List.not_mem_nil, or_false] at hx
    rcases hx with rfl | rfl | rfl
    · exact na a
    · decide
    · exact na b
  | most top ps =>
    obtain ⟨t60, l9, each⟩ := h
    have f2 := flat2_len (f := fun p : Nat × Int => numT p.2) (g := fun p => nameAt ns p.1) (n := 9) ps l9
    refine ⟨by show ((["most", numT top, "of"] : List Str) ++ _).length ≤ 30; rw [List.length_append]; show 3 + _ ≤ 30; omega, fun x hx => ?_⟩
    rcases List.mem_append.mp hx with y | y
    · simp only [List.mem_cons, List.not_mem_nil, or_false] at y
      rcases y with rfl | rfl | rfl
      · decide
      · exact (num_ok t60).2.2.2.2
      · decide
    · obtain ⟨p, hp, y⟩ := List.mem_flatMap.mp y
      simp only [List.mem_cons, List.not_mem_nil, or_false] at y
      rcases y with rfl | rfl
      · exact (num_ok (each p hp).2).2.2.2.2
      · exact na p.1
theorem nats_of {H : Hp} : ∀ {l : List Nat} {xs : List V}, DnL H (l.map fun k : Nat => PyData.int (k : Int)) xs → xs = natsL l
  | [], _, q => q
  | k :: l, _, ⟨x, r, e, q, z⟩ => by
    rw [e, nats_of z, show x = V.int (k : Int) from q]
    rfl
end Ow

set_option maxRecDepth 100000
set_option maxHeartbeats 4000000
/-! ### Numbers written out, figure by figure -/
namespace L2
open PySem PySem.Spec PyProof.Rows
theorem call_absT {X : Cx} : CallR X (.builtin "abs") (fun xs H Q => ∃ n : Int, xs = [.int n] ∧ Q (.int (if n < 0 then -n else n)) H) := by
  intro pins s σ H xs us Q I r h
  obtain ⟨n, rfl, q⟩ := h
  obtain ⟨u, rfl, t, rfl⟩ := vals1 r
  exact call_abs_int fun u tk => ⟨.int _, H, I.tok _, ⟨_, rfl⟩, q⟩
end L2
namespace Ow
open PySem L2 Wd
def dgs (m : Nat) : List Nat := (Nat.toDigits 10 m).map Char.toNat
theorem dgs_lt {m : Nat} (h : m < 10) : dgs m = [48 + m] := by
  unfold dgs
  rw [Nat.toDigits_of_lt_base h]
  have z : ∀ d : Fin 10, [Nat.digitChar d.val].map Char.toNat = [48 + d.val] := by decide
  exact z ⟨m, h⟩
theorem dgs_ge {m : Nat} (h : 10 ≤ m) : dgs m = dgs (m / 10) ++ [48 + m % 10] := by
  unfold dgs
  rw [digs_step h, List.map_append]
  have z : ∀ d : Fin 10, [Nat.digitChar d.val].map Char.toNat = [48 + d.val] := by decide
  rw [z ⟨m % 10, Nat.mod_lt m (by decide)⟩]
/-- where the writing stands: r is left, cs is written -/
def Wr (m r : Nat) (cs : List Nat) : Prop := (cs = [] ∧ r = m) ∨ (cs ≠ [] ∧ ((r = 0 ∧ cs = dgs m) ∨ (0 < r ∧ dgs r ++ cs = dgs m)))
theorem Wr.step {m r : Nat} {cs : List Nat} (h : Wr m r cs) (c : 0 < r ∨ cs = []) : Wr m (r / 10) ((48 + r % 10) :: cs) := by
  refine .inr ⟨by simp, ?_⟩
  by_cases r10 : r < 10
  · refine .inl ⟨by omega, ?_⟩
    rcases h with ⟨rfl, rfl⟩ | ⟨n, ⟨z, e⟩ | ⟨z, e⟩⟩
    · rw [dgs_lt r10, Nat.mod_eq_of_lt r10]
    · rcases c with c | c
      · omega
      · exact absurd c n
    · rw [dgs_lt r10] at e
      rw [← e, Nat.mod_eq_of_lt r10]
      rfl
  · refine .inr ⟨by omega, ?_⟩
    rcases h with ⟨rfl, rfl⟩ | ⟨n, ⟨z, e⟩ | ⟨z, e⟩⟩
    · exact (dgs_ge (by omega)).symm
    · omega
    · rw [← e, dgs_ge (m := r) (by omega), List.append_assoc]
      rfl
theorem Wr.len {m r : Nat} {cs : List Nat} (h : Wr m r cs) (hm : m < 10 ^ 60) : cs.length ≤ 60 := by
  have h60 : (dgs m).length ≤ 60 := by
    unfold dgs
    rw [List.length_map]
    exact (digs_len 59 m hm).1
  rcases h with ⟨rfl, rfl⟩ | ⟨n, ⟨z, e⟩ | ⟨z, e⟩⟩
  · exact Nat.zero_le _
  · rw [e]
    exact h60
  · rw [← e, List.length_append] at h60
    omega
theorem Wr.fin {m r : Nat} {cs : List Nat} (h : Wr m r cs) (c : ¬ (0 < r ∨ cs = [])) : cs = dgs m := by
  rcases h with ⟨rfl, rfl⟩ | ⟨n, ⟨z, e⟩ | ⟨z, e⟩⟩
  · exact absurd (.inr rfl) c
  · exact e
  · exact absurd (.inl z) c
theorem numT_dgs (n : Int) : numT n = ofL ((if n < 0 then [45] else []) ++ dgs n.natAbs) := by
  apply ofL_eq
  by_cases h : n < 0
  · rw [if_pos h]
    have e : n = -(((n.natAbs - 1) + 1 : Nat) : Int) := by omega
    have := numT_neg (n.natAbs - 1)
    rw [← e, show n.natAbs - 1 + 1 = n.natAbs by omega] at this
    exact this
  · rw [if_neg h]
    have e : n = ((n.natAbs : Nat) : Int) := by omega
    have := numT_nat n.natAbs
    rw [← e] at this
    exact this
def spFigures : Sp := fun vs H Q _ => ∃ n : Int, vs = [.int n] ∧ n.natAbs < 10 ^ 60 ∧ ∀ H', Same H H' → Q (.str (numT n)) H'
theorem fig_at {d : Nat} (h : d < 10) : atI (("0123456789" : Str)).cps.toList (d : Int) = some (48 + d) := by
  refine atI_nat ?_
  have z : ∀ d : Fin 10, (("0123456789" : Str)).cps.toList[d.val]? = some (48 + d.val) := by decide +kernel
  exact z ⟨d, h⟩
theorem ofL_cons (c : Nat) (cs : List Nat) : (⟨#[c]⟩ : Str) ++ ofL cs = ofL (c :: cs) := by
  apply ofL_eq
  rw [PyProof.Rows.cps_toList_append, ofL_cps]
  rfl
theorem ofL_app (a b : List Nat) : ofL a ++ ofL b = ofL (a ++ b) := by
  apply ofL_eq
  rw [PyProof.Rows.cps_toList_append, ofL_cps, ofL_cps]
theorem ofL_nil {cs : List Nat} : decide (V.str (ofL cs) = V.str "") = decide (cs = []) := by
  rw [Bool.eq_iff_iff, decide_eq_true_iff, decide_eq_true_iff]
  constructor
  · intro h
    injection h with h
    have := congrArg (fun z : Str => z.cps.toList) h
    rw [ofL_cps] at this
    exact this
  · intro h
    rw [h]
    rfl
def spLawBoughW : Sp := fun vs H Q _ => ∃ (v : V) (u lo hi : Nat) (ks : List Nat), vs = [v] ∧ Dn H (Tie.bough u lo hi ks).toD v ∧ lo ≤ hi ∧ hi ≤ ks.length ∧ ks.length ≤ 9 ∧ ∀ (p : Addr) (H' : Hp), Same H H' → H p = none → H' p = some (.lst (strsL (boundW lo hi ks.length))) → Q (.ref p) H'
def spLawLines : Sp := fun vs H Q _ => ∃ (l wd tb tc : Addr) (ns : List Str) (L : List Bg) (C : List Tie), vs = [.ref l, .ref wd] ∧ H l = some (.lst (strsL ns)) ∧ WoodP H wd tb tc ns.length L C ∧ (∀ b ∈ L, b.hi ≤ (b.ks.length : Int)) ∧ (∀ z ∈ ns, z.length ≤ 8) ∧ (∀ t ∈ C, Tie.Small ns.length t) ∧ ∀ H', Same H H' → Q (.str (textOf ns L C)) H'
theorem ware_join {ns : List Str} (h : ns ≠ []) : ("ware " : Str) ++ Str.join " " ns = Str.join " " ((["ware"] : List Str) ++ ns) := by
  cases ns with
  | nil => exact absurd rfl h
  | cons x r =>
    show _ = ("ware" : Str) ++ (" " : Str) ++ Str.join " " (x :: r)
    rw [show (("ware" : Str) ++ (" " : Str)) = ("ware " : Str) from by decide +kernel]
def joinedB (ns : List Str) (L : List Bg) : List Str := (linesB ns L).map (Str.join " ")
end Ow

set_option maxRecDepth 100000
set_option maxHeartbeats 4000000
/-! ### tuple(zip(a, b)) of two lists -/
namespace L2
open PySem PySem.Spec PyProof.Rows
section
variable {prog : Program} {w : World} {A : Around} {E : Value → Shared → Prop} {s : Shared}
/-- a zip, whatever became of the tuple that it gave first -/
def ZipAt (h : Heap) (z TI TO : Addr) (f0 : Value) (f1 : Bool) : Prop := h.get? z = some { cls := .type "zip", dict := none, data := .fields #[f0, .bool f1, .bool false, .ref TI, .ref TO], slots := #[] }
def FrNo (f0 : Value) : Prop := f0 = .none ∨ ∃ c : Nat, f0 = rawInt c
theorem owned_free {z TI TO : Addr} {f0 : Value} {f1 : Bool} {Q : Bool → Shared → Prop} (hf : FrNo f0) (hz : ZipAt s.heap z TI TO f0 f1)
    (q : ∀ b f h', ZipAt h' z TI TO f0 f → Heap.SameBut z s.heap h' → Q b { s with heap := h' }) : wpAny (model prog w) A (Builtin.SmallTypes.ownedTupleIsFree (.ref z)) Q E s := by
  obtain ⟨hp, g, d, tk, os⟩ := s
  have same : Heap.SameBut z hp hp := ⟨rfl, fun _ _ => rfl⟩
  unfold Builtin.SmallTypes.ownedTupleIsFree
  rcases hf with rfl | ⟨c, rfl⟩
  · refine wpAny_bind (wpAny_field hz rfl (x := .none) rfl (wpAny_pure ?_))
    exact q true f1 hp hz same
  · refine wpAny_bind (wpAny_field hz rfl (x := rawInt (c : Nat)) rfl ?_)
    refine wpAny_bind (alive_any ?_)
    rw [show ((c : Nat) : Int).toNat = c from Int.toNat_natCast c]
    cases hc : hp.get? c with
    | none => exact wpAny_pure (q true f1 hp hz same)
    | some oc =>
      show wpAny _ _ (if (some oc).isNone = true then _ else _) _ _ _
      rw [if_neg (show ¬ ((some oc).isNone = true) from Bool.false_ne_true)]
      refine wpAny_bind (wpAny_field hz rfl (x := .bool f1) rfl ?_)
      cases f1 with
      | true =>
        refine wpAny_bind (wpAny_pure (wpAny_pure ?_))
        exact q false true hp hz same
      | false =>
        refine wpAny_bind (wpAny_setField_rec hz (by simp) fun k5 e5 t5 => wpAny_pure ?_)
        exact q false true k5 e5 t5
theorem zip_next_any {z TI TO i1 i2 l1 l2 : Addr} {k1 k2 : Nat} {xs ys : Array Value} {x y a b f0 : Value} {f1 : Bool} {Q : Value → Shared → Prop} (D : ZipApart z TI TO i1 i2 l1 l2)
    (hf : FrNo f0) (hz0 : ZipAt s.heap z TI TO f0 f1) (hTI : IsPair s.heap TI (.ref i1) (.ref i2)) (hTO : IsPair s.heap TO a b)
    (h1 : s.heap.IsListIter i1 l1 k1) (h2 : s.heap.IsListIter i2 l2 k2) (hl1 : s.heap.IsList l1 xs) (hl2 : s.heap.IsList l2 ys) (hx : xs[k1]? = some x) (hy : ys[k2]? = some y)
    (hQ : ∀ h' f0 f1 a b, FrNo f0 → ZipAt h' z TI TO f0 f1 → IsPair h' TO a b → h'.IsListIter i1 l1 (k1 + 1) → h'.IsListIter i2 l2 (k2 + 1) → IsPair h' s.heap.objs.size x y → h'.objs.size = s.heap.objs.size + 1 →
      (∀ c o, c ≠ z → c ≠ TO → c ≠ i1 → c ≠ i2 → s.heap.get? c = some o → h'.get? c = some o) → Q (.ref s.heap.objs.size) { s with heap := h' }) :
    wpAny (model prog w) A (Builtin.«zip.__next__» ⟨[.ref z], []⟩) (fun fin s' => ∃ v, fin = .done (.ret v) ∧ Q v s') E s := by
  show wpAny _ _ (field (.ref z) 2 >>= _) _ _ _
  refine wpAny_bind (wpAny_field hz0 rfl (x := .bool false) rfl ?_)
  show wpAny _ _ (field (.ref z) 3 >>= _) _ _ _
  refine wpAny_bind (wpAny_field hz0 rfl (x := .ref TI) rfl ?_)
  refine wpAny_bind (wpAny_seqItems hTI rfl ?_)
  show wpAny _ _ (Builtin.SmallTypes.ownedTupleIsFree (.ref z) >>= _) _ _ _
  refine wpAny_bind (owned_free hf hz0 fun bo fo h0 hz hs0 => ?_)
  have sz0 : h0.objs.size = s.heap.objs.size := hs0.1
  replace hTO : IsPair h0 TO a b := hs0.extBut _ _ D.TOz hTO
  replace h1 := h1.extBut hs0.extBut D.i1z
  replace h2 := h2.extBut hs0.extBut D.i2z
  replace hl1 := hl1.extBut hs0.extBut D.l1z
  replace hl2 := hl2.extBut hs0.extBut D.l2z
  cases bo with
  | true =>
    simp only [if_true]
    refine wpAny_bind (wpAny_rule ?_)
    refine wpAny_bind (wpAny_field hz rfl (x := .ref TO) rfl ?_)
    refine wpAny_bind (wpAny_setField_rec hz (by simp) fun h₁ hz₁ hs₁ => ?_)
    replace hz₁ : ZipAt h₁ z TI TO .ellipsis fo := hz₁
    replace hs₁ : Heap.SameBut z h0 h₁ := hs₁
    refine wpAny_bind ?_
    simp only [List.zipIdx_cons, List.zipIdx_nil, List.forIn_cons, List.forIn_nil]
    refine wpAny_bind (wpAny_bind (wpAny_onRaise ?_))
    show wpAny _ _ (Builtin.SmallTypes.nextOf (.ref i1) >>= _) _ _ _
    refine wpAny_bind (wpAny_nextOf_list_item (h1.extBut hs₁.extBut D.i1z) (hl1.extBut hs₁.extBut D.l1z) hx fun h₂ h1₂ hs₂ => wpAny_pure ?_)
    replace hs₂ : Heap.SameBut i1 h₁ h₂ := hs₂
    have hTO₂ : IsPair h₂ TO a b := hs₂.extBut _ _ D.TOi1 (hs₁.extBut _ _ D.TOz hTO)
    refine wpAny_bind (wpAny_seqItems hTO₂ rfl ?_)
    refine wpAny_bind (wpAny_updateSeq_pair hTO₂ fun h₃ hTO₃ hs₃ => ?_)
    replace hTO₃ : IsPair h₃ TO x b := hTO₃
    replace hs₃ : Heap.SameBut TO h₂ h₃ := hs₃
    refine wpAny_bind (wpAny_letGo (wpAny_pure ?_))
    refine wpAny_bind (wpAny_bind (wpAny_onRaise ?_))
    show wpAny _ _ (Builtin.SmallTypes.nextOf (.ref i2) >>= _) _ _ _
    refine wpAny_bind (wpAny_nextOf_list_item (((h2.extBut hs₁.extBut D.i2z).extBut hs₂.extBut D.i12.symm).extBut hs₃.extBut D.TOi2.symm)
      (((hl2.extBut hs₁.extBut D.l2z).extBut hs₂.extBut D.l2i1).extBut hs₃.extBut D.l2TO) hy fun h₄ h2₄ hs₄ => wpAny_pure ?_)
    replace hs₄ : Heap.SameBut i2 h₃ h₄ := hs₄
    have hTO₄ : IsPair h₄ TO x b := hs₄.extBut _ _ D.TOi2 hTO₃
    refine wpAny_bind (wpAny_seqItems hTO₄ rfl ?_)
    refine wpAny_bind (wpAny_updateSeq_pair hTO₄ fun h₅ hTO₅ hs₅ => ?_)
    replace hTO₅ : IsPair h₅ TO x y := hTO₅
    replace hs₅ : Heap.SameBut TO h₄ h₅ := hs₅
    refine wpAny_bind (wpAny_letGo (wpAny_pure (wpAny_pure ?_)))
    refine wpAny_bind (wpAny_seqItems hTO₅ rfl ?_)
    refine wpAny_bind (wpAny_newTuple ?_)
    have hsz : h₅.objs.size = s.heap.objs.size := by rw [hs₅.1, hs₄.1, hs₃.1, hs₂.1, hs₁.1, sz0]
    have hz₅ : ZipAt h₅ z TI TO .ellipsis fo := hs₅.extBut _ _ D.TOz.symm (hs₄.extBut _ _ D.i2z.symm (hs₃.extBut _ _ D.TOz.symm (hs₂.extBut _ _ D.i1z.symm hz₁)))
    have hk₅ : ∀ c o, c ≠ z → c ≠ TO → c ≠ i1 → c ≠ i2 → s.heap.get? c = some o → h₅.get? c = some o := fun c o c1 c2 c3 c4 e =>
      hs₅.extBut _ _ c2 (hs₄.extBut _ _ c4 (hs₃.extBut _ _ c2 (hs₂.extBut _ _ c3 (hs₁.extBut _ _ c1 (hs0.extBut _ _ c1 e)))))
    have h1₅ : h₅.IsListIter i1 l1 (k1 + 1) := ((h1₂.extBut hs₃.extBut D.TOi1.symm).extBut hs₄.extBut D.i12).extBut hs₅.extBut D.TOi1.symm
    have h2₅ : h₅.IsListIter i2 l2 (k2 + 1) := h2₄.extBut hs₅.extBut D.TOi2.symm
    have hzlt : z < h₅.objs.size := Heap.lt_size hz₅
    show wpAny _ _ (Builtin.SmallTypes.ownedTupleHandOut (.ref z) (.ref h₅.objs.size) >>= _) _ _ _
    refine wpAny_bind ?_
    unfold Builtin.SmallTypes.ownedTupleHandOut
    have hz₆ : ZipAt (h₅.push { cls := .type "tuple", data := .seq #[x, y] }) z TI TO .ellipsis fo := Heap.get?_push_of_some _ hz₅
    refine wpAny_bind (wpAny_setField_rec hz₆ (by simp) fun h₇ hz₇ hs₇ => ?_)
    replace hz₇ : ZipAt h₇ z TI TO (rawInt h₅.objs.size) fo := hz₇
    refine wpAny_setField_rec hz₇ (by simp) fun h₈ hz₈ hs₈ => ?_
    replace hz₈ : ZipAt h₈ z TI TO (rawInt h₅.objs.size) false := hz₈
    have up : ∀ c o, c ≠ z → h₅.get? c = some o → h₈.get? c = some o := fun c o c1 e => hs₈.extBut _ _ c1 (hs₇.extBut _ _ c1 (Heap.get?_push_of_some _ e))
    have hT₈ : IsPair h₈ h₅.objs.size x y := hs₈.extBut _ _ (Nat.ne_of_gt hzlt) (hs₇.extBut _ _ (Nat.ne_of_gt hzlt) (Heap.get?_push_size _ rfl))
    have hz8 : h₈.objs.size = h₅.objs.size + 1 := by rw [hs₈.1, hs₇.1, Heap.size_push]
    rw [hsz] at hz₈ hT₈ hz8
    refine wpAny_pure ⟨_, rfl, ?_⟩
    show Q (.ref h₅.objs.size) _
    rw [hsz]
    exact hQ h₈ _ _ _ _ (.inr ⟨_, rfl⟩) hz₈ (up _ _ D.TOz hTO₅) (h1₅.at fun o e => up _ o D.i1z e) (h2₅.at fun o e => up _ o D.i2z e) hT₈ hz8 fun c o c1 c2 c3 c4 e => up c o c1 (hk₅ c o c1 c2 c3 c4 e)
  | false =>
    rw [if_neg Bool.false_ne_true]
    refine wpAny_bind ?_
    rw [← Array.forIn_toList]
    simp only [List.forIn_cons, List.forIn_nil]
    refine wpAny_bind (wpAny_bind (wpAny_holding ?_))
    show wpAny _ _ (Builtin.SmallTypes.nextOf (.ref i1) >>= _) _ _ _
    refine wpAny_bind (wpAny_nextOf_list_item h1 hl1 hx fun h₂ h1₂ hs₂ => wpAny_pure ?_)
    replace hs₂ : Heap.SameBut i1 h0 h₂ := hs₂
    refine wpAny_pure ?_
    refine wpAny_bind (wpAny_bind (wpAny_holding ?_))
    show wpAny _ _ (Builtin.SmallTypes.nextOf (.ref i2) >>= _) _ _ _
    refine wpAny_bind (wpAny_nextOf_list_item (h2.extBut hs₂.extBut D.i12.symm) (hl2.extBut hs₂.extBut D.l2i1) hy fun h₄ h2₄ hs₄ => wpAny_pure ?_)
    replace hs₄ : Heap.SameBut i2 h₂ h₄ := hs₄
    refine wpAny_pure (wpAny_pure ?_)
    show wpAny _ _ (newTuple [x, y] >>= _) _ _ _
    refine wpAny_bind (wpAny_newTuple ?_)
    have hsz : h₄.objs.size = s.heap.objs.size := by rw [hs₄.1, hs₂.1, sz0]
    refine wpAny_pure ⟨_, rfl, ?_⟩
    show Q (.ref h₄.objs.size) { s with heap := h₄.push { cls := .type "tuple", data := .seq #[x, y] } }
    have hT : IsPair (h₄.push { cls := .type "tuple", data := .seq #[x, y] }) h₄.objs.size x y := Heap.get?_push_size _ rfl
    have up : ∀ c o, h₄.get? c = some o → (h₄.push { cls := .type "tuple", data := .seq #[x, y] }).get? c = some o := fun c o e => Heap.get?_push_of_some _ e
    have z4 : (h₄.push { cls := .type "tuple", data := .seq #[x, y] }).objs.size = h₄.objs.size + 1 := Heap.size_push ..
    rw [hsz] at hT z4 ⊢
    refine hQ _ _ _ _ _ hf (up _ _ (hs₄.extBut _ _ D.i2z.symm (hs₂.extBut _ _ D.i1z.symm hz))) (up _ _ (hs₄.extBut _ _ D.TOi2 (hs₂.extBut _ _ D.TOi1 hTO))) ((h1₂.extBut hs₄.extBut D.i12).at fun o e => up _ o e) (h2₄.at fun o e => up _ o e) hT z4 fun c o c1 c2 c3 c4 e => up c o (hs₄.extBut _ _ c4 (hs₂.extBut _ _ c3 (hs0.extBut _ _ c1 e)))
theorem zip_end_any {z TI TO i1 i2 l1 l2 : Addr} {k1 k2 : Nat} {xs ys : Array Value} {a b f0 : Value} {f1 : Bool} {Q : Fin → Shared → Prop} (hh : A.handled = none) (D : ZipApart z TI TO i1 i2 l1 l2)
    (hf : FrNo f0) (hz0 : ZipAt s.heap z TI TO f0 f1) (hTI : IsPair s.heap TI (.ref i1) (.ref i2))
    (h1 : s.heap.IsListIter i1 l1 k1) (hl1 : s.heap.IsList l1 xs) (hend : xs[k1]? = none)
    (hE : ∀ h' e, (∀ c o, c ≠ z → c ≠ TO → c ≠ i1 → c ≠ i2 → s.heap.get? c = some o → h'.get? c = some o) → (∃ o, h'.get? e = some o ∧ o.cls = .type "StopIteration") → E (.ref e) { s with heap := h' }) :
    wpAny (model prog w) A (Builtin.«zip.__next__» ⟨[.ref z], []⟩) Q E s := by
  show wpAny _ _ (field (.ref z) 2 >>= _) _ _ _
  refine wpAny_bind (wpAny_field hz0 rfl (x := .bool false) rfl ?_)
  show wpAny _ _ (field (.ref z) 3 >>= _) _ _ _
  refine wpAny_bind (wpAny_field hz0 rfl (x := .ref TI) rfl ?_)
  refine wpAny_bind (wpAny_seqItems hTI rfl ?_)
  show wpAny _ _ (Builtin.SmallTypes.ownedTupleIsFree (.ref z) >>= _) _ _ _
  refine wpAny_bind (owned_free hf hz0 fun bo fo h0 hz hs0 => ?_)
  replace h1 := h1.extBut hs0.extBut D.i1z
  replace hl1 := hl1.extBut hs0.extBut D.l1z
  cases bo with
  | true =>
    simp only [if_true]
    refine wpAny_bind (wpAny_rule ?_)
    refine wpAny_bind (wpAny_field hz rfl (x := .ref TO) rfl ?_)
    refine wpAny_bind (wpAny_setField_rec hz (by simp) fun h₁ hz₁ hs₁ => ?_)
    replace hz₁ : ZipAt h₁ z TI TO .ellipsis fo := hz₁
    replace hs₁ : Heap.SameBut z h0 h₁ := hs₁
    refine wpAny_bind ?_
    simp only [List.zipIdx_cons, List.zipIdx_nil, List.forIn_cons, List.forIn_nil]
    refine wpAny_bind (wpAny_bind (wpAny_onRaise ?_))
    show wpAny _ _ (Builtin.SmallTypes.nextOf (.ref i1) >>= _) _ _ _
    refine wpAny_bind (wpAny_nextOf_list_end hh (h1.extBut hs₁.extBut D.i1z) (hl1.extBut hs₁.extBut D.l1z) hend fun h₂ e hs₂ he => ?_)
    obtain ⟨oe, hoe, hce⟩ := he
    have hz₂ : ZipAt h₂ z TI TO .ellipsis fo := hs₂ _ _ D.i1z.symm hz₁
    have hez : e ≠ z := fun x => by subst x; rw [hz₂] at hoe; cases hoe; simp at hce
    refine wpAny_setField_rec hz₂ (by simp) fun h₃ _ hs₃ => hE h₃ e (fun c o c1 _ c3 _ x => hs₃.extBut _ _ c1 (hs₂ _ _ c3 (hs₁.extBut _ _ c1 (hs0.extBut _ _ c1 x)))) ⟨oe, hs₃.extBut _ _ hez hoe, hce⟩
  | false =>
    rw [if_neg Bool.false_ne_true]
    refine wpAny_bind ?_
    rw [← Array.forIn_toList]
    simp only [List.forIn_cons, List.forIn_nil]
    refine wpAny_bind (wpAny_bind (wpAny_holding ?_))
    show wpAny _ _ (Builtin.SmallTypes.nextOf (.ref i1) >>= _) _ _ _
    refine wpAny_bind (wpAny_nextOf_list_end hh h1 hl1 hend fun h₂ e hs₂ he => ?_)
    exact hE h₂ e (fun c o c1 _ c3 _ x => hs₂ _ _ c3 (hs0.extBut _ _ c1 x)) he
theorem pyNext_zip {z TI TO i1 i2 l1 l2 : Addr} {k1 k2 : Nat} {xs ys : Array Value} {x y a b f0 : Value} {f1 : Bool} {Q : Option Value → Shared → Prop} (D : ZipApart z TI TO i1 i2 l1 l2)
    (hf : FrNo f0) (hz0 : ZipAt s.heap z TI TO f0 f1) (hTI : IsPair s.heap TI (.ref i1) (.ref i2)) (hTO : IsPair s.heap TO a b)
    (h1 : s.heap.IsListIter i1 l1 k1) (h2 : s.heap.IsListIter i2 l2 k2) (hl1 : s.heap.IsList l1 xs) (hl2 : s.heap.IsList l2 ys) (hx : xs[k1]? = some x) (hy : ys[k2]? = some y)
    (hQ : ∀ h' f0 f1 a b, FrNo f0 → ZipAt h' z TI TO f0 f1 → IsPair h' TO a b → h'.IsListIter i1 l1 (k1 + 1) → h'.IsListIter i2 l2 (k2 + 1) → IsPair h' s.heap.objs.size x y → h'.objs.size = s.heap.objs.size + 1 →
      (∀ c o, c ≠ z → c ≠ TO → c ≠ i1 → c ≠ i2 → s.heap.get? c = some o → h'.get? c = some o) → Q (some (.ref s.heap.objs.size)) { s with heap := h' }) :
    wpAny (model prog w) A (pyNext (.ref z)) Q E s := by
  have hT : s.TypeIs (.ref z) "zip" := ⟨_, hz0, rfl⟩
  unfold pyNext
  exact wpAny_bind (wpAny_attempt (wpAny_callSpecial?_slot (name := Str.ofString "__next__") hT F.slot_zip_next
    (wpAny_call_entry F.slot_zip_next hT F.entry_zip_next
      (zip_next_any D hf hz0 hTI hTO h1 h2 hl1 hl2 hx hy fun h' f0 f1 a b a0 a1 a2 a3 a4 a5 a6 a7 => wpAny_pure (hQ h' f0 f1 a b a0 a1 a2 a3 a4 a5 a6 a7)) (F.args_zip_next_1 _))))
theorem pyNext_zip_none {z TI TO i1 i2 l1 l2 : Addr} {k1 : Nat} {xs : Array Value} {f0 : Value} {f1 : Bool} {Q : Option Value → Shared → Prop} (hh : A.handled = none) (D : ZipApart z TI TO i1 i2 l1 l2)
    (hf : FrNo f0) (hz0 : ZipAt s.heap z TI TO f0 f1) (hTI : IsPair s.heap TI (.ref i1) (.ref i2))
    (h1 : s.heap.IsListIter i1 l1 k1) (hl1 : s.heap.IsList l1 xs) (hend : xs[k1]? = none)
    (hQ : ∀ h', (∀ c o, c ≠ z → c ≠ TO → c ≠ i1 → c ≠ i2 → s.heap.get? c = some o → h'.get? c = some o) → Q none { s with heap := h' }) : wpAny (model prog w) A (pyNext (.ref z)) Q E s := by
  have hT : s.TypeIs (.ref z) "zip" := ⟨_, hz0, rfl⟩
  unfold pyNext
  refine wpAny_bind (wpAny_attempt (wpAny_callSpecial?_slot (name := Str.ofString "__next__") hT F.slot_zip_next
    (wpAny_call_entry F.slot_zip_next hT F.entry_zip_next (zip_end_any (ys := #[]) (a := .none) (b := .none) (k2 := 0) hh D hf hz0 hTI h1 hl1 hend fun h' e hk he => ?_) (F.args_zip_next_1 _))))
  obtain ⟨o, ho, hc⟩ := he
  refine wpAny_bind (wpAny_isInstance (T := "StopIteration") (b := true) ⟨o, ho, hc⟩ isSubtype_stop ?_)
  exact wpAny_pure (hQ _ hk)
end
/-- pairs of the items of two lists, at places in a row -/
def ZpOut (lo : Nat) (h : Heap) (xs ys acc : Array Value) (i : Nat) : Prop := acc.size = i ∧ ∀ j, j < i → acc[j]? = some (.ref (lo + j)) ∧ ∃ x y : Value, xs[j]? = some x ∧ ys[j]? = some y ∧ IsPair h (lo + j) x y
section
variable {prog : Program} {w : World} {A : Around} {s : Shared} {R : Result → Shared → Prop}
theorem zip_loop {lo : Nat} {S z TI TO i1 i2 l1 l2 : Addr} {xs ys : Array Value} (hh : A.in1.handled = none) (fit : xs.size ≤ sizeLine) (hlen : xs.size = ys.size) (D : ZipApart z TI TO i1 i2 l1 l2) (lz : z < lo) (lTO : TO < lo) (li1 : i1 < lo) (li2 : i2 < lo) (lS : S < lo) (nS : S ≠ z ∧ S ≠ TI ∧ S ≠ TO ∧ S ≠ i1 ∧ S ≠ i2 ∧ S ≠ l1 ∧ S ≠ l2) (res : Value) :
    ∀ (k i : Nat) (s : Shared) (acc : Array Value) (c : Nat) (f0 : Value) (f1 : Bool) (a b : Value), xs.size - i = k → i ≤ xs.size → FrNo f0 → ZipAt s.heap z TI TO f0 f1 → IsPair s.heap TI (.ref i1) (.ref i2) → IsPair s.heap TO a b → s.heap.IsListIter i1 l1 i → s.heap.IsListIter i2 l2 i → s.heap.IsList l1 xs → s.heap.IsList l2 ys →
      s.heap.get? S = some { cls := .type "list", dict := none, data := .seq acc c, slots := #[] } → s.heap.objs.size = lo + i → ZpOut lo s.heap xs ys acc i →
      (∀ h' acc' c', h'.get? S = some { cls := .type "list", dict := none, data := .seq acc' c', slots := #[] } → ZpOut lo h' xs ys acc' xs.size → (∀ b o, b ≠ S → b ≠ z → b ≠ TO → b ≠ i1 → b ≠ i2 → s.heap.get? b = some o → h'.get? b = some o) → R (.ok (.ret res)) { s with heap := h' }) →
      codeAny (model prog w) A (.builtin "list.extend.loop" ⟨[.ref S, .ref z, res], []⟩) R s := by
  obtain ⟨nz, nTI, nTO, n1, n2, nl1, nl2⟩ := nS
  have ge : ∀ j {c : Nat}, c < lo → lo + j ≠ c := fun j c h => Nat.ne_of_gt (Nat.lt_of_lt_of_le h (Nat.le_add_right _ _))
  intro k
  induction k with
  | zero =>
    intro i s acc c f0 f1 a b hk hi hf hz hTI hTO h1 h2 hl1 hl2 hS hsz out q
    obtain rfl : i = xs.size := by omega
    refine codeAny_builtin F.entry_extend_loop ?_
    rw [Around.under_plainId F.plain_extend_loop _]
    show wpAny _ A.in1 (pyNext (.ref z) >>= _) _ _ s
    refine wpAny_bind (pyNext_zip_none hh D hf hz hTI h1 hl1 (Array.getElem?_eq_none (Nat.le_refl _)) fun h' kk => wpAny_pure ?_)
    refine q h' acc c (kk S _ nz nTO n1 n2 hS) ⟨out.1, fun j hj => ?_⟩ fun b o _ m1 m2 m3 m4 hb => kk b o m1 m2 m3 m4 hb
    obtain ⟨e, x, y, e1, e2, e3⟩ := out.2 j hj
    exact ⟨e, x, y, e1, e2, kk _ _ (ge j lz) (ge j lTO) (ge j li1) (ge j li2) e3⟩
  | succ k ih =>
    intro i s acc c f0 f1 a b hk hi hf hz hTI hTO h1 h2 hl1 hl2 hS hsz out q
    have hlt : i < xs.size := by omega
    have hlt2 : i < ys.size := by omega
    have hx : xs[i]? = some xs[i] := Array.getElem?_eq_getElem hlt
    have hy : ys[i]? = some ys[i] := Array.getElem?_eq_getElem hlt2
    refine codeAny_builtin F.entry_extend_loop ?_
    rw [Around.under_plainId F.plain_extend_loop _]
    show wpAny _ A.in1 (pyNext (.ref z) >>= _) _ _ s
    refine wpAny_bind (pyNext_zip D hf hz hTI hTO h1 h2 hl1 hl2 hx hy fun h' g0 g1 a' b' hf' hz' hTO' h1' h2' hT hs' kk => ?_)
    have hS' := kk S _ nz nTO n1 n2 hS
    show wpAny _ A.in1 (updateSeq S (·.push (.ref s.heap.objs.size)) >>= _) _ _ _
    refine wpAny_bind ?_
    have oth : ∀ b o, b ≠ S → h'.get? b = some o → (h'.update S (Obj.mapSeq (·.push (.ref s.heap.objs.size)))).get? b = some o := fun b o n hb => (Heap.get?_update_other _ _ (Ne.symm n)).trans hb
    refine wpAny_updateSeq hS' rfl (wpAny_pure ⟨plainId_quiet F.plain_extend_loop _, ih (i + 1) _ (acc.push (.ref s.heap.objs.size)) _ g0 g1 a' b' (by omega) hlt hf' (oth _ _ (Ne.symm nz) hz') (oth _ _ (Ne.symm nTI) (kk _ _ D.TIz D.TITO D.TIi1 D.TIi2 hTI)) (oth _ _ (Ne.symm nTO) hTO') (h1'.at fun o e => oth _ o (Ne.symm n1) e) (h2'.at fun o e => oth _ o (Ne.symm n2) e) (hl1.at fun o e => oth _ o (Ne.symm nl1) (kk _ o D.l1z D.l1TO D.l1i1 D.l1i2 e)) (hl2.at fun o e => oth _ o (Ne.symm nl2) (kk _ o D.l2z D.l2TO D.l2i1 D.l2i2 e)) (Heap.get?_update_self _ hS' rfl) (by show (h'.update S _).objs.size = _; rw [(Heap.SameBut.update ..).1, hs', hsz]; omega) ?_ fun h'' acc' c' hS'' out' k' => ?_⟩) (by rw [out.1]; omega) (by show (acc.push _).size ≤ sizeLine + 1; rw [Array.size_push, out.1]; omega)
    · refine ⟨by rw [Array.size_push, out.1], fun j hj => ?_⟩
      by_cases zj : j < i
      · obtain ⟨e, x, y, e1, e2, e3⟩ := out.2 j zj
        refine ⟨?_, x, y, e1, e2, oth _ _ (ge j lS) (kk _ _ (ge j lz) (ge j lTO) (ge j li1) (ge j li2) e3)⟩
        rw [Array.getElem?_push_lt (by rw [out.1]; exact zj)]
        rw [Array.getElem?_eq_getElem (by rw [out.1]; exact zj)] at e
        exact e
      · obtain rfl : j = i := by omega
        refine ⟨?_, xs[j], ys[j], hx, hy, oth _ _ (ge j lS) (by rw [← hsz]; exact hT)⟩
        rw [← hsz, ← out.1, Array.getElem?_push_size]
    · exact q h'' acc' c' hS'' out' fun b o m0 m1 m2 m3 m4 hb => k' b o m0 m1 m2 m3 m4 (oth b o m0 (kk b o m1 m2 m3 m4 hb))
theorem zip_nolen : typeLookup (.type "zip") "__len__" = pure none := by rw [typeLookup_type, builtinLookup_eq_fast]; kernel_rfl
theorem zip_nohint : typeLookup (.type "zip") "__length_hint__" = pure none := by rw [typeLookup_type, builtinLookup_eq_fast]; kernel_rfl
end
section
variable {prog : Program} {w : World} {A : Around} {E : Value → Shared → Prop} {s : Shared}
theorem collect_zip {Q : List Value → Shared → Prop} {z TI TO i1 i2 l1 l2 : Addr} {xs ys : Array Value} {a b : Value} (hh : A.in1.handled = none) (fit : xs.size ≤ sizeLine) (hlen : xs.size = ys.size) (D : ZipApart z TI TO i1 i2 l1 l2)
    (hz : IsZip s.heap z TI TO .none) (hTI : IsPair s.heap TI (.ref i1) (.ref i2)) (hTO : IsPair s.heap TO a b) (h1 : s.heap.IsListIter i1 l1 0) (h2 : s.heap.IsListIter i2 l2 0) (hl1 : s.heap.IsList l1 xs) (hl2 : s.heap.IsList l2 ys)
    (q : ∀ h' acc, s.heap.objs.size < h'.objs.size → ZpOut (s.heap.objs.size + 1) h' xs ys acc xs.size → (∀ b o, b ≠ z → b ≠ TO → b ≠ i1 → b ≠ i2 → s.heap.get? b = some o → h'.get? b = some o) → Q acc.toList { s with heap := h' }) :
    wpAny (model prog w) A (collect (.ref z)) Q E s := by
  have lz : z < s.heap.objs.size := Heap.lt_size hz
  have lTI : TI < s.heap.objs.size := Heap.lt_size hTI
  have lTO : TO < s.heap.objs.size := Heap.lt_size hTO
  have li1 : i1 < s.heap.objs.size := by obtain ⟨o, e, _⟩ := h1; exact Heap.lt_size e
  have li2 : i2 < s.heap.objs.size := by obtain ⟨o, e, _⟩ := h2; exact Heap.lt_size e
  have ll1 : l1 < s.heap.objs.size := by obtain ⟨o, e, _⟩ := hl1; exact Heap.lt_size e
  have ll2 : l2 < s.heap.objs.size := by obtain ⟨o, e, _⟩ := hl2; exact Heap.lt_size e
  unfold collect
  refine wpAny_bind (wpAny_runValue (codeAny_builtin F.entry_proto_collect ?_))
  rw [Around.under_plainId F.plain_proto_collect _]
  show wpAny _ A.in1 (newList [] >>= fun l => again (.builtin "list.__iadd__" ⟨[l, .ref z], []⟩)) _ _ s
  refine wpAny_bind (wpAny_newObj_type ?_)
  refine wpAny_pure ⟨plainId_quiet F.plain_list_iadd _, codeAny_builtin F.entry_list_iadd ?_⟩
  rw [Around.under_plainId F.plain_list_iadd _]
  have hS₁ : (s.heap.push { cls := .type "list", data := .seq ([] : List Value).toArray }).get? s.heap.objs.size = some { cls := .type "list", data := .seq ([] : List Value).toArray } := Heap.get?_push_size _ rfl
  have ty : Shared.TypeIs ({ s with heap := s.heap.push { cls := .type "list", data := .seq ([] : List Value).toArray } } : Shared) (.ref z) "zip" := ⟨_, Heap.get?_push_of_some _ hz, rfl⟩
  show wpAny _ A.in1 (Builtin.List.listExtendWith (.ref s.heap.objs.size) (.ref z) (.ref s.heap.objs.size)) _ _ _
  unfold Builtin.List.listExtendWith
  refine wpAny_bind (wpAny_typeOf ty ?_)
  have e1 : Builtin.List.listSameRef (.ref s.heap.objs.size) (.ref z) = false := by simp [Builtin.List.listSameRef, Nat.ne_of_gt lz]
  have e2 : (Value.type "zip" == Value.type "list") = false := by decide
  have e3 : (Value.type "zip" == Value.type "tuple") = false := by decide
  simp only [e1, e2, e3, Bool.or_false, Bool.false_eq_true, if_false]
  refine wpAny_bind (wpAny_pyIter_zip (TI := TI) (TO := TO) (f0 := .none) (Heap.get?_push_of_some _ hz) ?_)
  refine wpAny_bind (wpAny_holding ?_)
  unfold Builtin.List.listLengthHint
  refine wpAny_bind (wpAny_specialOf ty zip_nolen ?_)
  show wpAny _ A.in1 (specialOf (Value.ref z) (Str.ofString "__length_hint__") >>= _) _ _ _
  refine wpAny_bind (wpAny_specialOf ty zip_nohint (wpAny_pure ?_))
  show wpAny _ A.in1 (rule "list.extend.makes-room" >>= fun _ => Builtin.List.listTouch (.ref s.heap.objs.size) >>= fun _ =>
    again (.builtin "list.extend.loop" ⟨[.ref s.heap.objs.size, .ref z, .ref s.heap.objs.size], []⟩)) _ _ _
  refine wpAny_bind (wpAny_rule (wpAny_bind ?_))
  show wpAny _ A.in1 (updateSeq s.heap.objs.size (·.push .none) >>= fun _ => updateSeq s.heap.objs.size (·.pop)) _ _ _
  refine wpAny_bind (wpAny_updateSeq hS₁ rfl ?_)
  have hS₂ := Heap.get?_update_self (Obj.mapSeq (·.push Value.none)) hS₁ rfl
  refine wpAny_updateSeq hS₂ rfl ?_
  have hS₃ := Heap.get?_update_self (Obj.mapSeq (·.pop)) hS₂ rfl
  have oth : ∀ b o, s.heap.get? b = some o →
      (((s.heap.push { cls := .type "list", data := .seq ([] : List Value).toArray }).update s.heap.objs.size (Obj.mapSeq (·.push Value.none))).update s.heap.objs.size (Obj.mapSeq (·.pop))).get? b = some o :=
    fun b o e => (Heap.get?_update_other _ _ (Nat.ne_of_gt (Heap.lt_size e))).trans ((Heap.get?_update_other _ _ (Nat.ne_of_gt (Heap.lt_size e))).trans (Heap.get?_push_of_some _ e))
  have szz : (((s.heap.push { cls := .type "list", data := .seq ([] : List Value).toArray }).update s.heap.objs.size (Obj.mapSeq (·.push Value.none))).update s.heap.objs.size (Obj.mapSeq (·.pop))).objs.size = s.heap.objs.size + 1 + 0 := by
    rw [(Heap.SameBut.update ..).1, (Heap.SameBut.update ..).1, Heap.size_push]
  refine wpAny_pure ⟨plainId_quiet F.plain_extend_loop _, zip_loop (lo := s.heap.objs.size + 1) hh fit hlen D (Nat.lt_succ_of_lt lz) (Nat.lt_succ_of_lt lTO) (Nat.lt_succ_of_lt li1) (Nat.lt_succ_of_lt li2) (Nat.lt_succ_self _) ⟨Nat.ne_of_gt lz, Nat.ne_of_gt lTI, Nat.ne_of_gt lTO, Nat.ne_of_gt li1, Nat.ne_of_gt li2, Nat.ne_of_gt ll1, Nat.ne_of_gt ll2⟩ _ xs.size 0 _ _ _ .none false a b (by omega) (Nat.zero_le _) (.inl rfl) (oth _ _ hz) (oth _ _ hTI) (oth _ _ hTO) (h1.at fun o e => oth _ o e) (h2.at fun o e => oth _ o e) (hl1.at fun o e => oth _ o e) (hl2.at fun o e => oth _ o e) hS₃ szz ⟨rfl, fun j hj => absurd hj (Nat.not_lt_zero _)⟩ fun h' acc' c' hS' out k' => ?_⟩
  show wpAny _ A (load s.heap.objs.size >>= _) _ _ _
  refine wpAny_bind (wpAny_load hS' ?_)
  exact wpAny_pure (q h' acc' (Heap.lt_size hS') out fun b o m1 m2 m3 m4 e => k' b o (Nat.ne_of_lt (Heap.lt_size e)) m1 m2 m3 m4 (oth b o e))
/-- tuple(zip of two lists of one length) -/
theorem meets_tuple_zip {z TI TO i1 i2 l1 l2 : Addr} {xs ys : Array Value} {a b : Value} (fit : xs.size ≤ sizeLine) (hlen : xs.size = ys.size) (D : ZipApart z TI TO i1 i2 l1 l2) :
    Meets (Builtin.«tuple.__new__» ⟨[.type "tuple", .ref z], []⟩)
      (fun A R s => A.handled = none ∧ IsZip s.heap z TI TO .none ∧ IsPair s.heap TI (.ref i1) (.ref i2) ∧ IsPair s.heap TO a b ∧ s.heap.IsListIter i1 l1 0 ∧ s.heap.IsListIter i2 l2 0 ∧ s.heap.IsList l1 xs ∧ s.heap.IsList l2 ys ∧
        ∀ h' acc, s.heap.objs.size < h'.objs.size → ZpOut (s.heap.objs.size + 1) h' xs ys acc xs.size → (∀ b o, b ≠ z → b ≠ TO → b ≠ i1 → b ≠ i2 → s.heap.get? b = some o → h'.get? b = some o) → R (.ok (.ret (.ref h'.objs.size))) { s with heap := h'.push { cls := .type "tuple", data := .seq acc } }) :=
  .of_wp fun prog w A R s h => by
    obtain ⟨hp, g, d, tk, os⟩ := s
    obtain ⟨hh, hz, hTI, hTO, h1, h2, hl1, hl2, h⟩ := h
    have hsub := sub_tuple_self
    have hinit := init_tuple_lookup
    have hmh := madeHere_tuple
    have hT : Shared.TypeIs ⟨hp, g, d, tk, os⟩ (.ref z) "zip" := ⟨_, hz, rfl⟩
    have hh1 : A.in1.in1.handled = none := hh
    wp_walk using AutoSeq1.wpAny_loadPart' hz, wpAny_typeOf hT, collect_zip (A := A.in1) hh1 fit hlen D hz hTI hTO h1 h2 hl1 hl2
    intro h' acc hlt out kk
    have sz : acc.size ≤ sizeLine := by rw [out.1]; exact fit
    show wpAny _ _ (Builtin.Tuple.tupleExact acc.toList.toArray >>= fun v => ret v) _ _ _
    unfold Builtin.Tuple.tupleExact
    refine wpAny_bind (wpAny_newObj_type ?_ (by show acc.toList.toArray.size ≤ sizeLine; simpa using sz))
    refine wpAny_pure ⟨_, rfl, ?_⟩
    have e : acc.toList.toArray = acc := by simp
    rw [e]
    exact h h' acc hlt out kk
theorem call_tuple_zip {Q : Value → Shared → Prop} {z TI TO i1 i2 l1 l2 : Addr} {xs ys : Array Value} {a b : Value} (hh : A.in1.handled = none) (fit : xs.size ≤ sizeLine) (hlen : xs.size = ys.size) (D : ZipApart z TI TO i1 i2 l1 l2)
    (hz : IsZip s.heap z TI TO .none) (hTI : IsPair s.heap TI (.ref i1) (.ref i2)) (hTO : IsPair s.heap TO a b) (h1 : s.heap.IsListIter i1 l1 0) (h2 : s.heap.IsListIter i2 l2 0) (hl1 : s.heap.IsList l1 xs) (hl2 : s.heap.IsList l2 ys)
    (q : ∀ h' acc, s.heap.objs.size < h'.objs.size → ZpOut (s.heap.objs.size + 1) h' xs ys acc xs.size → (∀ b o, b ≠ z → b ≠ TO → b ≠ i1 → b ≠ i2 → s.heap.get? b = some o → h'.get? b = some o) → Q (.ref h'.objs.size) { s with heap := h'.push { cls := .type "tuple", data := .seq acc } }) :
    wpAny (model prog w) A (call (.type "tuple") [.ref z]) Q E s :=
  callType_new F.called_tuple (by decide) (F.typeCall_tuple_1 _) (F.newCall_tuple_1 _) (fun obj => F.args_object_init_2 obj _) F.entry_tuple_new
    (meets_tuple_zip fit hlen D) ⟨hh, hz, hTI, hTO, h1, h2, hl1, hl2, fun h' acc k1 k2 k3 => ⟨⟨_, Heap.get?_push_size _ rfl, rfl⟩, q h' acc k1 k2 k3⟩⟩
end
section
variable {X : Cx} {pins : List (Addr × Obj)} {σ : List (Option V)} {H : Hp} {s : Shared}
/-- pairs of the items of two lists, in new tuples -/
def PairsV (H : Hp) (xs ys zs : List V) : Prop := zs.length = xs.length ∧ ∀ (j : Nat) (x y : V), xs[j]? = some x → ys[j]? = some y → ∃ T : Addr, zs[j]? = some (.ref T) ∧ H T = some (.tup [x, y])
def tTupZip (K : PySem.W.Frag) (ta : TA) : TE := fun σ H Q => ta σ H fun vs H1 => ∃ (pa pb : Addr) (xs ys : List V), vs = [.ref pa, .ref pb] ∧ SqL K H1 pa xs ∧ SqL K H1 pb ys ∧ xs.length = ys.length ∧ ∀ (t : Addr) (zs : List V) (H' : Hp), Same H1 H' → H1 t = none → H' t = some (.tup zs) → PairsV H' xs ys zs → Q (.ref t) H'
/-- what is tracked behind tuple(zip(..)) -/
def zpH (H : Hp) (lo0 lo tS : Nat) (xs ys zs : List V) : Hp := fun b => if b < lo0 then H b else if b = tS then some (.tup zs) else if lo ≤ b ∧ b < lo + xs.length then some (.tup [xs.getD (b - lo) .non, ys.getD (b - lo) .non]) else none
theorem vals_row (lo : Nat) : ∀ (L : List Value) (k : Nat), (∀ j, j < L.length → L[j]? = some (Value.ref (lo + (k + j)))) → Vals ((List.range' k L.length).map fun j => V.ref (lo + j)) L
  | [], _, _ => .nil
  | v :: r, k, h => by
    have h0 := h 0 (by simp)
    injection h0 with h0
    rw [h0, List.length_cons, List.range'_succ]
    refine .cons rfl (vals_row lo r (k + 1) fun j hj => ?_)
    have := h (j + 1) (by rw [List.length_cons]; omega)
    rw [List.getElem?_cons_succ] at this
    rw [this, show k + (j + 1) = k + 1 + j by omega]
theorem pe_tupZip {K : PySem.W.Frag} {p p2 pos pos2 : Pos} {a b : Expr} {ta : TA} (hc : X.calm = true) (hgl : Gl X "tuple") (hml : X.mg "tuple" = none) (hg : Gl X "zip") (hm : X.mg "zip" = none) (ha : PA X [a, b] ta) (hK : X.K = K := by rfl)
    (hs : starEach [a, b] X.env = (false, eval a X.env) :: starEach [b] X.env := by rfl) (hpl : (backTo pos2 (starEach [b] X.env)).any (·.1) = false := by rfl) (hs2 : starEach [.Call (.Name "zip" p2) [a, b] [] pos2] X.env = [(false, eval (.Call (.Name "zip" p2) [a, b] [] pos2) X.env)] := by rfl) :
    PE X (.Call (.Name "tuple" p) [.Call (.Name "zip" p2) [a, b] [] pos2] [] pos) (tTupZip K ta) := by
  subst hK
  intro pins s σ H Q I h
  refine wpAny_Call_Name_kw (ld_blt I hgl hml PyProof.Rows.boot_tuple ?_ (by decide) (by decide))
  refine PyProof.Rows.callWith_type1 ?_ hs2 rfl
  rw [hs2]
  show wpAny _ _ (spliced ((false, eval _ X.env) :: [])) _ _ s
  refine Calls.spliced_cons (wpAny_Call_Name_kw (ld_blt I hg hm PyProof.Rows.boot_zip (PyProof.Rows.callWith_type1 (thn (ha pos2 pins s σ H _ I h) fun us s1 ⟨vs, H1, I1, r1, q1⟩ => ?_) hs hpl) (by decide) (by decide)))
  obtain ⟨ca, cb, xs, ys, rfl, hx, hy, hlen, q⟩ := q1
  cases r1 with
  | cons ra rb =>
  cases rb with
  | cons rb r0 =>
  cases r0
  cases ra
  cases rb
  obtain ⟨ix, rx, px, fx⟩ := I1.list hx
  obtain ⟨iy, ry, py, _⟩ := I1.list hy
  have la : ca < s1.heap.objs.size := by obtain ⟨o, e, _⟩ := px.isList; exact Heap.lt_size e
  have lb : cb < s1.heap.objs.size := by obtain ⟨o, e, _⟩ := py.isList; exact Heap.lt_size e
  have nx := rx.length
  have ny := ry.length
  refine call_zip_2 px.isList py.isList fun g z1 t1 t2 k1 k2 gz kk => Calls.spliced_nil ?_
  have D := zip_apart s1.heap.objs.size ca cb la lb
  refine call_tuple_zip (xs := ix.toArray) (ys := iy.toArray) (show X.A.in1.handled = none from I.ok.hd hc) (by rw [List.size_toArray]; omega) (by rw [List.size_toArray, List.size_toArray]; omega) D z1 t1 t2 k1 k2 (px.isList.at fun o e => kk _ o e) (py.isList.at fun o e => kk _ o e) fun h' acc hlt out keep => ?_
  have gz' : s1.heap.objs.size < g.objs.size := by
    show _ < (_ : Nat)
    rw [gz]
    exact Nat.lt_add_of_pos_right (by decide)
  have hlt' : g.objs.size < h'.objs.size := hlt
  rw [List.size_toArray] at out
  change ZpOut (g.objs.size + 1) h' ix.toArray iy.toArray acc ix.length at out
  obtain ⟨lo, elo⟩ : ∃ lo : Nat, lo = g.objs.size + 1 := ⟨_, rfl⟩
  rw [← elo] at out
  have lo1 : s1.heap.objs.size ≤ lo := by
    rw [elo]
    exact Nat.le_of_lt (Nat.lt_succ_of_lt gz')
  have lo2 : s1.heap.objs.size ≤ h'.objs.size := Nat.le_of_lt (Nat.lt_trans gz' hlt')
  obtain ⟨zs, ezs⟩ : ∃ zs : List V, zs = (List.range' 0 ix.length).map fun j => V.ref (lo + j) := ⟨_, rfl⟩
  have lacc : acc.toList.length = ix.length := by rw [Array.length_toList]; exact out.1
  have vz : Vals zs acc.toList := by
    have := vals_row lo acc.toList 0 fun j hj => by
      rw [Array.getElem?_toList, (out.2 j (by omega)).1, Nat.zero_add]
    rw [lacc] at this
    rw [ezs]
    exact this
  have lzs : zs.length = xs.length := by rw [ezs, List.length_map, List.length_range']; exact nx.symm
  have zat : ∀ j, j < xs.length → zs[j]? = some (.ref (lo + j)) := fun j hj => by
    rw [ezs, List.getElem?_map, List.getElem?_range' (by omega)]
    simp
  have lts : ∀ j, j < ix.length → lo + j < h'.objs.size := fun j hj => by
    obtain ⟨_, x, y, _, _, e⟩ := out.2 j hj
    exact Heap.lt_size e
  obtain ⟨H2, eH2⟩ : ∃ H2, H2 = zpH H1 s1.heap.objs.size lo h'.objs.size xs ys zs := ⟨_, rfl⟩
  have old : ∀ b, b < s1.heap.objs.size → H2 b = H1 b := fun b hb => by
    rw [eH2]
    unfold zpH
    rw [if_pos hb]
  have HS : H2 h'.objs.size = some (.tup zs) := by
    rw [eH2]
    unfold zpH
    rw [if_neg (Nat.not_lt_of_le lo2), if_pos rfl]
  have HT : ∀ j x y, xs[j]? = some x → ys[j]? = some y → H2 (lo + j) = some (.tup [x, y]) := fun j x y e1 e2 => by
    have hj := (List.getElem?_eq_some_iff.mp e1).1
    have := lts j (by omega)
    rw [eH2]
    unfold zpH
    rw [if_neg (Nat.not_lt_of_le (Nat.le_trans lo1 (Nat.le_add_right _ _))), if_neg (Nat.ne_of_lt this), if_pos ⟨Nat.le_add_right _ _, Nat.add_lt_add_left hj _⟩, show lo + j - lo = j from Nat.add_sub_cancel_left _ _, List.getD_eq_getElem?_getD, List.getD_eq_getElem?_getD, e1, e2]
    rfl
  have sl : (1000 : Nat) ≤ sizeLine := by decide
  have I2 : Inv X pins σ H2 { s1 with heap := h'.push { cls := .type "tuple", data := .seq acc }, toks := s1.toks } := by
    refine I1.many (fun b u e => Heap.get?_push_of_some _ (keep b u ?_ ?_ ?_ ?_ (kk b u e))) old fun b o hb e => ?_
    · exact Nat.ne_of_lt (Nat.lt_of_lt_of_le (Heap.lt_size e) (Nat.le_add_right _ _))
    · exact Nat.ne_of_lt (Nat.lt_of_lt_of_le (Heap.lt_size e) (Nat.le_add_right _ _))
    · exact Nat.ne_of_lt (Heap.lt_size e)
    · exact Nat.ne_of_lt (Nat.lt_of_lt_of_le (Heap.lt_size e) (Nat.le_add_right _ _))
    · by_cases eS : b = h'.objs.size
      · rw [eS, HS] at e
        injection e with e
        rw [← e, eS]
        exact ⟨by omega, acc.toList, vz, by rw [Array.toArray_toList]; exact ⟨_, Heap.get?_push_size _ rfl, rfl, _, rfl⟩⟩
      · have e' := e
        rw [eH2] at e'
        unfold zpH at e'
        rw [if_neg (Nat.not_lt_of_le hb), if_neg eS] at e'
        split at e'
        · rename_i c
          obtain ⟨j, hj⟩ : ∃ j, b = lo + j := ⟨b - lo, by omega⟩
          have hjx : j < xs.length := Nat.lt_of_add_lt_add_left (hj ▸ c.2)
          have hjy : j < ys.length := by omega
          rw [hj, HT j _ _ (List.getElem?_eq_getElem hjx) (List.getElem?_eq_getElem hjy)] at e
          injection e with e
          rw [← e, hj]
          obtain ⟨_, x, y, b1, b2, c1⟩ := out.2 j (by omega)
          rw [List.getElem?_toArray] at b1 b2
          obtain ⟨u, hu, ru⟩ := rx.get (i := j) (List.getElem?_eq_getElem hjx)
          obtain ⟨u2, hu2, ru2⟩ := ry.get (i := j) (List.getElem?_eq_getElem hjy)
          rw [b1] at hu
          rw [b2] at hu2
          injection hu with hu
          injection hu2 with hu2
          refine ⟨by show 2 ≤ sizeLine; omega, [x, y], .cons (by rw [hu]; exact ru) (.cons (by rw [hu2]; exact ru2) .nil), ?_⟩
          exact ⟨_, Heap.get?_push_of_some _ c1, rfl, _, rfl⟩
        · cases e'
  refine ⟨.ref h'.objs.size, _, I2, rfl, q _ zs _ (same_of fun b o e => by rw [old b (I1.hok.lt e)]; exact e) (I1.hok.fresh lo2) HS ⟨lzs, fun j x y e1 e2 => ?_⟩⟩
  exact ⟨_, zat j (List.getElem?_eq_some_iff.mp e1).1, HT j x y e1 e2⟩
end
end L2

set_option maxRecDepth 100000
set_option maxHeartbeats 4000000
/-! ### Texts of woods: lines of cross ties read -/
namespace Ow
open PySem L2 Wd
theorem every2_cons {α : Type} (x : α) (l : List α) : every2 (x :: l) = x :: every2 (l.drop 1) := by
  cases l with
  | nil => rfl
  | cons y r => rfl
theorem every2_map {α β : Type} (f : α → β) : ∀ l : List α, every2 (l.map f) = (every2 l).map f
  | [] => rfl
  | [x] => rfl
  | x :: y :: r => by
    show f x :: every2 (r.map f) = f x :: (every2 r).map f
    rw [every2_map f r]
theorem every2_pairs {α β : Type} (f g : α → β) : ∀ l : List α, every2 (l.flatMap fun p => [f p, g p]) = l.map f ∧ every2 ((l.flatMap fun p => [f p, g p]).drop 1) = l.map g
  | [] => ⟨rfl, rfl⟩
  | x :: r => by
    obtain ⟨h1, h2⟩ := every2_pairs f g r
    constructor
    · show f x :: every2 (r.flatMap fun p => [f p, g p]) = f x :: r.map f
      rw [h1]
    · show every2 (g x :: r.flatMap fun p => [f p, g p]) = g x :: r.map g
      rw [every2_cons, h2]
theorem most_nums (ns : List Str) (top : Int) (ps : List (Nat × Int)) : every2 ((strsL (tieW ns (.most top ps))).drop 3) = strsL (ps.map fun p => numT p.2) := by
  unfold strsL
  rw [← List.map_drop, every2_map]
  exact congrArg _ (every2_pairs (fun p : Nat × Int => numT p.2) (fun p => nameAt ns p.1) ps).1
theorem most_opts (ns : List Str) (top : Int) (ps : List (Nat × Int)) : every2 ((strsL (tieW ns (.most top ps))).drop 4) = strsL ((ps.map (·.1)).map (nameAt ns)) := by
  unfold strsL
  rw [← List.map_drop, every2_map, List.map_map (l := ps)]
  exact congrArg (List.map V.str) (every2_pairs (fun p : Nat × Int => numT p.2) (fun p => nameAt ns p.1) ps).2
theorem most_len (ns : List Str) (top : Int) (ps : List (Nat × Int)) : (strsL (tieW ns (.most top ps))).length = 3 + 2 * ps.length := by
  unfold strsL
  rw [List.length_map]
  show ((["most", numT top, "of"] : List Str) ++ ps.flatMap fun p => [numT p.2, nameAt ns p.1]).length = _
  rw [List.length_append]
  have e : ∀ l : List (Nat × Int), (l.flatMap fun p => [numT p.2, nameAt ns p.1]).length = 2 * l.length := by
    intro l
    induction l with
    | nil => rfl
    | cons x r ih =>
      rw [List.flatMap_cons, List.length_append, ih, List.length_cons (as := r)]
      show 2 + _ = _
      omega
  rw [e]
  rfl
/-- the options in a line of a cross tie rise, and there are some -/
def Tie.Rise : Tie → Prop
  | .most _ ps => ps ≠ [] ∧ (ps.map (·.1)).Pairwise (· < ·)
  | _ => True
def spMostIn : Sp := fun vs H Q _ => ∃ (l lw : Addr) (ns : List Str) (top : Int) (ps : List (Nat × Int)), vs = [.ref l, .ref lw] ∧ H l = some (.lst (strsL ns)) ∧ H lw = some (.lst (strsL (tieW ns (.most top ps)))) ∧ Names ns ∧ Tie.Small ns.length (.most top ps) ∧ Tie.Rise (.most top ps) ∧
  ∀ (v : V) (H' : Hp), Same H H' → Dn H' (Tie.most top ps).toD v → Q v H'
def spTieIn : Sp := fun vs H Q _ => ∃ (l lw : Addr) (ns : List Str) (t : Tie), vs = [.ref l, .ref lw] ∧ H l = some (.lst (strsL ns)) ∧ H lw = some (.lst (strsL (tieW ns t))) ∧ Names ns ∧ isCross t = true ∧ Tie.Small ns.length t ∧ Tie.Rise t ∧
  ∀ (v : V) (H' : Hp), Same H H' → Dn H' t.toD v → Q v H'
theorem dn_pairs {H : Hp} : ∀ {ps : List (Nat × Int)} {zs : List V}, PairsV H (natsL (ps.map (·.1))) (ps.map fun p => V.int p.2) zs → DnL H (ps.map pairD) zs
  | [], zs, h => by
    have := h.1
    exact List.length_eq_zero_iff.mp this
  | p :: r, zs, h => by
    obtain ⟨h1, h2⟩ := h
    obtain ⟨T, e, hT⟩ := h2 0 (.int (p.1 : Nat)) (.int p.2) rfl rfl
    cases zs with
    | nil => cases e
    | cons z zs =>
      injection e with e
      refine ⟨z, zs, rfl, ⟨T, _, e, hT, _, _, rfl, rfl, _, _, rfl, rfl, rfl⟩, dn_pairs ⟨?_, fun j x y hx hy => ?_⟩⟩
      · rw [List.length_cons] at h1
        exact Nat.succ.inj h1
      · obtain ⟨T', e', hT'⟩ := h2 (j + 1) x y hx hy
        exact ⟨T', e', hT'⟩
end Ow

set_option maxRecDepth 100000
set_option maxHeartbeats 4000000
/-! ### Texts of woods: what was joined is cut again -/
namespace Ow
open PySem L2 Wd PySem.Spec PyProof.Rows
def Free (c : Nat) (z : Str) : Prop := c ∉ z.cps.toList
theorem split_ne (x y : Str) : Txt.split x y ≠ [] := by
  unfold Txt.split
  split
  · simp
  · split
    · simp
    · intro z
      obtain ⟨p, r, e⟩ := StrLaws.partsFrom_ne x y.length 0 (Builtin.Str.occurrences x y 0 x.length (x.length + 1))
      rw [StrLaws.partsBetween_eq, e] at z
      cases z
theorem cut_inj {c : Nat} : ∀ {a b x y : List Nat}, c ∉ a → c ∉ b → a ++ c :: x = b ++ c :: y → a = b ∧ x = y
  | [], [], x, y, _, _, h => ⟨rfl, (List.cons.inj h).2⟩
  | [], b :: bs, x, y, _, h2, h => absurd (List.cons.inj h).1 fun z => h2 (z ▸ List.mem_cons_self)
  | a :: as, [], x, y, h1, _, h => absurd (List.cons.inj h).1 fun z => h1 (z ▸ List.mem_cons_self)
  | a :: as, b :: bs, x, y, h1, h2, h => by
    obtain ⟨e1, e2⟩ := List.cons.inj h
    obtain ⟨e3, e4⟩ := cut_inj (fun z => h1 (List.mem_cons_of_mem _ z)) (fun z => h2 (List.mem_cons_of_mem _ z)) e2
    exact ⟨by rw [e1, e3], e4⟩
theorem join_cps (c : Nat) (u v : Str) (r : List Str) : (Str.join ⟨#[c]⟩ (u :: v :: r)).cps.toList = u.cps.toList ++ c :: (Str.join ⟨#[c]⟩ (v :: r)).cps.toList := by
  show (u ++ (⟨#[c]⟩ : Str) ++ Str.join ⟨#[c]⟩ (v :: r)).cps.toList = _
  rw [PyProof.Rows.cps_toList_append, PyProof.Rows.cps_toList_append, List.append_assoc]
  rfl
theorem cps_inj {u v : Str} (h : u.cps.toList = v.cps.toList) : u = v := by
  exact (ofL_eq h).trans (ofL_eq (z := v) rfl).symm
theorem join_inj {c : Nat} : ∀ (us vs : List Str), (∀ z ∈ us, Free c z) → (∀ z ∈ vs, Free c z) → us ≠ [] → vs ≠ [] → Str.join ⟨#[c]⟩ us = Str.join ⟨#[c]⟩ vs → us = vs
  | [], _, _, _, h, _, _ => absurd rfl h
  | _, [], _, _, _, h, _ => absurd rfl h
  | [u], [v], _, _, _, _, h => congrArg (fun z => [z]) (show u = v from h)
  | [u], v :: v2 :: r, h1, _, _, _, h => by
    have e := congrArg (fun z : Str => z.cps.toList) h
    simp only [join_cps] at e
    refine absurd ?_ (h1 u List.mem_cons_self)
    show c ∈ u.cps.toList
    rw [show u.cps.toList = _ from e]
    exact List.mem_append.mpr (.inr List.mem_cons_self)
  | u :: u2 :: r, [v], _, h2, _, _, h => by
    have e := congrArg (fun z : Str => z.cps.toList) h
    simp only [join_cps] at e
    refine absurd ?_ (h2 v List.mem_cons_self)
    show c ∈ v.cps.toList
    rw [show v.cps.toList = _ from e.symm]
    exact List.mem_append.mpr (.inr List.mem_cons_self)
  | u :: u2 :: r, v :: v2 :: r', h1, h2, _, _, h => by
    have e := congrArg (fun z : Str => z.cps.toList) h
    simp only [join_cps] at e
    obtain ⟨e1, e2⟩ := cut_inj (h1 u List.mem_cons_self) (h2 v List.mem_cons_self) e
    rw [cps_inj e1, join_inj (u2 :: r) (v2 :: r') (fun z hz => h1 z (List.mem_cons_of_mem _ hz)) (fun z hz => h2 z (List.mem_cons_of_mem _ hz)) (by simp) (by simp) (cps_inj e2)]
theorem split_joined {c : Nat} {ws : List Str} (ne : ws ≠ []) (fr : ∀ z ∈ ws, Free c z) : Txt.split (Str.join ⟨#[c]⟩ ws) ⟨#[c]⟩ = ws := join_inj _ _ (StrLaws.split_free _ c) fr (split_ne _ _) ne (StrLaws.join_split _ _)
theorem free_join {c e : Nat} (ne : c ≠ e) : ∀ {ws : List Str}, (∀ z ∈ ws, Free c z) → Free c (Str.join ⟨#[e]⟩ ws)
  | [], _ => by
    show c ∉ (Str.join ⟨#[e]⟩ []).cps.toList
    simp [Str.join, Str.empty]
  | [u], h => h u List.mem_cons_self
  | u :: v :: r, h => by
    show c ∉ (Str.join ⟨#[e]⟩ (u :: v :: r)).cps.toList
    rw [join_cps]
    intro z
    rcases List.mem_append.mp z with y | y
    · exact h u List.mem_cons_self y
    · rcases List.mem_cons.mp y with y | y
      · exact ne y
      · exact free_join ne (ws := v :: r) (fun z hz => h z (List.mem_cons_of_mem _ hz)) y
theorem free_made {z y : Str} {c : Nat} (h : madeOf z y = true) (n : inT c y = false) : Free c z := fun m => by
  have := List.all_eq_true.mp h c m
  rw [n] at this
  cases this
/-- no sign that cuts -/
def Whole (z : Str) : Prop := Free 10 z ∧ Free 32 z
theorem whole_name {z : Str} (h : isName z = true) : Whole z := by
  unfold isName at h
  rw [Bool.and_eq_true, Bool.and_eq_true] at h
  exact ⟨free_made h.2.1 (by decide +kernel), free_made h.2.1 (by decide +kernel)⟩
theorem whole_num (n : Int) : Whole (numT n) := by
  have k : ∀ c ∈ (numT n).cps.toList, 45 ≤ c ∧ c ≠ 32 := fun c hc => by
    rw [numT_dgs, ofL_cps] at hc
    rcases List.mem_append.mp hc with z | z
    · split at z
      · rw [List.mem_singleton.mp z]
        decide
      · cases z
    · have := digs_range z
      omega
  exact ⟨fun z => by have := k 10 z; omega, fun z => by have := k 32 z; omega⟩
theorem whole_at {ns : List Str} (N : Names ns) (k : Nat) : Whole (nameAt ns k) := by
  unfold nameAt
  rw [List.getD_eq_getElem?_getD]
  cases e : ns[k]? with
  | none => exact ⟨(fun z => nomatch z), (fun z => nomatch z)⟩
  | some z => exact whole_name (N.name z (List.mem_of_getElem? e))
theorem whole_lit {z : Str} (h : z ∈ (["ware", "must", "may", "one", "from", "to", "of", "most", "needs", "bans"] : List Str)) : Whole z := by
  have k : ∀ z ∈ (["ware", "must", "may", "one", "from", "to", "of", "most", "needs", "bans"] : List Str), (z.cps.toList.all fun c => decide (c ≠ 10) && decide (c ≠ 32)) = true := by decide +kernel
  have j := List.all_eq_true.mp (k z h)
  exact ⟨fun m => by have := j 10 m; simp at this, fun m => by have := j 32 m; simp at this⟩
theorem whole_bound (lo hi m : Nat) : ∀ z ∈ boundW lo hi m, Whole z := by
  intro z hz
  unfold boundW at hz
  split at hz
  · rw [List.mem_singleton.mp hz]
    exact whole_lit (by decide)
  split at hz
  · rw [List.mem_singleton.mp hz]
    exact whole_lit (by decide)
  split at hz
  · rw [List.mem_singleton.mp hz]
    exact whole_lit (by decide)
  simp only [List.mem_cons, List.not_mem_nil, or_false] at hz
  rcases hz with rfl | rfl | rfl | rfl
  · exact whole_lit (by decide)
  · exact whole_num _
  · exact whole_lit (by decide)
  · exact whole_num _
/-- names and a wood, as they stand in a text -/
structure Lined (ns : List Str) (L : List Bg) (C : List Tie) : Prop where
  nm : Names ns
  gb : GoodB ns.length ((L.map Bg.tie).map Tie.toD)
  okb : ∀ b ∈ L, Tie.BoughOk ns.length b.u b.lo b.hi b.ks
  okc : ∀ t ∈ C, t.Ok ns.length
  nb : ∀ t ∈ C, ∀ u lo hi ks, t ≠ .bough u lo hi ks
  sm : ∀ t ∈ C, Tie.Small ns.length t
  fewb : L.length ≤ 9
  fewc : C.length ≤ 8
theorem name_len {z : Str} (h : isName z = true) : z.length ≤ 8 := by
  unfold isName at h
  rw [Bool.and_eq_true] at h
  exact (of_decide_eq_true h.1).2
section
variable {ns : List Str} {L : List Bg} {C : List Tie}
theorem Lined.cross (h : Lined ns L C) {t : Tie} (ht : t ∈ C) : isCross t = true := by
  cases t with
  | bough u lo hi ks => exact absurd rfl (h.nb _ ht u lo hi ks)
  | needs x y => rfl
  | bans x y => rfl
  | most top ps => rfl
theorem Lined.rise (h : Lined ns L C) {t : Tie} (ht : t ∈ C) : Tie.Rise t := by
  have ok := h.okc t ht
  cases t with
  | bough u lo hi ks => trivial
  | needs x y => trivial
  | bans x y => trivial
  | most top ps => exact ⟨ok.1, ok.2.2.1⟩
theorem Lined.whole (h : Lined ns L C) {ws : List Str} (hw : ws ∈ linesOf ns L C) : ws ≠ [] ∧ ∀ z ∈ ws, Whole z := by
  rcases List.mem_append.mp hw with y | y
  · rcases List.mem_cons.mp y with y | y
    · rw [y]
      refine ⟨by simp, fun z hz => ?_⟩
      rcases List.mem_append.mp hz with x | x
      · rw [List.mem_singleton.mp x]
        exact whole_lit (by decide)
      · exact whole_name (h.nm.name z x)
    · obtain ⟨b, hb, rfl⟩ := List.mem_map.mp y
      refine ⟨by simp [boughW], fun z hz => ?_⟩
      rcases List.mem_cons.mp hz with x | x
      · rw [x]
        exact whole_at h.nm _
      · rcases List.mem_append.mp x with x | x
        · exact whole_bound _ _ _ z x
        · obtain ⟨k, _, rfl⟩ := List.mem_map.mp x
          exact whole_at h.nm _
  · obtain ⟨t, ht, rfl⟩ := List.mem_map.mp y
    have na := whole_at h.nm
    cases t with
    | bough u lo hi ks => exact absurd rfl (h.nb _ ht u lo hi ks)
    | needs x y =>
      refine ⟨by simp [tieW], fun z hz => ?_⟩
      simp only [tieW, List.mem_cons, List.not_mem_nil, or_false] at hz
      rcases hz with rfl | rfl | rfl
      · exact na _
      · exact whole_lit (by decide)
      · exact na _
    | bans x y =>
      refine ⟨by simp [tieW], fun z hz => ?_⟩
      simp only [tieW, List.mem_cons, List.not_mem_nil, or_false] at hz
      rcases hz with rfl | rfl | rfl
      · exact na _
      · exact whole_lit (by decide)
      · exact na _
    | most top ps =>
      refine ⟨by simp [tieW], fun z hz => ?_⟩
      rcases List.mem_append.mp hz with x | x
      · simp only [List.mem_cons, List.not_mem_nil, or_false] at x
        rcases x with rfl | rfl | rfl
        · exact whole_lit (by decide)
        · exact whole_num _
        · exact whole_lit (by decide)
      · obtain ⟨p, hp, x⟩ := List.mem_flatMap.mp x
        simp only [List.mem_cons, List.not_mem_nil, or_false] at x
        rcases x with rfl | rfl
        · exact whole_num _
        · exact na _
theorem Lined.n8 (h : Lined ns L C) : ∀ z ∈ ns, z.length ≤ 8 := fun z hz => name_len (h.nm.name z hz)
theorem Lined.short (h : Lined ns L C) {ws : List Str} (hw : ws ∈ linesOf ns L C) : ShortL ws := by
  have n9 := h.nm.few
  rcases List.mem_append.mp hw with y | y
  · rcases List.mem_cons.mp y with y | y
    · rw [y]
      exact short_ware n9 h.n8
    · obtain ⟨b, hb, rfl⟩ := List.mem_map.mp y
      have ok := h.okb b hb
      have k9 := ok.few
      have := ok.hik
      have := ok.lohi
      exact short_bough h.n8 (by omega) (by omega) (by omega)
  · obtain ⟨c, hc, rfl⟩ := List.mem_map.mp y
    exact short_tie h.n8 (h.sm c hc)
theorem lines_len : (linesOf ns L C).length = 1 + L.length + C.length := by
  rw [linesOf, linesB, List.length_append, List.length_cons, List.length_map, List.length_map]
  omega
theorem Lined.text (h : Lined ns L C) : (textOf ns L C).length ≤ 1000000 ∧ Txt.split (textOf ns L C) "\n" = (linesOf ns L C).map (Str.join " ") := by
  have fb := h.fewb
  have fc := h.fewc
  constructor
  · have hs := sum_len (b := 2000) (ws := (linesOf ns L C).map (Str.join " ")) fun z hz => by
      obtain ⟨ws, hw, rfl⟩ := List.mem_map.mp hz
      exact (short_join (h.short hw)).2
    have := StrLaws.join_length_le ("\n" : Str) ((linesOf ns L C).map (Str.join " "))
    rw [List.length_map, lines_len] at hs this
    rw [show (("\n") : Str).length = 1 from rfl] at this
    unfold textOf
    omega
  · refine split_joined (c := 10) (fun z => ?_) fun z hz => ?_
    · rw [List.map_eq_nil_iff] at z
      have := lines_len (ns := ns) (L := L) (C := C)
      rw [z] at this
      simp at this
      omega
    · obtain ⟨ws, hw, rfl⟩ := List.mem_map.mp hz
      exact free_join (e := 32) (by decide) fun z hz => ((h.whole hw).2 z hz).1
theorem Lined.words (h : Lined ns L C) {ws : List Str} (hw : ws ∈ linesOf ns L C) : (Str.join " " ws).length ≤ 1000000 ∧ Txt.split (Str.join " " ws) " " = ws := by
  refine ⟨Nat.le_trans (short_join (h.short hw)).2 (by decide), split_joined (c := 32) (h.whole hw).1 fun z hz => ((h.whole hw).2 z hz).2⟩
end
theorem cross_bough {ns : List Str} {u lo hi : Nat} {ks : List Nat} (h : isName (nameAt ns u) = true) : crossLine (boughW ns u lo hi ks) = false := by
  obtain ⟨b0, br, e, hb⟩ := bound_head lo hi ks.length
  have hb0 : b0 ∈ (["must", "may", "one", "from"] : List Str) := by
    unfold boundW at e
    split at e
    · cases e
      decide
    split at e
    · cases e
      decide
    split at e
    · cases e
      decide
    · cases e
      decide
  have e2 : boughW ns u lo hi ks = nameAt ns u :: b0 :: (br ++ ks.map (nameAt ns)) := by
    unfold boughW
    rw [e]
    rfl
  rw [e2]
  unfold crossLine
  rw [Bool.or_eq_false_iff]
  constructor
  · show (some (nameAt ns u) == some ("most" : Str)) = false
    refine beq_eq_false_iff_ne.mpr fun z => ?_
    injection z with z
    rw [z] at h
    exact absurd h (by decide +kernel)
  · rw [Bool.and_eq_false_iff]
    refine .inr ?_
    show (["needs", "bans"] : List Str).contains b0 = false
    have k : ∀ z ∈ (["must", "may", "one", "from"] : List Str), (["needs", "bans"] : List Str).contains z = false := by decide +kernel
    exact k b0 hb0
theorem cross_line {ns : List Str} {t : Tie} (h : isCross t = true) : crossLine (tieW ns t) = true := by
  cases t with
  | bough u lo hi ks => cases h
  | needs x y =>
    unfold crossLine
    rw [Bool.or_eq_true]
    refine .inr ?_
    show (true && (["needs", "bans"] : List Str).contains "needs") = true
    decide +kernel
  | bans x y =>
    unfold crossLine
    rw [Bool.or_eq_true]
    refine .inr ?_
    show (true && (["needs", "bans"] : List Str).contains "bans") = true
    decide +kernel
  | most top ps =>
    unfold crossLine
    rw [Bool.or_eq_true]
    refine .inl ?_
    show (some ("most" : Str) == some ("most" : Str)) = true
    decide +kernel
/-- lists of texts, one behind the other -/
def RefsAt (H : Hp) (ls : List (List Str)) (ys : List V) : Prop := ys.length = ls.length ∧ ∀ (j : Nat) (ws : List Str), ls[j]? = some ws → ∃ a : Addr, ys[j]? = some (.ref a) ∧ H a = some (.lst (strsL ws))
theorem RefsAt.same {H H' : Hp} {ls : List (List Str)} {ys : List V} (s : Same H H') (h : RefsAt H ls ys) : RefsAt H' ls ys := ⟨h.1, fun j ws e => (h.2 j ws e).imp fun a ⟨x, y⟩ => ⟨x, s _ _ y⟩⟩
theorem RefsAt.snoc {H : Hp} {ls : List (List Str)} {ys : List V} {a : Addr} {ws : List Str} (h : RefsAt H ls ys) (ha : H a = some (.lst (strsL ws))) : RefsAt H (ls ++ [ws]) (ys ++ [.ref a]) := by
  obtain ⟨h1, h2⟩ := h
  refine ⟨by rw [List.length_append, List.length_append, h1]; rfl, fun j v e => ?_⟩
  by_cases hj : j < ls.length
  · rw [List.getElem?_append_left hj] at e
    obtain ⟨b, x, y⟩ := h2 j v e
    exact ⟨b, by rw [List.getElem?_append_left (by omega)]; exact x, y⟩
  · have hj2 : j = ls.length := by
      rcases Nat.lt_or_ge j (ls.length + 1) with q | q
      · omega
      · rw [List.getElem?_eq_none (by rw [List.length_append]; exact q)] at e
        cases e
    subst hj2
    rw [List.getElem?_append_right (Nat.le_refl _), Nat.sub_self] at e
    cases e
    refine ⟨a, ?_, ha⟩
    rw [← h1, List.getElem?_append_right (Nat.le_refl _), Nat.sub_self]
    rfl
theorem RefsAt.drop {H : Hp} {ls : List (List Str)} {ys : List V} (h : RefsAt H ls ys) : RefsAt H (ls.drop 1) (ys.drop 1) := by
  refine ⟨by rw [List.length_drop, List.length_drop, h.1], fun j ws e => ?_⟩
  rw [List.getElem?_drop] at e ⊢
  exact h.2 _ _ e
theorem lines_at {ns : List Str} {L : List Bg} {C : List Tie} {i : Nat} {b : Bg} (h : L[i]? = some b) : ((linesOf ns L C).drop 1)[i]? = some (boughW ns b.u b.lo.toNat b.hi.toNat b.ks) := by
  have hi := (List.getElem?_eq_some_iff.mp h).1
  show (L.map (fun b => boughW ns b.u b.lo.toNat b.hi.toNat b.ks) ++ C.map (tieW ns))[i]? = _
  rw [List.getElem?_append_left (by rw [List.length_map]; exact hi), List.getElem?_map, h]
  rfl
theorem lines_atC {ns : List Str} {L : List Bg} {C : List Tie} {i : Nat} {t : Tie} (hi : L.length ≤ i) (h : C[i - L.length]? = some t) : ((linesOf ns L C).drop 1)[i]? = some (tieW ns t) := by
  show (L.map (fun b => boughW ns b.u b.lo.toNat b.hi.toNat b.ks) ++ C.map (tieW ns))[i]? = _
  rw [List.getElem?_append_right (by rw [List.length_map]; exact hi), List.length_map, List.getElem?_map, h]
  rfl
def spRead : Sp := fun vs H Q _ => ∃ (ns : List Str) (L : List Bg) (C : List Tie), vs = [.str (textOf ns L C)] ∧ Lined ns L C ∧
  ∀ (p pn wd tb tc : Addr) (H' : Hp), Same H H' → H pn = none → H' p = some (.tup [.ref pn, .ref wd]) → H' pn = some (.lst (strsL ns)) → WoodP H' wd tb tc ns.length L C → Q (.ref p) H'
end Ow

set_option maxRecDepth 100000
set_option maxHeartbeats 4000000
/-! ### Draws of woods whose numbers can be written -/
namespace Ow
open PySem L2 Wd
def SmallP : PyData → Prop
  | .tuple [_, .int n] => n.natAbs < 10 ^ 60
  | _ => True
def SmallD : PyData → Prop
  | .tuple [_, .int top, .tuple ps] => top.natAbs < 10 ^ 60 ∧ ∀ p ∈ ps, SmallP p
  | _ => True
theorem far_small {far y : Int} (f0 : 0 ≤ far) (f1 : far ≤ 10 ^ 58) (y0 : -50 ≤ y) (y1 : y ≤ 50) : (far * y).natAbs < 10 ^ 60 := by
  rw [Int.natAbs_mul]
  have a : far.natAbs ≤ 10 ^ 58 := by omega
  have b : y.natAbs ≤ 50 := by omega
  exact Nat.lt_of_le_of_lt (Nat.mul_le_mul a b) (by decide +kernel)
def spCrossTS (K : PySem.W.Frag) : Sp := fun vs H Q _ => ∃ (pen sp : Addr) (ns : List Int) (m : Nat) (k : Int), vs = [.ref pen, .int (m : Int)] ∧ Pen K H pen sp ns k ∧ 0 ≤ k ∧ k ≤ 900000 ∧ 1 ≤ m ∧ m ≤ 9 ∧
  ∀ (c : PyData) (v : V) (k' : Int) (H' : Hp), SameX pen H H' → H' pen = some (.lst [.ref sp, .int k']) → k ≤ k' → k' ≤ k + 30 → Dn H' c v → isTie m c = true → flatD 3 c = true → SmallD c → Q v H'
def spCrossUS (K : PySem.W.Frag) : Sp := fun vs H Q _ => ∃ (pen sp : Addr) (ns : List Int) (m : Nat) (k : Int), vs = [.ref pen, .int (m : Int)] ∧ Pen K H pen sp ns k ∧ 0 ≤ k ∧ k ≤ 800000 ∧ 1 ≤ m ∧ m ≤ 9 ∧
  ∀ (c : PyData) (v : V) (k' : Int) (H' : Hp), SameX pen H H' → H' pen = some (.lst [.ref sp, .int k']) → k ≤ k' → k' ≤ k + 31 → Dn H' c v → isTie m c = true → flatD 3 c = true → SmallD c → Q v H'
def spWoodS (K : PySem.W.Frag) : Sp := fun vs H Q _ => ∃ (pen sp : Addr) (ns : List Int) (k : Int), vs = [.ref pen] ∧ Pen K H pen sp ns k ∧ 0 ≤ k ∧ k ≤ 700000 ∧
  ∀ (wd : Addr) (m : Nat) (bs cs : List PyData) (k' : Int) (H' : Hp), SameX pen H H' → H' pen = some (.lst [.ref sp, .int k']) → k ≤ k' → k' ≤ k + 400 → 1 ≤ m → m ≤ 9 → WoodX H' wd m bs cs → cs.length ≤ 8 → (∀ c ∈ cs, SmallD c) → Q (.ref wd) H'
theorem PairsTo.first {H : Hp} {i : Nat} {ps : List PyData} {xs : List V} (h : PairsTo H i ps xs) : PairsTo H i (ps.take 1) (xs.take 1) := by
  obtain ⟨h1, h2, h3, h4, h5⟩ := h
  cases ps with
  | nil =>
    cases h1
    exact ⟨rfl, rfl, rfl, rfl, Nat.zero_le _⟩
  | cons p r =>
    obtain ⟨x, xr, rfl, hx, _⟩ := h1
    rw [List.all_cons, Bool.and_eq_true] at h2 h3
    refine ⟨⟨x, [], rfl, hx, rfl⟩, ?_, ?_, ?_, by rw [List.length_cons] at h5; show 1 ≤ i; omega⟩
    · show (pairOk p && true) = true
      rw [h2.1]
      rfl
    · show (flatD 1 p && true) = true
      rw [h3.1]
      rfl
    · show rising (i : Int) [fstD p] (-1) = true
      change rising (i : Int) (fstD p :: r.map fstD) (-1) = true at h4
      cases e : fstD p with
      | int n =>
        rw [e] at h4
        have z : (decide ((-1 : Int) + 1 ≤ n) && decide (n ≤ (i : Int) - 1) && rising i (r.map fstD) n) = true := h4
        rw [Bool.and_eq_true] at z
        show (decide ((-1 : Int) + 1 ≤ n) && decide (n ≤ (i : Int) - 1) && rising i [] n) = true
        rw [z.1]
        rfl
      | _ =>
        rw [e] at h4
        cases h4
end Ow

set_option maxRecDepth 100000
set_option maxHeartbeats 4000000
/-! ### Names drawn -/
namespace L2
open PySem PySem.Spec PyProof.Rows
theorem pei_slice {X : Cx} {e : Expr} {te : TE} {lo hi : Option Expr} {tl th : TO} {pos p2 : Pos} {r : V → Option Int → Option Int → Hp → VK → Prop} (hr : SlR X r) (he : PEi X e te) (hl : PO X lo tl) (hu : PO X hi th) : PEi X (.Subscript e (.Slice lo hi none p2) pos) (tSl r te tl th) := .of (pe_slice hr he.pe hl hu)
theorem psi_if {X : Cx} {c : Expr} {a b : List Stmt} {tc : TT} {t u : TS} {pos : Pos} (hc : PT X c tc) (ha : PLi X a t) (hb : PSs X b u) : PSi X (.If c a b pos) (tIfS tc t u) := .of (ps_if hc ha.pss hb)
end L2
namespace Ow
open PySem L2 Wd
def barred : List Str := ["may", "one", "must", "from", "bans", "most", "nothing"]
def subS (z : Str) : Str := if barred.contains z then z ++ "s" else z
def subN (z : Str) : Str := if z = "needs" then "seen" else z
def oddN : List Str := ["may", "one", "must", "from", "bans", "most", "nothing", "needs"]
def subF (z : Str) : Str := subN (subS z)
theorem odd_sub : ∀ z ∈ oddN, isName (subF z) = true ∧ (subF z).length ≠ z.length ∧ (subF z).cps.all (· < 128) = true := by decide +kernel
theorem odd_inj : ∀ y ∈ oddN, ∀ z ∈ oddN, subF y = subF z → y = z := by decide +kernel
theorem odd_no : ∀ z ∈ noNames, z ∈ oddN := by decide +kernel
theorem sub_other {z : Str} (h : z ∉ oddN) : subF z = z := by
  have h1 : barred.contains z = false := by
    rw [← Bool.not_eq_true]
    intro q
    have q' : z ∈ barred := by simpa using q
    refine h ?_
    unfold barred at q'
    unfold oddN
    simp only [List.mem_cons, List.not_mem_nil, or_false] at q' ⊢
    rcases q' with q' | q' | q' | q' | q' | q' | q' <;> simp [q']
  have h2 : z ≠ "needs" := fun q => h (by rw [q]; decide)
  unfold subF subS subN
  rw [h1]
  show (if z = "needs" then ("seen" : Str) else z) = z
  rw [if_neg h2]
/-- small letters alone -/
def Low (z : Str) : Prop := ∀ c ∈ z.cps.toList, 97 ≤ c ∧ c ≤ 122
theorem low_made {z : Str} (h : Low z) : madeOf z lettersT = true := by
  have k : ∀ d : Fin 26, inT (97 + d.val) lettersT = true := by decide +kernel
  refine List.all_eq_true.mpr fun c hc => ?_
  obtain ⟨a, b⟩ := h c hc
  have := k ⟨c - 97, by omega⟩
  rwa [show 97 + (c - 97) = c by omega] at this
theorem low_plain {z : Str} (h : Low z) (hl : z.length ≤ 1000) : Plain z := by
  refine ⟨?_, hl⟩
  rw [Array.all_eq_true']
  intro c hc
  have := h c (Array.mem_toList_iff.mpr hc)
  exact decide_eq_true (by omega)
theorem names_sub {bs : List Str} {n : Nat} (n1 : 1 ≤ n) (n8 : n ≤ 8) (len : ∀ z ∈ bs, z.length = n) (low : ∀ z ∈ bs, Low z) (nd : bs.Nodup) (ne : bs ≠ []) (few : bs.length ≤ 9) : Names (bs.map subF) := by
  have nm : ∀ z ∈ bs, isName (subF z) = true ∧ Plain (subF z) := fun z hz => by
    by_cases o : z ∈ oddN
    · obtain ⟨a, _, c⟩ := odd_sub z o
      exact ⟨a, c, Nat.le_trans (name_len a) (by decide)⟩
    · rw [sub_other o]
      have l := len z hz
      refine ⟨?_, low_plain (low z hz) (by omega)⟩
      unfold isName
      rw [low_made (low z hz), decide_eq_true ⟨by omega, by omega⟩]
      show (!noNames.contains z) = true
      rw [Bool.not_eq_true', ← Bool.not_eq_true]
      intro q
      exact o (odd_no z (by simpa using q))
  refine ⟨fun z => ne (List.map_eq_nil_iff.mp z), by rw [List.length_map]; exact few, ?_, fun z hz => ?_, fun z hz => ?_⟩
  · refine List.pairwise_map.mpr (List.Pairwise.imp_of_mem ?_ nd)
    intro y z hy hz hne e
    have ly := len y hy
    have lz := len z hz
    by_cases oy : y ∈ oddN
    · by_cases oz : z ∈ oddN
      · exact hne (odd_inj y oy z oz e)
      · rw [sub_other oz] at e
        have := (odd_sub y oy).2.1
        rw [e] at this
        omega
    · by_cases oz : z ∈ oddN
      · rw [sub_other oy] at e
        have := (odd_sub z oz).2.1
        rw [← e] at this
        omega
      · rw [sub_other oy, sub_other oz] at e
        exact hne e
  · obtain ⟨y, hy, rfl⟩ := List.mem_map.mp hz
    exact (nm y hy).2
  · obtain ⟨y, hy, rfl⟩ := List.mem_map.mp hz
    exact (nm y hy).1
def nmOk (ns : List Str) : Bool := ns.all (fun z => isName z && z.cps.all (· < 128)) && decide ns.Nodup
theorem names_ok {ns : List Str} (h : nmOk ns = true) {m : Nat} (m1 : 1 ≤ m) (m9 : m ≤ 9) (ne : ns ≠ []) : Names (ns.take m) := by
  unfold nmOk at h
  rw [Bool.and_eq_true, List.all_eq_true] at h
  have k : ∀ z ∈ ns, isName z = true ∧ Plain z := fun z hz => by
    have := h.1 z hz
    rw [Bool.and_eq_true] at this
    exact ⟨this.1, this.2, Nat.le_trans (name_len this.1) (by decide)⟩
  refine ⟨fun z => ?_, by rw [List.length_take]; omega, (of_decide_eq_true h.2).sublist (List.take_sublist _ _), fun z hz => (k z (List.mem_of_mem_take hz)).2, fun z hz => (k z (List.mem_of_mem_take hz)).1⟩
  rcases List.take_eq_nil_iff.mp z with z | z
  · omega
  · exact ne z
def letC (i : Int) : Str := ⟨#[97 + (i % 26).toNat]⟩
theorem let_at {i : Int} (h0 : -26 ≤ i) (h1 : i < 26) : atI (("abcdefghijklmnopqrstuvwxyz" : Str)).cps.toList i = some (97 + (i % 26).toNat) := by
  have z : ∀ d : Fin 52, atI (("abcdefghijklmnopqrstuvwxyz" : Str)).cps.toList ((d.val : Int) - 26) = some (97 + (((d.val : Int) - 26) % 26).toNat) := by decide +kernel
  have := z ⟨(i + 26).toNat, by omega⟩
  rwa [show (((i + 26).toNat : Nat) : Int) - 26 = i by omega] at this
def base0 (t : Int) : List Str := ((List.range 8).map fun k : Nat => StrLaws.sliceText (Txt.mul (letC t) 3 ++ Txt.mul (letC (t - 1)) 5) none (some (1 + (k : Int)))) ++ [letC (t - 2)]
def base1 : List Str := ["to", "of", "ware", "w", "wares", "tos", "o", "t", "yes"]
def base2 (t : Int) (tail : Str) (m : Nat) : List Str := (List.range m).map fun k : Nat => letC ((t + 3 * (k : Int)) % 26) ++ tail
theorem base0_ok {t : Int} (h0 : 0 ≤ t) (h1 : t < 26) {m : Nat} (m1 : 1 ≤ m) (m9 : m ≤ 9) : Names (((base0 t).take m).map subF) ∧ ((base0 t).take m).length = m := by
  have z : ∀ d : Fin 26, nmOk ((base0 (d.val : Int)).map subF) = true := by decide +kernel
  have := z ⟨t.toNat, by omega⟩
  rw [show ((t.toNat : Nat) : Int) = t by omega] at this
  refine ⟨?_, ?_⟩
  · rw [List.map_take]
    exact names_ok this m1 m9 (by simp [base0])
  · rw [List.length_take]
    have : (base0 t).length = 9 := by simp [base0]
    omega
theorem base1_ok {m : Nat} (m1 : 1 ≤ m) (m9 : m ≤ 9) : Names ((base1.take m).map subF) ∧ (base1.take m).length = m := by
  refine ⟨?_, ?_⟩
  · rw [List.map_take]
    exact names_ok (by decide +kernel) m1 m9 (by simp [base1])
  · rw [List.length_take]
    have : base1.length = 9 := rfl
    omega
theorem letC_len (i : Int) : (letC i).length = 1 := rfl
theorem str_len_app (y z : Str) : (y ++ z).length = y.length + z.length := by
  show (y ++ z).cps.size = y.cps.size + z.cps.size
  rw [← Array.length_toList, PyProof.Rows.cps_toList_append, List.length_append, Array.length_toList, Array.length_toList]
theorem base2_ok {t : Int} (h0 : 0 ≤ t) (h1 : t < 26) {tail : Str} (lt : Low tail) (l7 : tail.length ≤ 7) {m : Nat} (m1 : 1 ≤ m) (m9 : m ≤ 9) : Names ((base2 t tail m).map subF) ∧ (base2 t tail m).length = m := by
  have ln : (base2 t tail m).length = m := by
    unfold base2
    rw [List.length_map, List.length_range]
  refine ⟨names_sub (n := 1 + tail.length) (by omega) (by omega) (fun z hz => ?_) (fun z hz => ?_) ?_ (fun z => ?_) (by omega), ln⟩
  · obtain ⟨k, _, rfl⟩ := List.mem_map.mp hz
    rw [str_len_app, letC_len]
  · obtain ⟨k, _, rfl⟩ := List.mem_map.mp hz
    intro c hc
    rw [PyProof.Rows.cps_toList_append] at hc
    rcases List.mem_append.mp hc with q | q
    · have e : c = 97 + (((t + 3 * (k : Int)) % 26) % 26).toNat := List.mem_singleton.mp q
      omega
    · exact lt c q
  · refine List.pairwise_map.mpr (List.Pairwise.imp_of_mem ?_ List.nodup_range)
    intro j k hj hk hne e
    have hj' := List.mem_range.mp hj
    have hk' := List.mem_range.mp hk
    have q := congrArg (fun z : Str => z.cps.toList.head?) e
    simp only [PyProof.Rows.cps_toList_append] at q
    have q' : some (97 + (((t + 3 * (j : Int)) % 26) % 26).toNat) = some (97 + (((t + 3 * (k : Int)) % 26) % 26).toNat) := q
    injection q' with q'
    omega
  · rw [z] at ln
    simp at ln
    omega
theorem low_letC (i : Int) : Low (letC i) := fun c hc => by
  have e : c = 97 + (i % 26).toNat := List.mem_singleton.mp hc
  omega
theorem low_app {y z : Str} (h1 : Low y) (h2 : Low z) : Low (y ++ z) := fun c hc => by
  rw [PyProof.Rows.cps_toList_append] at hc
  rcases List.mem_append.mp hc with q | q
  · exact h1 c q
  · exact h2 c q
/-- letters joined -/
theorem low_join : ∀ {ws : List Str}, (∀ z ∈ ws, Low z ∧ z.length = 1) → Low (Str.join "" ws) ∧ (Str.join "" ws).length = ws.length
  | [], _ => ⟨(fun c hc => nomatch hc), rfl⟩
  | [z], h => ⟨(h z List.mem_cons_self).1, (h z List.mem_cons_self).2⟩
  | y :: z :: r, h => by
    obtain ⟨a, b⟩ := low_join (ws := z :: r) fun x hx => h x (List.mem_cons_of_mem _ hx)
    obtain ⟨c, d⟩ := h y List.mem_cons_self
    refine ⟨low_app (low_app c fun _ hc => nomatch hc) a, ?_⟩
    show (y ++ ("" : Str) ++ Str.join "" (z :: r)).length = _
    rw [str_len_app, str_len_app, b, d, List.length_cons (a := y)]
    show 1 + 0 + _ = _
    omega
def spNamesD (K : PySem.W.Frag) : Sp := fun vs H Q _ => ∃ (pen sp : Addr) (ns : List Int) (m : Nat) (k : Int), vs = [.ref pen, .int (m : Int)] ∧ Pen K H pen sp ns k ∧ 0 ≤ k ∧ k ≤ 800000 ∧ 1 ≤ m ∧ m ≤ 9 ∧
  ∀ (l : Addr) (nm : List Str) (k' : Int) (H' : Hp), SameX pen H H' → H' pen = some (.lst [.ref sp, .int k']) → k ≤ k' → k' ≤ k + 30 → H l = none → H' l = some (.lst (strsL nm)) → Names nm → nm.length = m → Q (.ref l) H'
end Ow

set_option maxRecDepth 100000
set_option maxHeartbeats 4000000
/-! ### Data of one kind -/
namespace Ow
open PySem L2 Wd
theorem isi_int_tuple : kitTy "int" "tuple" = some false := by decide +kernel
theorem isi_str_tuple : kitTy "str" "tuple" = some false := by decide +kernel
theorem isi_int_str : kitTy "int" "str" = some false := by decide +kernel
/-- tuples of tuples, of whole numbers and texts, so deep at most -/
def Nest : Nat → PyData → Prop
  | 0, _ => False
  | _ + 1, .int _ => True
  | _ + 1, .str _ => True
  | n + 1, .tuple ds => ds.length ≤ 1000 ∧ ∀ d ∈ ds, Nest n d
  | _ + 1, _ => False
def spKind (f : Nat) : Sp := fun vs H Q _ => ∃ (d : PyData) (x y : V), vs = [x, y] ∧ Dn H d x ∧ Dn H d y ∧ Nest f d ∧ ∀ H', Same H H' → Q (.bl true) H'
theorem nest_tie {m n : Nat} {t : Tie} (ok : t.Ok m) (m9 : m ≤ 9) : Nest (n + 4) t.toD := by
  cases t with
  | bough u lo hi ks =>
    refine ⟨Nat.le_of_ble_eq_true rfl, fun d hd => ?_⟩
    simp only [List.mem_cons, List.not_mem_nil, or_false] at hd
    rcases hd with rfl | rfl | rfl | rfl
    · trivial
    · trivial
    · trivial
    · refine ⟨?_, fun d hd => ?_⟩
      · rw [List.length_map]
        have := ok.few
        omega
      · obtain ⟨k, _, rfl⟩ := List.mem_map.mp hd
        trivial
  | needs a b =>
    refine ⟨Nat.le_of_ble_eq_true rfl, fun d hd => ?_⟩
    simp only [List.mem_cons, List.not_mem_nil, or_false] at hd
    rcases hd with rfl | rfl | rfl <;> trivial
  | bans a b =>
    refine ⟨Nat.le_of_ble_eq_true rfl, fun d hd => ?_⟩
    simp only [List.mem_cons, List.not_mem_nil, or_false] at hd
    rcases hd with rfl | rfl | rfl <;> trivial
  | most top ps =>
    refine ⟨Nat.le_of_ble_eq_true rfl, fun d hd => ?_⟩
    simp only [List.mem_cons, List.not_mem_nil, or_false] at hd
    rcases hd with rfl | rfl | rfl
    · trivial
    · trivial
    · refine ⟨?_, fun d hd => ?_⟩
      · rw [List.length_map]
        have := ok.2.2.2
        omega
      · obtain ⟨p, _, rfl⟩ := List.mem_map.mp hd
        refine ⟨by show 2 ≤ 1000; decide, fun d hd => ?_⟩
        simp only [List.mem_cons, List.not_mem_nil, or_false] at hd
        rcases hd with rfl | rfl <;> trivial
theorem nest_wood {H : Hp} {wd tb tc : Addr} {m : Nat} {L : List Bg} {C : List Tie} (W : WoodP H wd tb tc m L C) : Nest 6 (woodDt m L C) := by
  have m9 := W.m9
  refine ⟨by show 3 ≤ 1000; decide, fun d hd => ?_⟩
  simp only [List.mem_cons, List.not_mem_nil, or_false] at hd
  rcases hd with rfl | rfl | rfl
  · trivial
  · refine ⟨?_, fun d hd => ?_⟩
    · rw [List.length_map, List.length_map]
      have := W.fewb
      omega
    · obtain ⟨t, ht, rfl⟩ := List.mem_map.mp hd
      obtain ⟨b, hb, rfl⟩ := List.mem_map.mp ht
      exact nest_tie (n := 0) (t := b.tie) (W.okb b hb) m9
  · refine ⟨?_, fun d hd => ?_⟩
    · rw [List.length_map]
      have := W.fewc
      omega
    · obtain ⟨t, ht, rfl⟩ := List.mem_map.mp hd
      exact nest_tie (n := 0) (W.okc t ht) m9
def spRight : Sp := fun vs H Q _ => ∃ (ln wd tb tc : Addr) (ns : List Str) (L : List Bg) (C : List Tie), vs = [.str (textOf ns L C), .ref ln, .ref wd] ∧ Lined ns L C ∧ H ln = some (.lst (strsL ns)) ∧ WoodP H wd tb tc ns.length L C ∧ ∀ H', Same H H' → Q (.bl true) H'
theorem names_plainL {ns : List Str} (N : Names ns) : PlainL ns := fun z hz => strOk_plain (N.plain z hz)
theorem hi_of {m : Nat} {b : Bg} (h : isBough m b.tie.toD = true) : 1 ≤ b.hi ∧ b.hi ≤ b.ks.length := by
  have z : (within (.int (b.u : Int)) 0 ((m : Int) - 1) && (tupFull (.tuple (b.ks.map fun k : Nat => PyData.int (k : Int))) && (risK m (.int (b.u : Int)) (.tuple (b.ks.map fun k : Nat => PyData.int (k : Int))) && ((decide (1 ≤ b.hi) && decide (b.hi ≤ ((b.ks.map fun k : Nat => PyData.int (k : Int)).length : Int))) && lowH (.int b.lo) (.int b.hi))))) = true := h
  simp only [Bool.and_eq_true, decide_eq_true_iff, List.length_map] at z
  exact z.2.2.2.1
theorem small_of {m : Nat} {t : Tie} (ok : t.Ok m) (m9 : m ≤ 9) (sd : SmallD t.toD) : Tie.Small m t := by
  cases t with
  | bough u lo hi ks => trivial
  | needs a b => exact ⟨ok.1, ok.2.1⟩
  | bans a b => exact ⟨ok.1, ok.2.1⟩
  | most top ps =>
    obtain ⟨s1, s2⟩ := sd
    obtain ⟨o1, o2, o3, o4⟩ := ok
    exact ⟨s1, by omega, fun p hp => ⟨o2 p hp, s2 (pairD p) (List.mem_map_of_mem hp)⟩⟩
theorem lined_of {H : Hp} {wd : Addr} {ns : List Str} {bs cs : List PyData} (W : WoodX H wd ns.length bs cs) (c8 : cs.length ≤ 8) (sd : ∀ c ∈ cs, SmallD c) (N : Names ns) : ∃ (tb tc : Addr) (L : List Bg) (C : List Tie), WoodP H wd tb tc ns.length L C ∧ Lined ns L C := by
  obtain ⟨tb, tc, L, C, P, e1, e2⟩ := W.parts
  subst e1
  subst e2
  have b8 := W.b8
  rw [List.length_map, List.length_map] at b8
  rw [List.length_map] at c8
  refine ⟨tb, tc, L, C, P, ⟨N, W.gb, fun b hb => ?_, P.okc, P.nb, fun t ht => small_of (P.okc t ht) P.m9 (sd _ (List.mem_map_of_mem ht)), b8, c8⟩⟩
  obtain ⟨a, b'⟩ := hi_of (W.gb.each _ (List.mem_map_of_mem (List.mem_map_of_mem hb)))
  exact ⟨P.okb b hb, a, b'⟩
theorem bits_range {m n : Nat} (h : n < 2 ^ m) : bitsL n = (List.range m).filter fun k => n.testBit k := by
  have p : ∀ j, ((List.range j).filter fun k => n.testBit k).Pairwise (· < ·) := fun j => List.pairwise_lt_range.filter _
  have nd : ∀ j, ((List.range j).filter fun k => n.testBit k).Nodup := fun j => (p j).imp fun h => Nat.ne_of_lt h
  have pm : (bitsL n).Perm ((List.range m).filter fun k => n.testBit k) := (List.perm_ext_iff_of_nodup (nd _) (nd _)).mpr fun k => by
    show k ∈ bitsL n ↔ _
    rw [mem_bitsL, List.mem_filter, List.mem_range]
    refine ⟨fun z => ⟨?_, z⟩, fun z => z.2⟩
    rcases Nat.lt_or_ge k m with y | y
    · exact y
    · rw [Nat.testBit_lt_two_pow (Nat.lt_of_lt_of_le h (Nat.pow_le_pow_right (by decide) y))] at z
      cases z
  exact pm.eq_of_pairwise (fun a b _ _ x y => absurd (Nat.lt_trans x y) (Nat.lt_irrefl _)) (p _) (p _)
end Ow

set_option maxRecDepth 100000
set_option maxHeartbeats 4000000
namespace Ow
open PySem L2 Wd
def top (i : Nat) : Stmt := PySem.Challenge.pw_optionwood_k80_texts_of_woods.main.body.getD i (.Pass ⟨0, 0, 0, 0⟩)
abbrev s_has : Stmt := top 5
abbrev s_options_of : Stmt := top 6
abbrev s_wood_of : Stmt := top 10
abbrev s_check_boughs : Stmt := top 11
abbrev s_check_cross_ties : Stmt := top 12
abbrev s_is_whole : Stmt := top 13
abbrev s_is_whole_within : Stmt := top 14
abbrev s_is_option : Stmt := top 15
abbrev s_is_tuple_of_length : Stmt := top 16
abbrev s_is_filled_tuple : Stmt := top 17
abbrev s_are_rising_options : Stmt := top 18
abbrev s_is_bough : Stmt := top 19
abbrev s_is_cross_tie : Stmt := top 20
abbrev s_are_pairs : Stmt := top 21
abbrev s_read : Stmt := top 28
abbrev s_names_in : Stmt := top 29
abbrev s_is_name : Stmt := top 30
abbrev s_is_number : Stmt := top 31
abbrev s_is_made_of : Stmt := top 32
abbrev s_number_in : Stmt := top 33
abbrev s_option_in : Stmt := top 34
abbrev s_rising_in : Stmt := top 35
abbrev s_bough_in : Stmt := top 36
abbrev s_bounds_in : Stmt := top 37
abbrev s_words_of_bounds : Stmt := top 38
abbrev s_is_cross_line : Stmt := top 39
abbrev s_cross_tie_in : Stmt := top 40
abbrev s_most_in : Stmt := top 41
abbrev s_shown : Stmt := top 42
abbrev s_words_of_cross_tie : Stmt := top 43
abbrev s_show_set : Stmt := top 44
abbrev s_law_take : Stmt := top 46
abbrev s_law_bough : Stmt := top 47
abbrev s_law_boughs : Stmt := top 48
abbrev s_law_most : Stmt := top 49
abbrev s_law_cross : Stmt := top 50
abbrev s_law_wood : Stmt := top 51
abbrev s_law_has : Stmt := top 52
abbrev s_law_names : Stmt := top 53
abbrev s_law_figures : Stmt := top 54
abbrev s_law_bough_words : Stmt := top 55
abbrev s_law_lines : Stmt := top 56
abbrev s_law_kind : Stmt := top 57
abbrev s_law_right : Stmt := top 58
abbrev s_law : Stmt := top 59
set_option genInjectivity false
set_option genSizeOfSpec false
set_option genSizeOf false
structure Adr where
  (f_has f_options_of f_wood_of f_check_boughs f_check_cross_ties f_is_whole f_is_whole_within f_is_option f_is_tuple_of_length f_is_filled_tuple f_are_rising_options f_is_bough f_is_cross_tie f_are_pairs f_read f_names_in f_is_name f_is_number f_is_made_of f_number_in f_option_in f_rising_in f_bough_in f_bounds_in f_words_of_bounds f_is_cross_line f_cross_tie_in f_most_in f_shown f_words_of_cross_tie f_show_set f_law_take f_law_bough f_law_boughs f_law_most f_law_cross f_law_wood f_law_has f_law_names f_law_figures f_law_bough_words f_law_lines f_law_kind f_law_right f_law : Addr)
  (x_NO_NAMES : Addr)
structure Fds where
  (f_has f_options_of f_wood_of f_check_boughs f_check_cross_ties f_is_whole f_is_whole_within f_is_option f_is_tuple_of_length f_is_filled_tuple f_are_rising_options f_is_bough f_is_cross_tie f_are_pairs f_read f_names_in f_is_name f_is_number f_is_made_of f_number_in f_option_in f_rising_in f_bough_in f_bounds_in f_words_of_bounds f_is_cross_line f_cross_tie_in f_most_in f_shown f_words_of_cross_tie f_show_set f_law_take f_law_bough f_law_boughs f_law_most f_law_cross f_law_wood f_law_has f_law_names f_law_figures f_law_bough_words f_law_lines f_law_kind f_law_right f_law : FuncData)
structure Txt (K : PySem.W.Frag) (mg : Str → Option Value) (a : Adr) (d : Fds) : Prop where
  m_range : mg "range" = none
  m_len : mg "len" = none
  m_isinstance : mg "isinstance" = none
  m_min : mg "min" = none
  m_all : mg "all" = none
  m_int : mg "int" = none
  m_bool : mg "bool" = none
  m_list : mg "list" = none
  m_tuple : mg "tuple" = none
  m_str : mg "str" = none
  m_sorted : mg "sorted" = none
  m_enumerate : mg "enumerate" = none
  m_zip : mg "zip" = none
  m_set : mg "set" = none
  m_abs : mg "abs" = none
  c_MOST_OPTIONS : ∃ t, mg "MOST_OPTIONS" = some (Value.int 9 t)
  c_MOST_CROSS_TIES : ∃ t, mg "MOST_CROSS_TIES" = some (Value.int 8 t)
  c_LETTERS : ∃ t, mg "LETTERS" = some (Value.str "abcdefghijklmnopqrstuvwxyz" t)
  c_FIGURES : ∃ t, mg "FIGURES" = some (Value.str "0123456789" t)
  c_LONGEST_NAME : ∃ t, mg "LONGEST_NAME" = some (Value.int 8 t)
  c_MOST_FIGURES : ∃ t, mg "MOST_FIGURES" = some (Value.int 60 t)
  g_NO_NAMES : mg "NO_NAMES" = some (.ref a.x_NO_NAMES)
  q_NO_NAMES : kTup K a.x_NO_NAMES ["must", "may", "one", "from", "needs", "bans", "most"] = true
  K_has : Df K mg "has" s_has a.f_has d.f_has ["some", "k"]
  K_options_of : Df K mg "options_of" s_options_of a.f_options_of d.f_options_of ["some"]
  K_wood_of : Df K mg "wood_of" s_wood_of a.f_wood_of d.f_wood_of ["many", "boughs", "cross"]
  K_check_boughs : Df K mg "check_boughs" s_check_boughs a.f_check_boughs d.f_check_boughs ["many", "boughs"]
  K_check_cross_ties : Df K mg "check_cross_ties" s_check_cross_ties a.f_check_cross_ties d.f_check_cross_ties ["many", "cross"]
  K_is_whole : Df K mg "is_whole" s_is_whole a.f_is_whole d.f_is_whole ["thing"]
  K_is_whole_within : Df K mg "is_whole_within" s_is_whole_within a.f_is_whole_within d.f_is_whole_within ["thing", "least", "greatest"]
  K_is_option : Df K mg "is_option" s_is_option a.f_is_option d.f_is_option ["many", "thing"]
  K_is_tuple_of_length : Df K mg "is_tuple_of_length" s_is_tuple_of_length a.f_is_tuple_of_length d.f_is_tuple_of_length ["thing", "length"]
  K_is_filled_tuple : Df K mg "is_filled_tuple" s_is_filled_tuple a.f_is_filled_tuple d.f_is_filled_tuple ["thing"]
  K_are_rising_options : Df K mg "are_rising_options" s_are_rising_options a.f_are_rising_options d.f_are_rising_options ["many", "things", "floor"]
  K_is_bough : Df K mg "is_bough" s_is_bough a.f_is_bough d.f_is_bough ["many", "bough"]
  K_is_cross_tie : Df K mg "is_cross_tie" s_is_cross_tie a.f_is_cross_tie d.f_is_cross_tie ["many", "tie"]
  K_are_pairs : Df K mg "are_pairs" s_are_pairs a.f_are_pairs d.f_are_pairs ["many", "pairs"]
  K_read : Df K mg "read" s_read a.f_read d.f_read ["text"]
  K_names_in : Df K mg "names_in" s_names_in a.f_names_in d.f_names_in ["words"]
  K_is_name : Df K mg "is_name" s_is_name a.f_is_name d.f_is_name ["word"]
  K_is_number : Df K mg "is_number" s_is_number a.f_is_number d.f_is_number ["word"]
  K_is_made_of : Df K mg "is_made_of" s_is_made_of a.f_is_made_of d.f_is_made_of ["word", "signs"]
  K_number_in : Df K mg "number_in" s_number_in a.f_number_in d.f_number_in ["word"]
  K_option_in : Df K mg "option_in" s_option_in a.f_option_in d.f_option_in ["names", "word"]
  K_rising_in : Df K mg "rising_in" s_rising_in a.f_rising_in d.f_rising_in ["names", "words"]
  K_bough_in : Df K mg "bough_in" s_bough_in a.f_bough_in d.f_bough_in ["names", "words"]
  K_bounds_in : Df K mg "bounds_in" s_bounds_in a.f_bounds_in d.f_bounds_in ["words", "many_kids"]
  K_words_of_bounds : Df K mg "words_of_bounds" s_words_of_bounds a.f_words_of_bounds d.f_words_of_bounds ["low", "high", "many_kids"]
  K_is_cross_line : Df K mg "is_cross_line" s_is_cross_line a.f_is_cross_line d.f_is_cross_line ["words"]
  K_cross_tie_in : Df K mg "cross_tie_in" s_cross_tie_in a.f_cross_tie_in d.f_cross_tie_in ["names", "words"]
  K_most_in : Df K mg "most_in" s_most_in a.f_most_in d.f_most_in ["names", "words"]
  K_shown : Df K mg "shown" s_shown a.f_shown d.f_shown ["names", "wood"]
  K_words_of_cross_tie : Df K mg "words_of_cross_tie" s_words_of_cross_tie a.f_words_of_cross_tie d.f_words_of_cross_tie ["names", "tie"]
  K_show_set : Df K mg "show_set" s_show_set a.f_show_set d.f_show_set ["names", "some"]
  K_law_take : Df K mg "_law_take" s_law_take a.f_law_take d.f_law_take ["_law_state", "_law_most_here"]
  K_law_bough : Df K mg "_law_bough" s_law_bough a.f_law_bough d.f_law_bough ["_law_state", "_law_up", "_law_kids"]
  K_law_boughs : Df K mg "_law_boughs" s_law_boughs a.f_law_boughs d.f_law_boughs ["_law_state", "_law_many"]
  K_law_most : Df K mg "_law_most" s_law_most a.f_law_most d.f_law_most ["_law_state", "_law_many"]
  K_law_cross : Df K mg "_law_cross" s_law_cross a.f_law_cross d.f_law_cross ["_law_state", "_law_many"]
  K_law_wood : Df K mg "_law_wood" s_law_wood a.f_law_wood d.f_law_wood ["_law_state"]
  K_law_has : Df K mg "_law_has" s_law_has a.f_law_has d.f_law_has ["_law_some", "_law_k"]
  K_law_names : Df K mg "_law_names" s_law_names a.f_law_names d.f_law_names ["_law_state", "_law_many"]
  K_law_figures : Df K mg "_law_figures" s_law_figures a.f_law_figures d.f_law_figures ["_law_number"]
  K_law_bough_words : Df K mg "_law_bough_words" s_law_bough_words a.f_law_bough_words d.f_law_bough_words ["_law_bough_here"]
  K_law_lines : Df K mg "_law_lines" s_law_lines a.f_law_lines d.f_law_lines ["_law_names_here", "_law_wood_here"]
  K_law_kind : Df K mg "_law_kind" s_law_kind a.f_law_kind d.f_law_kind ["_law_found", "_law_due"]
  K_law_right : Df K mg "_law_right" s_law_right a.f_law_right d.f_law_right ["_law_text", "_law_names_here", "_law_wood_here"]
  K_law : Df K mg "law" s_law a.f_law d.f_law ["_law_script"]
theorem sc_has : FnScope ["some", "k"] ["some", "k"] (defScope s_has) := scm rfl rfl rfl rfl (by decide +kernel)
theorem sc_options_of : FnScope ["some"] ["some"] (defScope s_options_of) := scm rfl rfl rfl rfl (by decide +kernel)
theorem sc_wood_of : FnScope ["many", "boughs", "cross", "wood"] ["many", "boughs", "cross"] (defScope s_wood_of) := scm rfl rfl rfl rfl (by decide +kernel)
theorem sc_check_boughs : FnScope ["many", "boughs", "kids", "place", "bough"] ["many", "boughs"] (defScope s_check_boughs) := scm rfl rfl rfl rfl (by decide +kernel)
theorem sc_check_cross_ties : FnScope ["many", "cross", "place", "tie"] ["many", "cross"] (defScope s_check_cross_ties) := scm rfl rfl rfl rfl (by decide +kernel)
theorem sc_is_whole : FnScope ["thing"] ["thing"] (defScope s_is_whole) := scm rfl rfl rfl rfl (by decide +kernel)
theorem sc_is_whole_within : FnScope ["thing", "least", "greatest"] ["thing", "least", "greatest"] (defScope s_is_whole_within) := scm rfl rfl rfl rfl (by decide +kernel)
theorem sc_is_option : FnScope ["many", "thing"] ["many", "thing"] (defScope s_is_option) := scm rfl rfl rfl rfl (by decide +kernel)
theorem sc_is_tuple_of_length : FnScope ["thing", "length"] ["thing", "length"] (defScope s_is_tuple_of_length) := scm rfl rfl rfl rfl (by decide +kernel)
theorem sc_is_filled_tuple : FnScope ["thing"] ["thing"] (defScope s_is_filled_tuple) := scm rfl rfl rfl rfl (by decide +kernel)
theorem sc_are_rising_options : FnScope ["many", "things", "floor", "last", "thing"] ["many", "things", "floor"] (defScope s_are_rising_options) := scm rfl rfl rfl rfl (by decide +kernel)
theorem sc_is_bough : FnScope ["many", "bough", "up", "high", "kids"] ["many", "bough"] (defScope s_is_bough) := scm rfl rfl rfl rfl (by decide +kernel)
theorem sc_is_cross_tie : FnScope ["many", "tie"] ["many", "tie"] (defScope s_is_cross_tie) := scm rfl rfl rfl rfl (by decide +kernel)
theorem sc_are_pairs : FnScope ["many", "pairs", "pair"] ["many", "pairs"] (defScope s_are_pairs) := scm rfl rfl rfl rfl (by decide +kernel)
theorem sc_read : FnScope ["text", "lines", "names", "boughs", "cross", "words"] ["text"] (defScope s_read) := scm rfl rfl rfl rfl (by decide +kernel)
theorem sc_names_in : FnScope ["words", "names"] ["words"] (defScope s_names_in) := scm rfl rfl rfl rfl (by decide +kernel)
theorem sc_is_name : FnScope ["word"] ["word"] (defScope s_is_name) := scm rfl rfl rfl rfl (by decide +kernel)
theorem sc_is_number : FnScope ["word", "figures"] ["word"] (defScope s_is_number) := scm rfl rfl rfl rfl (by decide +kernel)
theorem sc_is_made_of : FnScope ["word", "signs"] ["word", "signs"] (defScope s_is_made_of) := scm rfl rfl rfl rfl (by decide +kernel)
theorem sc_number_in : FnScope ["word"] ["word"] (defScope s_number_in) := scm rfl rfl rfl rfl (by decide +kernel)
theorem sc_option_in : FnScope ["names", "word"] ["names", "word"] (defScope s_option_in) := scm rfl rfl rfl rfl (by decide +kernel)
theorem sc_rising_in : FnScope ["names", "words", "options"] ["names", "words"] (defScope s_rising_in) := scm rfl rfl rfl rfl (by decide +kernel)
theorem sc_bough_in : FnScope ["names", "words", "up", "start", "kids", "bounds"] ["names", "words"] (defScope s_bough_in) := scm rfl rfl rfl rfl (by decide +kernel)
theorem sc_bounds_in : FnScope ["words", "many_kids"] ["words", "many_kids"] (defScope s_bounds_in) := scm rfl rfl rfl rfl (by decide +kernel)
theorem sc_words_of_bounds : FnScope ["low", "high", "many_kids"] ["low", "high", "many_kids"] (defScope s_words_of_bounds) := scm rfl rfl rfl rfl (by decide +kernel)
theorem sc_is_cross_line : FnScope ["words"] ["words"] (defScope s_is_cross_line) := scm rfl rfl rfl rfl (by decide +kernel)
theorem sc_cross_tie_in : FnScope ["names", "words"] ["names", "words"] (defScope s_cross_tie_in) := scm rfl rfl rfl rfl (by decide +kernel)
theorem sc_most_in : FnScope ["names", "words", "numbers", "options"] ["names", "words"] (defScope s_most_in) := scm rfl rfl rfl rfl (by decide +kernel)
theorem sc_shown : FnScope ["names", "wood", "lines", "up", "low", "high", "kids", "tie"] ["names", "wood"] (defScope s_shown) := scm rfl rfl rfl rfl (by decide +kernel)
theorem sc_words_of_cross_tie : FnScope ["names", "tie", "words", "k", "number"] ["names", "tie"] (defScope s_words_of_cross_tie) := scm rfl rfl rfl rfl (by decide +kernel)
theorem sc_show_set : FnScope ["names", "some"] ["names", "some"] (defScope s_show_set) := scm rfl rfl rfl rfl (by decide +kernel)
theorem sc_law_take : FnScope ["_law_state", "_law_most_here", "_law_at", "_law_script", "_law_mingled"] ["_law_state", "_law_most_here"] (defScope s_law_take) := scm rfl rfl rfl rfl (by decide +kernel)
theorem sc_law_bough : FnScope ["_law_state", "_law_up", "_law_kids", "_law_size", "_law_way", "_law_high"] ["_law_state", "_law_up", "_law_kids"] (defScope s_law_bough) := scm rfl rfl rfl rfl (by decide +kernel)
theorem sc_law_boughs : FnScope ["_law_state", "_law_many", "_law_groups", "_law_k", "_law_up", "_law_mates"] ["_law_state", "_law_many"] (defScope s_law_boughs) := scm rfl rfl rfl rfl (by decide +kernel)
theorem sc_law_most : FnScope ["_law_state", "_law_many", "_law_way", "_law_far", "_law_pairs", "_law_k"] ["_law_state", "_law_many"] (defScope s_law_most) := scm rfl rfl rfl rfl (by decide +kernel)
theorem sc_law_cross : FnScope ["_law_state", "_law_many", "_law_one", "_law_other"] ["_law_state", "_law_many"] (defScope s_law_cross) := scm rfl rfl rfl rfl (by decide +kernel)
theorem sc_law_wood : FnScope ["_law_state", "_law_many", "_law_boughs_here", "_law_count"] ["_law_state"] (defScope s_law_wood) := scm rfl rfl rfl rfl (by decide +kernel)
theorem sc_law_has : FnScope ["_law_some", "_law_k"] ["_law_some", "_law_k"] (defScope s_law_has) := scm rfl rfl rfl rfl (by decide +kernel)
theorem sc_law_names : FnScope ["_law_state", "_law_many", "_law_letters", "_law_turn", "_law_tail", "_law_names_here", "_law_way", "_law_whole", "_law_barred"] ["_law_state", "_law_many"] (defScope s_law_names) := scm rfl rfl rfl rfl (by decide +kernel)
theorem sc_law_figures : FnScope ["_law_number", "_law_text", "_law_rest"] ["_law_number"] (defScope s_law_figures) := scm rfl rfl rfl rfl (by decide +kernel)
theorem sc_law_bough_words : FnScope ["_law_bough_here", "_law_up", "_law_low", "_law_high", "_law_kids"] ["_law_bough_here"] (defScope s_law_bough_words) := scm rfl rfl rfl rfl (by decide +kernel)
theorem sc_law_lines : FnScope ["_law_names_here", "_law_wood_here", "_law_lines_here", "_law_bough_here", "_law_words", "_law_tie", "_law_k", "_law_number"] ["_law_names_here", "_law_wood_here"] (defScope s_law_lines) := scm rfl rfl rfl rfl (by decide +kernel)
theorem sc_law_kind : FnScope ["_law_found", "_law_due"] ["_law_found", "_law_due"] (defScope s_law_kind) := scm rfl rfl rfl rfl (by decide +kernel)
theorem sc_law_right : FnScope ["_law_text", "_law_names_here", "_law_wood_here", "_law_found", "_law_again"] ["_law_text", "_law_names_here", "_law_wood_here"] (defScope s_law_right) := scm rfl rfl rfl rfl (by decide +kernel)
theorem sc_law : FnScope ["_law_script", "_law_state", "_law_wood_here", "_law_names_here", "_law_handed", "_law_text", "_law_found", "_law_some", "_law_words", "_law_again"] ["_law_script"] (defScope s_law) := scm rfl rfl rfl rfl (by decide +kernel)
end Ow

namespace Ow
open PySem L2 Wd
section
variable {P : Program} {w : World} {K : PySem.W.Frag} {mg : Str → Option Value} {base : Heap} {a : Adr} {d : Fds}
def spHas : Sp := fun vs H Q _ => ∃ n k : Int, vs = [.int n, .int k] ∧ Q (.bl (hasV n k)) H
theorem ok_has (T : Txt K mg a d) : FnOk P w K mg base CX0 1 a.f_has d.f_has ["some", "k"] spHas := by
  refine T.K_has.ok sc_has (fun vs H Q E h => ?_) (fun cdv A outer s H vs Q E hr h => ?_)
  · obtain ⟨n, k, rfl, _⟩ := h
    rfl
  obtain ⟨n, k, rfl, q⟩ := h
  refine ⟨_, (pss_one (ps_ret (pe_and (pe_cmpR op_ge (pv 1) pe_int (nomark _)) (pe_one (pe_cmpR op_eq (pe_op op_and (pe_op op_shr (pv 0) (pv 1)) pe_int) pe_int (nomark _)))))), ?_⟩
  refine ⟨_, rfl, _, _, rfl, rfl, _, rfl, ?_⟩
  refine ite2 (fun c => ?_) (fun c => ?_)
  · have hk : (0 : Int) ≤ k := of_decide_eq_true c
    refine ⟨_, rfl, _, rfl, _, _, rfl, rfl, hk, _, _, rfl, rfl, rfl, ?_⟩
    have e : decide (V.int (Builtin.bitAnd (n / 2 ^ k.toNat) 1) = V.int 1) = hasV n k := by
      unfold hasV
      rw [decide_eq_true hk, Bool.true_and, dec_int, bitI]
      by_cases z : n / 2 ^ k.toNat % 2 = 1
      · rw [decide_eq_true z]
        simpa using z
      · rw [decide_eq_false z]
        simpa using z
    show Q (.bl (decide (V.int (Builtin.bitAnd (n / 2 ^ k.toNat) 1) = V.int 1))) H
    rw [e]
    exact q
  · have hk : ¬ (0 : Int) ≤ k := of_decide_eq_false (Bool.eq_false_iff.mpr c)
    have e : hasV n k = false := by
      unfold hasV
      rw [decide_eq_false hk, Bool.false_and]
    rw [e] at q
    exact q

end
section
variable {P : Program} {w : World} {K : PySem.W.Frag} {mg : Str → Option Value} {base : Heap} {a : Adr} {d : Fds}
theorem ok_options_of (T : Txt K mg a d) : FnOk P w K mg base CX0 2 a.f_options_of d.f_options_of ["some"] spBitsOf := by
  have G_has := ok_has (P := P) (w := w) (base := base) T
  refine T.K_options_of.ok sc_options_of (fun vs H Q E h => ?_) (fun cdv A outer s H vs Q E hr h => ?_)
  · obtain ⟨n, rfl, _⟩ := h
    rfl
  obtain ⟨n, rfl, n9, q⟩ := h
  have p62 : (2 : Int) ^ 62 = 4611686018427387904 := by decide
  have b9 := bits_le9 n9
  refine ⟨_, (pss_one (ps_ret (pe_lc (sc0 := defScope s_options_of) (XN := ["some"]) (N' := ["k", "some"]) (n := 1) (kp := [0]) rfl (pi_range1 rfl T.m_range (pa_cons (pe_bm0K (K := K) PySem.F.plainAttrs_int PySem.F.slot_int_bit_length PySem.F.type_int_bit_length mt_bits (pv 0)) pa_nil)) rfl rfl (by decide +kernel) (fun _ _ _ _ _ => (pg_name (i := 0) (by show List.Nodup (["k", "some"] : List Str); decide +kernel) rfl (Or.inl rfl))) (fun _ _ _ _ _ => (pts_one (pt_val (pe_callD G_has hr.lv rfl T.K_has (pa_cons (pv 1) (pa_cons (pv 0) pa_nil)))))) (fun _ _ _ _ _ => (pv 0))))), ?_⟩
  refine ⟨_, rfl, rfl, _, rfl, rfl, _, rfl, by rw [p62]; omega, by rw [p62]; omega, ?_⟩
  rw [Int.toNat_natCast]
  refine lc_range0 (k := Builtin.Int.intBits (n : Int)) (fun i zs σ H2 => (∃ v, σ = [v, some (.int (n : Int))]) ∧ H2 = H ∧ zs = natsL ((List.range i).filter fun k => n.testBit k)) ⟨⟨none, rfl⟩, rfl, rfl⟩ (fun i zs σ H2 hi pv => ?_) (fun i zs σ H2 hi pv => ?_) (fun zs σ H2 pv l hl => ?_)
  · obtain ⟨_, _, rfl⟩ := pv
    rw [List.length_map]
    refine small (Nat.le_trans (List.length_filter_le _ _) ?_)
    rw [List.length_range]
    omega
  · obtain ⟨⟨v, rfl⟩, rfl, rfl⟩ := pv
    have er : ∀ z, n.testBit i = z → (List.range (i + 1)).filter (fun k => n.testBit k) = (List.range i).filter (fun k => n.testBit k) ++ (if z = true then [i] else []) := fun z hz => by
      rw [List.range_succ, List.filter_append]
      congr 1
      cases z
      · rw [List.filter_cons_of_neg (by rw [hz]; exact Bool.false_ne_true)]; rfl
      · rw [List.filter_cons_of_pos (by exact hz)]; rfl
    refine ⟨_, rfl, _, rfl, _, _, rfl, _, rfl, ?_⟩
    rw [hasV_nat]
    refine ite2 (fun c => ?_) (fun c => ?_)
    · refine ⟨_, rfl, ⟨_, rfl⟩, rfl, ?_⟩
      rw [er true c, if_pos rfl, natsL_app]
      rfl
    · refine ⟨⟨_, rfl⟩, rfl, ?_⟩
      rw [er false (Bool.eq_false_iff.mpr c), if_neg Bool.false_ne_true, List.append_nil]
  obtain ⟨_, rfl, rfl⟩ := pv
  exact q l _ (same_new hl _) hl upd_same

end
section
variable {P : Program} {w : World} {K : PySem.W.Frag} {mg : Str → Option Value} {base : Heap} {a : Adr} {d : Fds}
theorem ok_is_tuple_of_length (T : Txt K mg a d) : FnOk P w K mg base CX0 1 a.f_is_tuple_of_length d.f_is_tuple_of_length ["thing", "length"] spTupLen := by
  refine T.K_is_tuple_of_length.ok sc_is_tuple_of_length (fun vs H Q E h => ?_) (fun cdv A outer s H vs Q E hr h => ?_)
  · obtain ⟨d, v, n, rfl, _⟩ := h
    rfl
  obtain ⟨d, v, n, rfl, hd, q⟩ := h
  refine ⟨_, (pss_one (ps_ret (pe_and (pe_callB (isiK (K := K)) rfl T.m_isinstance PyProof.Rows.boot_isinstance (pa_cons (pv 0) (pa_cons (pe_bltn (v := .ty "tuple") rfl T.m_tuple PyProof.Rows.boot_tuple rfl) pa_nil))) (pe_one (pe_cmpR op_eq (pe_callB (lenS (K := K)) rfl T.m_len PySem.boot_len (pa_cons (pv 0) pa_nil)) (pv 1) (nomark _)))))), ?_⟩
  refine ⟨_, rfl, _, _, _, _, rfl, dn_ty hd, ty_tup d, _, rfl, ?_⟩
  refine ite2 (fun c => ?_) (fun c => ?_)
  · obtain ⟨ds, rfl⟩ := isTup_tup c
    obtain ⟨p, xs, rfl, hp, hl⟩ := dn_tup hd
    refine ⟨_, rfl, p, _, rfl, .inr (sqT hp), _, rfl, rfl, ?_⟩
    have e : decide (V.int (xs.length : Nat) = V.int n) = tupLen (.tuple ds) n := by
      rw [dec_int, ← hl.length]
      show _ = decide ((ds.length : Int) = n)
      by_cases z : (ds.length : Int) = n
      · rw [decide_eq_true z]
        simpa using z
      · rw [decide_eq_false z]
        simpa using z
    show Q (.bl (decide (V.int (xs.length : Nat) = V.int n))) H
    rw [e]
    exact q
  · have e : tupLen d n = false := by
      cases d <;> first | rfl | exact absurd rfl c
    rw [e] at q
    exact q

end
section
variable {P : Program} {w : World} {K : PySem.W.Frag} {mg : Str → Option Value} {base : Heap} {a : Adr} {d : Fds}
theorem ok_is_whole (T : Txt K mg a d) : FnOk P w K mg base CX0 1 a.f_is_whole d.f_is_whole ["thing"] spWhole := by
  refine T.K_is_whole.ok sc_is_whole (fun vs H Q E h => ?_) (fun cdv A outer s H vs Q E hr h => ?_)
  · obtain ⟨d, v, rfl, _⟩ := h
    rfl
  obtain ⟨d, v, rfl, hd, q⟩ := h
  refine ⟨_, (pss_one (ps_ret (pe_and (pe_callB (isiK (K := K)) rfl T.m_isinstance PyProof.Rows.boot_isinstance (pa_cons (pv 0) (pa_cons (pe_bltn (v := .ty "int") rfl T.m_int PyProof.Rows.boot_int rfl) pa_nil))) (pe_one (pe_not (pe_callB (isiK (K := K)) rfl T.m_isinstance PyProof.Rows.boot_isinstance (pa_cons (pv 0) (pa_cons (pe_bltn (v := .ty "bool") rfl T.m_bool PyProof.Rows.boot_bool rfl) pa_nil)))))))), ?_⟩
  refine ⟨_, rfl, _, _, _, _, rfl, dn_ty hd, ty_int d, _, rfl, ?_⟩
  refine ite2 (fun c => ?_) (fun c => ?_)
  · refine ⟨_, rfl, _, _, _, _, rfl, dn_ty hd, ty_bool d, _, rfl, ?_⟩
    have e : (!isBool d) = isW d := by
      cases d <;> first | rfl | cases c
    rw [e]
    exact q
  · have e : isW d = false := by
      cases d <;> first | rfl | exact absurd rfl c
    rw [e] at q
    exact q

end
section
variable {P : Program} {w : World} {K : PySem.W.Frag} {mg : Str → Option Value} {base : Heap} {a : Adr} {d : Fds}
theorem ok_is_whole_within (T : Txt K mg a d) : FnOk P w K mg base CX0 2 a.f_is_whole_within d.f_is_whole_within ["thing", "least", "greatest"] spWithin := by
  have G_is_whole := ok_is_whole (P := P) (w := w) (base := base) T
  refine T.K_is_whole_within.ok sc_is_whole_within (fun vs H Q E h => ?_) (fun cdv A outer s H vs Q E hr h => ?_)
  · obtain ⟨d, v, lo, hi, rfl, _⟩ := h
    rfl
  obtain ⟨d, v, lo, hi, rfl, hd, q⟩ := h
  refine ⟨_, (pss_one (ps_ret (pe_and (pe_callD G_is_whole hr.lv rfl T.K_is_whole (pa_cons (pv 0) pa_nil)) (pe_one (pe_chain op_le op_le (pv 1) (pv 0) (pv 2)))))), ?_⟩
  refine ⟨_, rfl, d, v, rfl, hd, _, rfl, ?_⟩
  refine ite2 (fun c => ?_) (fun c => ?_)
  · obtain ⟨i, rfl⟩ := isW_int c
    cases dn_int hd
    refine ⟨_, rfl, _, rfl, _, _, rfl, rfl, _, rfl, ?_⟩
    refine ite2 (fun c2 => ?_) (fun c2 => ?_)
    · refine ⟨_, rfl, _, _, rfl, rfl, ?_⟩
      have e : within (.int i) lo hi = decide (i ≤ hi) := by
        show (decide (lo ≤ i) && decide (i ≤ hi)) = _
        rw [c2, Bool.true_and]
      rw [e] at q
      exact q
    · have e : within (.int i) lo hi = false := by
        show (decide (lo ≤ i) && decide (i ≤ hi)) = _
        rw [Bool.eq_false_iff.mpr c2, Bool.false_and]
      rw [e] at q
      exact q
  · have e : within d lo hi = false := by
      cases d <;> first | rfl | exact absurd rfl c
    rw [e] at q
    exact q

end
section
variable {P : Program} {w : World} {K : PySem.W.Frag} {mg : Str → Option Value} {base : Heap} {a : Adr} {d : Fds}
theorem ok_are_rising_options (T : Txt K mg a d) : FnOk P w K mg base CX0 3 a.f_are_rising_options d.f_are_rising_options ["many", "things", "floor"] (spRising K) := by
  have G_is_whole_within := ok_is_whole_within (P := P) (w := w) (base := base) T
  refine T.K_are_rising_options.ok sc_are_rising_options (fun vs H Q E h => ?_) (fun cdv A outer s H vs Q E hr h => ?_)
  · obtain ⟨many, floor, p, b, ds, xs, rfl, _⟩ := h
    rfl
  obtain ⟨many, floor, p, b, ds, xs, rfl, hq, hl, q⟩ := h
  refine ⟨_, (pss_cons (ps_set (i := 3) sc_are_rising_options.nd rfl (Or.inl rfl) (pv 2))
      (pss_cons (ps_for PassesOwn.never rfl (pi_seq (pv 1)) (pg_name (i := 4) sc_are_rising_options.nd rfl (Or.inl rfl)) (pss_cons (ps_if (pt_not (pt_val (pe_callD G_is_whole_within hr.lv rfl T.K_is_whole_within (pa_cons (pv 4) (pa_cons (pe_op op_add (pv 3) pe_int) (pa_cons (pe_op op_sub (pv 0) pe_int) pa_nil)))))) (pss_one (ps_ret pe_bl)) pss_nil)
      (pss_one (ps_set (i := 3) sc_are_rising_options.nd rfl (Or.inl rfl) (pv 4)))))
      (pss_one (ps_ret pe_bl)))), ?_⟩
  refine ⟨_, rfl, ?_⟩
  have fin : ∀ (last : Int), rising many (ds.drop xs.length) last = true := fun last => by
    rw [← hl.length, List.drop_length]
    rfl
  cases b with
  | false =>
    refine ⟨_, rfl, p, rfl, .inl ⟨⟨xs, hq⟩, for_list (K := K) (a := p) (xs := xs) (rPv many floor p ds H) ⟨⟨floor, none, rfl, rfl⟩, rfl⟩ (fun i σ H2 _ z => by rw [z.2]; exact hq) ?_ ?_⟩⟩
    · rintro i x σ H2 hx ⟨⟨last, v, rfl, hri⟩, rfl⟩
      obtain ⟨e, he, hd⟩ := hl.get hx
      rw [rising_at he] at hri
      refine ⟨_, rfl, _, rfl, _, _, rfl, rfl, _, rfl, _, _, rfl, rfl, e, x, _, _, rfl, hd, _, rfl, ?_⟩
      refine ite2 (fun c => ?_) (fun c => ?_)
      · have z : within e (last + 1) (many - 1) = false := by simpa using c
        rw [z, Bool.false_and] at hri
        rw [← hri] at q
        exact q
      · have z : within e (last + 1) (many - 1) = true := by simpa using c
        rw [z, Bool.true_and] at hri
        cases e with
        | int j =>
          cases dn_int hd
          exact ⟨_, rfl, ⟨j, _, rfl, hri⟩, rfl⟩
        | _ => cases z
    · rintro σ H2 ⟨⟨last, v, rfl, hri⟩, rfl⟩
      rw [fin last] at hri
      rw [← hri] at q
      exact q
  | true =>
    refine ⟨_, rfl, p, rfl, .inr ⟨⟨xs, hq⟩, for_tup (K := K) (a := p) (xs := xs) (rPv many floor p ds H) ⟨⟨floor, none, rfl, rfl⟩, rfl⟩ (fun i σ H2 _ z => by rw [z.2]; exact hq) ?_ ?_⟩⟩
    · rintro i x σ H2 hx ⟨⟨last, v, rfl, hri⟩, rfl⟩
      obtain ⟨e, he, hd⟩ := hl.get hx
      rw [rising_at he] at hri
      refine ⟨_, rfl, _, rfl, _, _, rfl, rfl, _, rfl, _, _, rfl, rfl, e, x, _, _, rfl, hd, _, rfl, ?_⟩
      refine ite2 (fun c => ?_) (fun c => ?_)
      · have z : within e (last + 1) (many - 1) = false := by simpa using c
        rw [z, Bool.false_and] at hri
        rw [← hri] at q
        exact q
      · have z : within e (last + 1) (many - 1) = true := by simpa using c
        rw [z, Bool.true_and] at hri
        cases e with
        | int j =>
          cases dn_int hd
          exact ⟨_, rfl, ⟨j, _, rfl, hri⟩, rfl⟩
        | _ => cases z
    · rintro σ H2 ⟨⟨last, v, rfl, hri⟩, rfl⟩
      rw [fin last] at hri
      rw [← hri] at q
      exact q

end
section
variable {P : Program} {w : World} {K : PySem.W.Frag} {mg : Str → Option Value} {base : Heap} {a : Adr} {d : Fds}
theorem ok_is_option (T : Txt K mg a d) : FnOk P w K mg base CX0 3 a.f_is_option d.f_is_option ["many", "thing"] spOption := by
  have G_is_whole_within := ok_is_whole_within (P := P) (w := w) (base := base) T
  refine T.K_is_option.ok sc_is_option (fun vs H Q E h => ?_) (fun cdv A outer s H vs Q E hr h => ?_)
  · obtain ⟨d, v, many, rfl, _⟩ := h
    rfl
  obtain ⟨d, v, many, rfl, hd, q⟩ := h
  refine ⟨_, (pss_one (ps_ret (pe_callD G_is_whole_within hr.lv rfl T.K_is_whole_within (pa_cons (pv 1) (pa_cons pe_int (pa_cons (pe_op op_sub (pv 0) pe_int) pa_nil)))))), ?_⟩
  exact ⟨_, rfl, _, rfl, _, _, rfl, rfl, d, v, _, _, rfl, hd, q⟩

end
section
variable {P : Program} {w : World} {K : PySem.W.Frag} {mg : Str → Option Value} {base : Heap} {a : Adr} {d : Fds}
theorem ok_is_filled_tuple (T : Txt K mg a d) : FnOk P w K mg base CX0 1 a.f_is_filled_tuple d.f_is_filled_tuple ["thing"] spFull := by
  refine T.K_is_filled_tuple.ok sc_is_filled_tuple (fun vs H Q E h => ?_) (fun cdv A outer s H vs Q E hr h => ?_)
  · obtain ⟨d, v, rfl, _⟩ := h
    rfl
  obtain ⟨d, v, rfl, hd, q⟩ := h
  refine ⟨_, (pss_one (ps_ret (pe_and (pe_callB (isiK (K := K)) rfl T.m_isinstance PyProof.Rows.boot_isinstance (pa_cons (pv 0) (pa_cons (pe_bltn (v := .ty "tuple") rfl T.m_tuple PyProof.Rows.boot_tuple rfl) pa_nil))) (pe_one (pe_cmpR op_gt (pe_callB (lenS (K := K)) rfl T.m_len PySem.boot_len (pa_cons (pv 0) pa_nil)) pe_int (nomark _)))))), ?_⟩
  refine ⟨_, rfl, _, _, _, _, rfl, dn_ty hd, ty_tup d, _, rfl, ?_⟩
  refine ite2 (fun c => ?_) (fun c => ?_)
  · obtain ⟨ds, rfl⟩ := isTup_tup c
    obtain ⟨p, xs, rfl, hp, hl⟩ := dn_tup hd
    refine ⟨_, rfl, p, _, rfl, .inr (sqT hp), _, _, rfl, rfl, ?_⟩
    have e : decide ((0 : Int) < ((xs.length : Nat) : Int)) = tupFull (.tuple ds) := by
      rw [← hl.length]
      show _ = decide (0 < ds.length)
      by_cases z : 0 < ds.length
      · rw [decide_eq_true z, decide_eq_true (by omega)]
      · rw [decide_eq_false z, decide_eq_false (by omega)]
    show Q (.bl (decide ((0 : Int) < ((xs.length : Nat) : Int)))) H
    rw [e]
    exact q
  · have e : tupFull d = false := by
      cases d <;> first | rfl | exact absurd rfl c
    rw [e] at q
    exact q

end
section
variable {P : Program} {w : World} {K : PySem.W.Frag} {mg : Str → Option Value} {base : Heap} {a : Adr} {d : Fds}
theorem ok_is_bough (T : Txt K mg a d) : FnOk P w K mg base CX0 4 a.f_is_bough d.f_is_bough ["many", "bough"] spBough := by
  have G_is_option := ok_is_option (P := P) (w := w) (base := base) T
  have G_is_tuple_of_length := ok_is_tuple_of_length (P := P) (w := w) (base := base) T
  have G_is_filled_tuple := ok_is_filled_tuple (P := P) (w := w) (base := base) T
  have G_are_rising_options := ok_are_rising_options (P := P) (w := w) (base := base) T
  have G_is_whole_within := ok_is_whole_within (P := P) (w := w) (base := base) T
  refine T.K_is_bough.ok sc_is_bough (fun vs H Q E h => ?_) (fun cdv A outer s H vs Q E hr h => ?_)
  · obtain ⟨d, v, many, rfl, _⟩ := h
    rfl
  obtain ⟨d, v, many, rfl, hd, q⟩ := h
  refine ⟨_, (pss_cons (ps_if (pt_not (pt_val (pe_callD G_is_tuple_of_length hr.lv rfl T.K_is_tuple_of_length (pa_cons (pv 1) (pa_cons pe_int pa_nil))))) (pss_one (ps_ret pe_bl)) pss_nil)
      (pss_cons (ps_set (i := 2) sc_is_bough.nd rfl (Or.inl rfl) (pe_ix (ixT (K := K)) (pv 1) pe_int (fun _ _ => rfl)))
      (pss_cons (ps_set (i := 3) sc_is_bough.nd rfl (Or.inl rfl) (pe_ix (ixT (K := K)) (pv 1) pe_int (fun _ _ => rfl)))
      (pss_cons (ps_set (i := 4) sc_is_bough.nd rfl (Or.inl rfl) (pe_ix (ixT (K := K)) (pv 1) pe_int (fun _ _ => rfl)))
      (pss_cons (ps_if (PW.pt (pw_or (pt_not (pt_val (pe_callD G_is_option hr.lv rfl T.K_is_option (pa_cons (pv 0) (pa_cons (pv 2) pa_nil))))) (pw_or1 (pt_not (pt_val (pe_callD G_is_filled_tuple hr.lv rfl T.K_is_filled_tuple (pa_cons (pv 4) pa_nil))))))) (pss_one (ps_ret pe_bl)) pss_nil)
      (pss_cons (ps_if (pt_not (pt_val (pe_callD G_are_rising_options hr.lv rfl T.K_are_rising_options (pa_cons (pv 0) (pa_cons (pv 4) (pa_cons (pv 2) pa_nil)))))) (pss_one (ps_ret pe_bl)) pss_nil)
      (pss_one (ps_ret (pe_and (pe_callD G_is_whole_within hr.lv rfl T.K_is_whole_within (pa_cons (pv 3) (pa_cons pe_int (pa_cons (pe_callB (lenS (K := K)) rfl T.m_len PySem.boot_len (pa_cons (pv 4) pa_nil)) pa_nil)))) (pe_one (pe_callD G_is_whole_within hr.lv rfl T.K_is_whole_within (pa_cons (pe_ix (ixT (K := K)) (pv 1) pe_int (fun _ _ => rfl)) (pa_cons pe_int (pa_cons (pv 3) pa_nil)))))))))))))), ?_⟩
  refine ⟨_, rfl, d, v, 4, rfl, hd, _, rfl, ?_⟩
  refine ite2 (fun c => ?_) (fun c => ?_)
  · have z : tupLen d 4 = false := by simpa using c
    rw [noBough z] at q
    exact q
  have z : tupLen d (4 : Nat) = true := by simpa using c
  obtain ⟨ds, rfl, hlen⟩ := tupLen_tup z
  obtain ⟨u, l, h, k, rfl⟩ := four hlen
  obtain ⟨p, xs, rfl, hp, xu, r1, rfl, hu, xl, r2, rfl, hlo, xh, r3, rfl, hh, xk, r4, rfl, hk, hnil⟩ := dn_tup hd
  cases (show r4 = [] from hnil)
  refine ⟨_, rfl, p, _, _, _, rfl, rfl, sqT hp, at0, ?_⟩
  refine ⟨_, rfl, p, _, _, _, rfl, rfl, sqT hp, at2, ?_⟩
  refine ⟨_, rfl, p, _, _, _, rfl, rfl, sqT hp, at3, ?_⟩
  have eb : isBough many (.tuple [u, l, h, k]) = (within u 0 (many - 1) && (tupFull k && (risK many u k && (highK h k && lowH l h)))) := rfl
  rw [eb] at q
  refine ⟨_, rfl, _, rfl, u, xu, many, rfl, hu, _, rfl, ?_⟩
  refine ite2 (fun c1 => ?_) (fun c1 => ?_)
  · have z1 : within u 0 (many - 1) = false := by simpa using c1
    rw [z1, Bool.false_and] at q
    exact q
  have z1 : within u 0 (many - 1) = true := by simpa using c1
  obtain ⟨up, rfl, u0, u1⟩ := within_int z1
  cases dn_int hu
  rw [z1, Bool.true_and] at q
  refine ⟨_, rfl, k, xk, rfl, hk, _, rfl, ?_⟩
  refine ite2 (fun c2 => ?_) (fun c2 => ?_)
  · have z2 : tupFull k = false := by simpa using c2
    rw [z2, Bool.false_and] at q
    exact q
  have z2 : tupFull k = true := by simpa using c2
  rw [z2, Bool.true_and] at q
  obtain ⟨ks, rfl, k0⟩ := tupFull_tup z2
  obtain ⟨pk, ys, rfl, hpk, hks⟩ := dn_tup hk
  refine ⟨_, rfl, _, rfl, _, rfl, many, up, pk, true, ks, ys, rfl, sqT hpk, hks, _, rfl, ?_⟩
  refine ite2 (fun c3 => ?_) (fun c3 => ?_)
  · have z3 : risK many (.int up) (.tuple ks) = false := by
      show rising many ks up = false
      simpa using c3
    rw [z3, Bool.false_and] at q
    exact q
  have z3 : risK many (.int up) (.tuple ks) = true := by
    show rising many ks up = true
    simpa using c3
  rw [z3, Bool.true_and] at q
  refine ⟨_, rfl, _, rfl, pk, _, rfl, .inr (sqT hpk), h, xh, _, _, rfl, hh, _, rfl, ?_⟩
  have e4 : highK h (.tuple ks) = within h 1 (ys.length : Nat) := by
    show within h 1 (ks.length : Nat) = _
    rw [hks.length]
  rw [e4] at q
  refine ite2 (fun c4 => ?_) (fun c4 => ?_)
  · rw [c4, Bool.true_and] at q
    obtain ⟨hi, rfl, h0, h1⟩ := within_int c4
    cases dn_int hh
    exact ⟨_, rfl, p, _, _, _, rfl, rfl, sqT hp, at1, _, rfl, l, xl, _, _, rfl, hlo, q⟩
  · rw [Bool.eq_false_iff.mpr c4, Bool.false_and] at q
    exact q

end
section
variable {P : Program} {w : World} {K : PySem.W.Frag} {mg : Str → Option Value} {base : Heap} {a : Adr} {d : Fds}
theorem ok_check_boughs (T : Txt K mg a d) : FnOk P w K mg base CX0 5 a.f_check_boughs d.f_check_boughs ["many", "boughs"] spCheckB := by
  have G_is_bough := ok_is_bough (P := P) (w := w) (base := base) T
  refine T.K_check_boughs.ok sc_check_boughs (fun vs H Q E h => ?_) (fun cdv A outer s H vs Q E hr h => ?_)
  · obtain ⟨many, p, xs, bs, rfl, _⟩ := h
    rfl
  obtain ⟨many, p, xs, bs, rfl, hp, hl, G, m1, m9, hb9, q⟩ := h
  refine ⟨_, (pss_cons (ps_set (i := 2) sc_check_boughs.nd rfl (Or.inl rfl) (pe_lst pa_nil))
      (pss_cons (ps_for PassesOwn.never rfl (pi_enum rfl T.m_enumerate (pa_cons (pv 1) pa_nil)) (pgT (K := K) (n := 2) rfl (pgs_cons (pg_name (i := 3) sc_check_boughs.nd rfl (Or.inl rfl)) (pgs_cons (pg_name (i := 4) sc_check_boughs.nd rfl (Or.inl rfl)) pgs_nil))) (pss_cons (ps_if (pt_not (pt_val (pe_callD G_is_bough hr.lv rfl T.K_is_bough (pa_cons (pv 0) (pa_cons (pv 4) pa_nil))))) (pss_one ps_never) pss_nil)
      (pss_one (ps_expr (pe_bmK (K := K) PySem.F.plainAttrs_list PySem.F.slot_list_extend PySem.F.type_list_extend mt_extendT (pv 2) (pa_cons (pe_ix (ixT (K := K)) (pv 4) pe_int (fun _ _ => rfl)) pa_nil))))))
      (pss_one (ps_if (pt_cmpR (op_ne_ints hr.units) (pe_callB call_sorted rfl T.m_sorted PyProof.Rows.boot_sorted (pa_cons (pv 2) pa_nil)) (pe_callTy (call_list_rng rfl) rfl T.m_list PyProof.Rows.boot_list (pa_cons (pe_callTy call_rng rfl T.m_range PyProof.Rows.boot_range (pa_cons pe_int (pa_cons (pv 0) pa_nil))) pa_nil)) (nomark _)) (pss_one ps_never) pss_nil)))), ?_⟩
  refine ⟨small (by decide), fun kl hkl => ?_⟩
  refine ⟨_, rfl, true, p, rfl, ⟨xs, sqT ((same_new hkl _) _ _ hp)⟩, ?_⟩
  refine for_enum (K := K) (b := true) (a := p) (xs := xs) (fun i σ H2 => (∃ v3 v4, σ = [some (.int many), some (.ref p), some (.ref kl), v3, v4]) ∧ Same H H2 ∧ H2 kl = some (.lst (((bs.take i).flatMap kidsOf).map V.int))) ⟨⟨none, none, rfl⟩, same_new hkl _, upd_same⟩ (fun i σ H2 _ z => sqT (z.2.1 _ _ hp)) ?_ ?_
  · rintro i x σ H2 hx ⟨⟨v3, v4, rfl⟩, sm, hk⟩ TT hT
    obtain ⟨b, hb, hd⟩ := hl.get hx
    have gb := G.each b (List.mem_of_getElem? hb)
    have sm2 : Same H (upd H2 TT (.tup [.int i, x])) := sm.trans (same_new hT _)
    have hk2 : upd H2 TT (.tup [.int i, x]) kl = some (.lst (((bs.take i).flatMap kidsOf).map V.int)) := (same_new hT _) _ _ hk
    refine ⟨TT, _, rfl, sqT upd_same, rfl, _, _, rfl, _, _, rfl, rfl, ?_⟩
    refine ⟨_, rfl, _, rfl, b, x, many, rfl, Dn.same sm2 _ _ hd, _, rfl, ?_⟩
    rw [gb]
    refine iteF ?_
    obtain ⟨pb, xu, xl, xh, pk, rfl, hpb, hpk⟩ := bough_kids gb (Dn.same sm2 _ _ hd)
    have fw := kids_few G m9 (i + 1)
    rw [flatMap_take hb, List.length_append] at fw
    refine ⟨_, rfl, .inl ⟨rfl, _, SqL.of hk2⟩, _, rfl, pb, _, _, _, rfl, rfl, sqT hpb, at3, kl, pk, _, _, rfl, rfl, hk2, hpk, ?_, ?_⟩
    · rw [List.length_map, List.length_map]
      exact small (by omega)
    · refine ⟨⟨_, _, rfl⟩, Wd.Same.put sm2 hkl hk2, ?_⟩
      · rw [upd_same, flatMap_take hb, List.map_append]
  · rintro σ H2 ⟨⟨v3, v4, rfl⟩, sm, hk⟩
    rw [← hl.length, List.take_length] at hk
    have fw := kids_few G m9 bs.length
    rw [List.take_length] at fw
    have p62 : (2 : Int) ^ 62 = 4611686018427387904 := by decide
    refine ⟨_, rfl, kl, _, rfl, SqL.of hk, by omega, fun ms pm ps l1 hl1 => ?_⟩
    have sm1 := sm.trans (same_new hl1 (.lst (ms.map V.int)))
    refine ⟨_, rfl, _, _, rfl, fun rp hrp => ?_⟩
    refine ⟨rp, 1, many, rfl, upd_same, by rw [p62]; omega, by rw [p62]; omega, by rw [p62]; omega, by rw [p62]; omega, by omega, fun l2 hl2 => ?_⟩
    have sm2 := (sm1.trans (same_new hrp (.rng 1 many))).trans (same_new hl2 (.lst ((List.range' 0 (many - 1).toNat).map fun i : Nat => V.int (1 + (i : Int)))))
    have e1 : ms = (List.range' 0 (many - 1).toNat).map fun i : Nat => (1 : Int) + i := PySem.W.ksm_same (pm.trans G.kids) ps (range_sorted 1 _ 0)
    have h1 : upd (upd (upd H2 l1 (.lst (ms.map V.int))) rp (.rng 1 many)) l2 (.lst ((List.range' 0 (many - 1).toNat).map fun i : Nat => V.int (1 + (i : Int)))) l1 = some (.lst (ms.map V.int)) := (same_new hl2 _) _ _ ((same_new hrp _) _ _ upd_same)
    refine ⟨l1, l2, ms, ms, rfl, rfl, SqL.of h1, ?_, _, rfl, ?_⟩
    · refine SqL.of ?_
      rw [upd_same, e1, List.map_map]
      rfl
    · refine iteNS rfl ?_
      exact q _ sm2

end
section
variable {P : Program} {w : World} {K : PySem.W.Frag} {mg : Str → Option Value} {base : Heap} {a : Adr} {d : Fds}
theorem ok_are_pairs (T : Txt K mg a d) : FnOk P w K mg base CX0 4 a.f_are_pairs d.f_are_pairs ["many", "pairs"] spPairs := by
  have G_is_tuple_of_length := ok_is_tuple_of_length (P := P) (w := w) (base := base) T
  have G_is_filled_tuple := ok_is_filled_tuple (P := P) (w := w) (base := base) T
  have G_are_rising_options := ok_are_rising_options (P := P) (w := w) (base := base) T
  have G_is_whole := ok_is_whole (P := P) (w := w) (base := base) T
  refine T.K_are_pairs.ok sc_are_pairs (fun vs H Q E h => ?_) (fun cdv A outer s H vs Q E hr h => ?_)
  · obtain ⟨d, v, many, rfl, _⟩ := h
    rfl
  obtain ⟨d, v, many, rfl, hd, hlen9, q⟩ := h
  refine ⟨_, (pss_cons (ps_if (pt_not (pt_val (pe_callD G_is_filled_tuple hr.lv rfl T.K_is_filled_tuple (pa_cons (pv 1) pa_nil)))) (pss_one (ps_ret pe_bl)) pss_nil)
      (pss_cons (ps_for PassesOwn.never rfl (piT (K := K) (pv 1)) (pg_name (i := 2) sc_are_pairs.nd rfl (Or.inl rfl)) (pss_one (ps_if (PW.pt (pw_or (pt_not (pt_val (pe_callD G_is_tuple_of_length hr.lv rfl T.K_is_tuple_of_length (pa_cons (pv 2) (pa_cons pe_int pa_nil))))) (pw_or1 (pt_not (pt_val (pe_callD G_is_whole hr.lv rfl T.K_is_whole (pa_cons (pe_ix (ixT (K := K)) (pv 2) pe_int (fun _ _ => rfl)) pa_nil))))))) (pss_one (ps_ret pe_bl)) pss_nil)))
      (pss_one (ps_ret (pe_callD G_are_rising_options hr.lv rfl T.K_are_rising_options (pa_cons (pv 0) (pa_cons (pe_lc (sc0 := defScope s_are_pairs) (XN := ["many", "pairs", "pair"]) (N' := ["pair"]) (n := 1) (kp := []) rfl (piT (K := K) (pv 1)) rfl rfl (by decide +kernel) (fun _ _ _ _ _ => (pg_name (i := 0) (by show List.Nodup (["pair"] : List Str); decide +kernel) rfl (Or.inl rfl))) (fun _ _ _ _ _ => pts_nil) (fun _ _ _ _ _ => (pe_ix (ixT (K := K)) (pv 0) pe_int (fun _ _ => rfl)))) (pa_cons (pe_un un_neg pe_int) pa_nil)))))))), ?_⟩
  refine ⟨_, rfl, d, v, rfl, hd, _, rfl, ?_⟩
  refine ite2 (fun c => ?_) (fun c => ?_)
  · have z : tupFull d = false := by simpa using c
    have e : arePairs many d = false := by
      cases d with
      | tuple ds =>
        show (decide (0 < ds.length) && ds.all pairOk && rising many (ds.map fstD) (-1)) = false
        rw [show decide (0 < ds.length) = false from z, Bool.false_and, Bool.false_and]
      | _ => rfl
    rw [e] at q
    exact q H (Same.refl H)
  have z : tupFull d = true := by simpa using c
  obtain ⟨ds, rfl, k0⟩ := tupFull_tup z
  obtain ⟨p, xs, rfl, hp, hl⟩ := dn_tup hd
  have e : arePairs many (.tuple ds) = (ds.all pairOk && rising many (ds.map fstD) (-1)) := by
    show (decide (0 < ds.length) && ds.all pairOk && rising many (ds.map fstD) (-1)) = _
    rw [show decide (0 < ds.length) = true from decide_eq_true k0, Bool.true_and]
  rw [e] at q
  refine ⟨_, rfl, p, rfl, ⟨xs, sqT hp⟩, for_tup (K := K) (a := p) (xs := xs) (fun i σ H2 => (∃ v, σ = [some (.int many), some (.ref p), v]) ∧ H2 = H ∧ (ds.take i).all pairOk = true) ⟨⟨none, rfl⟩, rfl, rfl⟩ (fun i σ H2 _ z => by rw [z.2.1]; exact sqT hp) ?_ ?_⟩
  · rintro i x σ H2 hx ⟨⟨v, rfl⟩, rfl, ha⟩
    obtain ⟨e1, he1, hd1⟩ := hl.get hx
    refine ⟨_, rfl, e1, x, 2, rfl, hd1, _, rfl, ?_⟩
    refine ite2 (fun c1 => ?_) (fun c1 => ?_)
    · have z1 : tupLen e1 2 = false := by simpa using c1
      rw [all_not he1 (noPair z1), Bool.false_and] at q
      exact q H2 (Same.refl H2)
    have z1 : tupLen e1 (2 : Nat) = true := by simpa using c1
    obtain ⟨es, rfl, hlen⟩ := tupLen_tup z1
    obtain ⟨o, n, rfl⟩ := two hlen
    obtain ⟨pp, ys, rfl, hpp, xo, r1, rfl, ho, xn, r2, rfl, hn, hnil⟩ := dn_tup hd1
    cases (show r2 = [] from hnil)
    refine ⟨_, rfl, pp, _, _, _, rfl, rfl, sqT hpp, at1, n, xn, rfl, hn, _, rfl, ?_⟩
    refine ite2 (fun c2 => ?_) (fun c2 => ?_)
    · have z2 : pairOk (.tuple [o, n]) = false := by
        show isW n = false
        simpa using c2
      rw [all_not he1 z2, Bool.false_and] at q
      exact q H2 (Same.refl H2)
    · have z2 : pairOk (.tuple [o, n]) = true := by
        show isW n = true
        simpa using c2
      exact ⟨⟨_, rfl⟩, rfl, take_all he1 ha z2⟩
  · rintro σ H2 ⟨⟨v, rfl⟩, rfl, ha⟩
    rw [← hl.length, List.take_length] at ha
    rw [ha, Bool.true_and] at q
    refine ⟨_, rfl, _, rfl, p, rfl, ⟨xs, sqT hp⟩, ?_⟩
    refine lc_tup (K := K) (a := p) (xs := xs) (fun i ys σ H3 => (∃ v, σ = [v]) ∧ H3 = H2 ∧ i ≤ xs.length ∧ DnL H2 ((ds.take i).map fstD) ys) ⟨⟨none, rfl⟩, rfl, Nat.zero_le _, rfl⟩ (fun i ys σ H3 hi pv => ?_) (fun i ys σ H3 hi pv => ?_) (fun i x ys σ H3 hx pv => ?_) (fun ys σ H3 pv l hl3 => ?_)
    · obtain ⟨_, _, h1, h2⟩ := pv
      have e1 := h2.length
      rw [List.length_map, List.length_take] at e1
      have e2 := hl.length
      have e3 : ds.length ≤ 1000 := hlen9
      exact small (by omega)
    · rw [pv.2.1]
      exact sqT hp
    · obtain ⟨⟨v, rfl⟩, rfl, h1, h2⟩ := pv
      obtain ⟨e1, he1, hd1⟩ := hl.get hx
      have po : pairOk e1 = true := by
        rw [List.all_eq_true] at ha
        exact ha e1 (List.mem_of_getElem? he1)
      cases e1 with
      | tuple es =>
        match es, po, hd1 with
        | [o, n], po, hd1 =>
          obtain ⟨pp, zs, rfl, hpp, xo, r1, rfl, ho, xn, r2, rfl, hn, hnil⟩ := dn_tup hd1
          refine ⟨_, rfl, pp, _, _, _, rfl, rfl, sqT hpp, at0, ⟨_, rfl⟩, rfl, (List.getElem?_eq_some_iff.mp hx).1, ?_⟩
          obtain ⟨hi, ee⟩ := List.getElem?_eq_some_iff.mp he1
          rw [List.take_succ_eq_append_getElem hi, List.map_append, ee]
          exact h2.append ⟨xo, [], rfl, ho, rfl⟩
      | _ => cases po
    · obtain ⟨_, rfl, _, h2⟩ := pv
      rw [← hl.length, List.take_length] at h2
      exact ⟨_, rfl, many, -1, l, false, ds.map fstD, ys, rfl, SqL.of upd_same, DnL.same (same_new hl3 _) _ _ h2, q _ (same_new hl3 _)⟩

end
section
variable {P : Program} {w : World} {K : PySem.W.Frag} {mg : Str → Option Value} {base : Heap} {a : Adr} {d : Fds}
theorem ok_is_cross_tie (T : Txt K mg a d) : FnOk P w K mg base CX0 5 a.f_is_cross_tie d.f_is_cross_tie ["many", "tie"] spTie := by
  have G_is_option := ok_is_option (P := P) (w := w) (base := base) T
  have G_is_tuple_of_length := ok_is_tuple_of_length (P := P) (w := w) (base := base) T
  have G_are_pairs := ok_are_pairs (P := P) (w := w) (base := base) T
  have G_is_whole := ok_is_whole (P := P) (w := w) (base := base) T
  refine T.K_is_cross_tie.ok sc_is_cross_tie (fun vs H Q E h => ?_) (fun cdv A outer s H vs Q E hr h => ?_)
  · obtain ⟨d, v, many, rfl, _⟩ := h
    rfl
  obtain ⟨d, v, many, rfl, hd, h3, q⟩ := h
  refine ⟨_, (pss_cons (ps_if (PW.pt (pw_or (pt_not (pt_val (pe_callD G_is_tuple_of_length hr.lv rfl T.K_is_tuple_of_length (pa_cons (pv 1) (pa_cons pe_int pa_nil))))) (pw_or1 (pt_not (pt_val (pe_callB (isiK (K := K)) rfl T.m_isinstance PyProof.Rows.boot_isinstance (pa_cons (pe_ix (ixT (K := K)) (pv 1) pe_int (fun _ _ => rfl)) (pa_cons (pe_bltn (v := .ty "str") rfl T.m_str PyProof.Rows.boot_str rfl) pa_nil)))))))) (pss_one (ps_ret pe_bl)) pss_nil)
      (pss_cons (ps_if (pt_cmpR op_eq (pe_ix (ixT (K := K)) (pv 1) pe_int (fun _ _ => rfl)) pe_str (nomark _)) (pss_one (ps_ret (pe_and (pe_callD G_is_whole hr.lv rfl T.K_is_whole (pa_cons (pe_ix (ixT (K := K)) (pv 1) pe_int (fun _ _ => rfl)) pa_nil)) (pe_one (pe_callD G_are_pairs hr.lv rfl T.K_are_pairs (pa_cons (pv 0) (pa_cons (pe_ix (ixT (K := K)) (pv 1) pe_int (fun _ _ => rfl)) pa_nil))))))) pss_nil)
      (pss_cons (ps_if (pt_cmpR op_notIn_seq (pe_ix (ixT (K := K)) (pv 1) pe_int (fun _ _ => rfl)) (pe_tup (pa_cons pe_str (pa_cons pe_str pa_nil))) (by with_unfolding_all rfl)) (pss_one (ps_ret pe_bl)) pss_nil)
      (pss_one (ps_ret (pe_and (pe_callD G_is_option hr.lv rfl T.K_is_option (pa_cons (pv 0) (pa_cons (pe_ix (ixT (K := K)) (pv 1) pe_int (fun _ _ => rfl)) pa_nil))) (pe_and (pe_callD G_is_option hr.lv rfl T.K_is_option (pa_cons (pv 0) (pa_cons (pe_ix (ixT (K := K)) (pv 1) pe_int (fun _ _ => rfl)) pa_nil))) (pe_one (pe_cmpR op_ne (pe_ix (ixT (K := K)) (pv 1) pe_int (fun _ _ => rfl)) (pe_ix (ixT (K := K)) (pv 1) pe_int (fun _ _ => rfl)) (nomark _)))))))))), ?_⟩
  refine ⟨_, rfl, d, v, 3, rfl, hd, _, rfl, ?_⟩
  refine ite2 (fun c => ?_) (fun c => ?_)
  · have z : tupLen d 3 = false := by simpa using c
    rw [noTie z] at q
    exact q H (Same.refl H)
  have z : tupLen d (3 : Nat) = true := by simpa using c
  obtain ⟨ds, rfl, hlen⟩ := tupLen_tup z
  obtain ⟨k, x, y, rfl⟩ := three hlen
  obtain ⟨p, xs, rfl, hp, xk, r1, rfl, hk, xx, r2, rfl, hx, xy, r3, rfl, hy, hnil⟩ := dn_tup hd
  cases (show r3 = [] from hnil)
  have q' : ∀ H', Same H H' → Q (.bl (tieD many x y k)) H' := q
  refine ⟨_, rfl, p, _, _, _, rfl, rfl, sqT hp, at0, _, _, _, _, rfl, dn_ty hk, ty_str k, _, rfl, ?_⟩
  refine ite2 (fun c1 => ?_) (fun c1 => ?_)
  · have z1 : tieD many x y k = false := by
      cases k with
      | str s => cases c1
      | _ => rfl
    rw [z1] at q'
    exact q' H (Same.refl H)
  obtain ⟨s, rfl⟩ : ∃ s, k = .str s := by
    cases k with
    | str s => exact ⟨s, rfl⟩
    | _ => exact absurd rfl c1
  cases (show xk = .str s from hk)
  have q2 : ∀ H', Same H H' → Q (.bl (tieK many s x y)) H' := q'
  unfold tieK at q2
  refine ⟨_, rfl, p, _, _, _, rfl, rfl, sqT hp, at0, rfl, _, rfl, ?_⟩
  refine ite2 (fun c2 => ?_) (fun c2 => ?_)
  · have e2 : s = ("most" : Str) := of_decide_eq_true ((dec_strs _ _).symm.trans c2)
    rw [if_pos e2] at q2
    refine ⟨_, rfl, p, _, _, _, rfl, rfl, sqT hp, at1, x, xx, rfl, hx, _, rfl, ?_⟩
    refine ite2 (fun c3 => ?_) (fun c3 => ?_)
    · rw [c3, Bool.true_and] at q2
      exact ⟨_, rfl, _, rfl, p, _, _, _, rfl, rfl, sqT hp, at2, y, xy, many, rfl, hy, h3, q2⟩
    · rw [Bool.eq_false_iff.mpr c3, Bool.false_and] at q2
      exact q2 H (Same.refl H)
  have e2 : ¬ s = ("most" : Str) := of_decide_eq_false ((dec_strs _ _).symm.trans (Bool.eq_false_iff.mpr c2))
  rw [if_neg e2] at q2
  refine ⟨_, rfl, p, _, _, _, rfl, rfl, sqT hp, at0, small (by show 2 ≤ 1000; decide), fun tp htp => ?_⟩
  refine ⟨tp, _, rfl, .inr (sqT upd_same), rfl, rfl, _, rfl, ?_⟩
  have sm := same_new htp (.tup [.str ("needs" : Str), .str ("bans" : Str)])
  have hp' : upd H tp (.tup [.str ("needs" : Str), .str ("bans" : Str)]) p = some (.tup [.str s, xx, xy]) := sm _ _ hp
  have ein : (if true = true then !inV (.str s) [.str ("needs" : Str), .str ("bans" : Str)] else inV (.str s) [.str ("needs" : Str), .str ("bans" : Str)]) = !decide (s = ("needs" : Str) ∨ s = ("bans" : Str)) := by
    show (!(((("needs" : Str) == s) || ((("bans" : Str) == s) || false)))) = _
    by_cases h1 : s = ("needs" : Str)
    · subst h1
      simp
    · by_cases h2 : s = ("bans" : Str)
      · subst h2
        simp
      · have g1 : ((("needs" : Str) == s) = false) := by
          rw [Bool.eq_false_iff]
          intro z
          exact h1 (eq_of_beq z).symm
        have g2 : ((("bans" : Str) == s) = false) := by
          rw [Bool.eq_false_iff]
          intro z
          exact h2 (eq_of_beq z).symm
        rw [g1, g2, decide_eq_false (by rintro (z | z) <;> contradiction)]
        rfl
  rw [ein]
  refine ite2 (fun c3 => ?_) (fun c3 => ?_)
  · have e3 : ¬ (s = ("needs" : Str) ∨ s = ("bans" : Str)) := by simpa using c3
    rw [if_neg e3] at q2
    exact q2 _ sm
  have e3 : s = ("needs" : Str) ∨ s = ("bans" : Str) := by
    by_cases z : s = ("needs" : Str) ∨ s = ("bans" : Str)
    · exact z
    · exact absurd (by rw [decide_eq_false z]; rfl) c3
  rw [if_pos e3] at q2
  refine ⟨_, rfl, _, rfl, p, _, _, _, rfl, rfl, sqT hp', at1, x, xx, many, rfl, Dn.same sm _ _ hx, _, rfl, ?_⟩
  refine ite2 (fun c4 => ?_) (fun c4 => ?_)
  · rw [c4, Bool.true_and] at q2
    refine ⟨_, rfl, _, rfl, p, _, _, _, rfl, rfl, sqT hp', at2, y, xy, many, rfl, Dn.same sm _ _ hy, _, rfl, ?_⟩
    refine ite2 (fun c5 => ?_) (fun c5 => ?_)
    · rw [c5, Bool.true_and] at q2
      obtain ⟨i, rfl, _⟩ := within_int c4
      obtain ⟨j, rfl, _⟩ := within_int c5
      cases dn_int hx
      cases dn_int hy
      refine ⟨_, rfl, p, _, _, _, rfl, rfl, sqT hp', at1, _, rfl, p, _, _, _, rfl, rfl, sqT hp', at2, rfl, ?_⟩
      have e5 : (!decide (V.int i = V.int j)) = neI (.int i) (.int j) := by
        show _ = !decide (i = j)
        rw [dec_int]
        by_cases z : i = j
        · rw [decide_eq_true z]
          simpa using z
        · rw [decide_eq_false z]
          simpa using z
      rw [e5]
      exact q2 _ sm
    · rw [Bool.eq_false_iff.mpr c5, Bool.false_and] at q2
      exact q2 _ sm
  · rw [Bool.eq_false_iff.mpr c4, Bool.false_and] at q2
    exact q2 _ sm

end
section
variable {P : Program} {w : World} {K : PySem.W.Frag} {mg : Str → Option Value} {base : Heap} {a : Adr} {d : Fds}
theorem ok_check_cross_ties (T : Txt K mg a d) : FnOk P w K mg base CX0 6 a.f_check_cross_ties d.f_check_cross_ties ["many", "cross"] spCheckC := by
  have G_is_cross_tie := ok_is_cross_tie (P := P) (w := w) (base := base) T
  obtain ⟨_, c_MOST_CROSS_TIES⟩ := T.c_MOST_CROSS_TIES
  refine T.K_check_cross_ties.ok sc_check_cross_ties (fun vs H Q E h => ?_) (fun cdv A outer s H vs Q E hr h => ?_)
  · obtain ⟨many, p, xs, bs, rfl, _⟩ := h
    rfl
  obtain ⟨many, p, xs, cs, rfl, hp, hl, G, h8, q⟩ := h
  refine ⟨_, (pss_cons (ps_if (pt_cmpR op_gt (pe_callB (lenS (K := K)) rfl T.m_len PySem.boot_len (pa_cons (pv 1) pa_nil)) (pe_glob (v := .int 8) rfl c_MOST_CROSS_TIES ⟨_, rfl⟩) (nomark _)) (pss_one ps_never) pss_nil)
      (pss_one (ps_for PassesOwn.never rfl (pi_enum rfl T.m_enumerate (pa_cons (pv 1) pa_nil)) (pgT (K := K) (n := 2) rfl (pgs_cons (pg_name (i := 2) sc_check_cross_ties.nd rfl (Or.inl rfl)) (pgs_cons (pg_name (i := 3) sc_check_cross_ties.nd rfl (Or.inl rfl)) pgs_nil))) (pss_one (ps_if (pt_not (pt_val (pe_callD G_is_cross_tie hr.lv rfl T.K_is_cross_tie (pa_cons (pv 0) (pa_cons (pv 3) pa_nil))))) (pss_one ps_never) pss_nil))))), ?_⟩
  refine ⟨_, rfl, p, _, rfl, .inr (sqT hp), _, _, rfl, rfl, _, rfl, ?_⟩
  have e8 : decide ((8 : Int) < ((xs.length : Nat) : Int)) = false := by
    rw [← hl.length]
    exact decide_eq_false (by omega)
  rw [e8]
  refine iteF ?_
  refine ⟨_, rfl, true, p, rfl, ⟨xs, sqT hp⟩, ?_⟩
  refine for_enum (K := K) (b := true) (a := p) (xs := xs) (fun i σ H2 => (∃ v2 v3, σ = [some (.int many), some (.ref p), v2, v3]) ∧ Same H H2) ⟨⟨none, none, rfl⟩, Same.refl H⟩ (fun i σ H2 _ z => sqT (z.2 _ _ hp)) ?_ ?_
  · rintro i x σ H2 hx ⟨⟨v2, v3, rfl⟩, sm⟩ TT hT
    obtain ⟨b, hb, hd⟩ := hl.get hx
    obtain ⟨gb, g3⟩ := G b (List.mem_of_getElem? hb)
    have sm2 : Same H (upd H2 TT (.tup [.int i, x])) := sm.trans (same_new hT _)
    refine ⟨TT, _, rfl, sqT upd_same, rfl, _, _, rfl, _, _, rfl, rfl, ?_⟩
    refine ⟨_, rfl, _, rfl, b, x, many, rfl, Dn.same sm2 _ _ hd, g3, fun H3 sm3 => ⟨_, rfl, ?_⟩⟩
    rw [gb]
    refine iteF ?_
    exact ⟨⟨_, _, rfl⟩, sm2.trans sm3⟩
  · rintro σ H2 ⟨⟨v2, v3, rfl⟩, sm⟩
    exact q H2 sm

end
section
variable {P : Program} {w : World} {K : PySem.W.Frag} {mg : Str → Option Value} {base : Heap} {a : Adr} {d : Fds}
theorem ok_wood_of (T : Txt K mg a d) : FnOk P w K mg base CX0 7 a.f_wood_of d.f_wood_of ["many", "boughs", "cross"] spWood := by
  have G_is_whole_within := ok_is_whole_within (P := P) (w := w) (base := base) T
  have G_check_boughs := ok_check_boughs (P := P) (w := w) (base := base) T
  have G_check_cross_ties := ok_check_cross_ties (P := P) (w := w) (base := base) T
  obtain ⟨_, c_MOST_OPTIONS⟩ := T.c_MOST_OPTIONS
  refine T.K_wood_of.ok sc_wood_of (fun vs H Q E h => ?_) (fun cdv A outer s H vs Q E hr h => ?_)
  · obtain ⟨many, p, r, xs, ys, bs, cs, rfl, _⟩ := h
    rfl
  obtain ⟨many, p, r, xs, ys, bs, cs, rfl, hp, hr', hl, hl2, G, m1, m9, b9, GT, c8, q⟩ := h
  refine ⟨_, (pss_cons (ps_if (pt_not (pt_val (pe_callD G_is_whole_within hr.lv rfl T.K_is_whole_within (pa_cons (pv 0) (pa_cons pe_int (pa_cons (pe_glob (v := .int 9) rfl c_MOST_OPTIONS ⟨_, rfl⟩) pa_nil)))))) (pss_one ps_never) pss_nil)
      (pss_cons (ps_if (pt_not (pt_val (pe_callB (isiK (K := K)) rfl T.m_isinstance PyProof.Rows.boot_isinstance (pa_cons (pv 1) (pa_cons (pe_bltn (v := .ty "list") rfl T.m_list PyProof.Rows.boot_list rfl) pa_nil))))) (pss_one ps_never) pss_nil)
      (pss_cons (ps_if (pt_not (pt_val (pe_callB (isiK (K := K)) rfl T.m_isinstance PyProof.Rows.boot_isinstance (pa_cons (pv 2) (pa_cons (pe_bltn (v := .ty "list") rfl T.m_list PyProof.Rows.boot_list rfl) pa_nil))))) (pss_one ps_never) pss_nil)
      (pss_cons (ps_set (i := 3) sc_wood_of.nd rfl (Or.inl rfl) (pe_tup (pa_cons (pv 0) (pa_cons (pe_callTy call_tuple_of rfl T.m_tuple PyProof.Rows.boot_tuple (pa_cons (pv 1) pa_nil)) (pa_cons (pe_callTy call_tuple_of rfl T.m_tuple PyProof.Rows.boot_tuple (pa_cons (pv 2) pa_nil)) pa_nil)))))
      (pss_cons (ps_expr (pe_callD G_check_boughs hr.lv rfl T.K_check_boughs (pa_cons (pv 0) (pa_cons (pe_ix (ixT (K := K)) (pv 3) pe_int (fun _ _ => rfl)) pa_nil))))
      (pss_cons (ps_expr (pe_callD G_check_cross_ties hr.lv rfl T.K_check_cross_ties (pa_cons (pv 0) (pa_cons (pe_ix (ixT (K := K)) (pv 3) pe_int (fun _ _ => rfl)) pa_nil))))
      (pss_one (ps_ret (pv 3))))))))), ?_⟩
  refine ⟨_, rfl, .int many, .int many, 1, 9, rfl, rfl, _, rfl, ?_⟩
  have ew : within (.int many) 1 9 = true := by
    show (decide (1 ≤ many) && decide (many ≤ 9)) = true
    rw [decide_eq_true m1, decide_eq_true m9]
    rfl
  rw [ew]
  refine iteF ?_
  refine ⟨_, rfl, _, _, _, _, rfl, .lst hp, isi_list_list, _, rfl, ?_⟩
  refine iteF ?_
  refine ⟨_, rfl, _, _, _, _, rfl, .lst hr', isi_list_list, _, rfl, ?_⟩
  refine iteF ?_
  refine ⟨_, rfl, _, rfl, p, xs, rfl, .inl ⟨SqL.of hp, fun tb htb => ?_⟩⟩
  have sm1 := same_new htb (.tup xs)
  refine ⟨_, rfl, r, ys, rfl, .inl ⟨SqL.of (sm1 _ _ hr'), fun tc htc => ?_⟩⟩
  have sm2 := sm1.trans (same_new htc (.tup ys))
  refine ⟨small (by show 3 ≤ 1000; decide), fun wd hwd => ?_⟩
  have sm3 := sm2.trans (same_new hwd (.tup [.int many, .ref tb, .ref tc]))
  have etb : upd (upd (upd H tb (.tup xs)) tc (.tup ys)) wd (.tup [.int many, .ref tb, .ref tc]) tb = some (.tup xs) := (same_new hwd _) _ _ ((same_new htc _) _ _ upd_same)
  have etc : upd (upd (upd H tb (.tup xs)) tc (.tup ys)) wd (.tup [.int many, .ref tb, .ref tc]) tc = some (.tup ys) := (same_new hwd _) _ _ upd_same
  refine ⟨_, rfl, _, rfl, wd, _, _, _, rfl, rfl, sqT upd_same, at1, many, tb, xs, bs, rfl, etb, DnL.same sm3 _ _ hl, G, m1, m9, b9, fun H4 sm4 => ?_⟩
  have ewd := sm4 _ _ (show upd (upd (upd H tb (.tup xs)) tc (.tup ys)) wd (.tup [.int many, .ref tb, .ref tc]) wd = some (.tup [.int many, .ref tb, .ref tc]) from upd_same)
  refine ⟨_, rfl, _, rfl, wd, _, _, _, rfl, rfl, sqT ewd, at2, many, tc, ys, cs, rfl, sm4 _ _ etc, DnL.same (sm3.trans sm4) _ _ hl2, GT, c8, fun H5 sm5 => ?_⟩
  exact ⟨_, rfl, q wd tb tc H5 (sm3.trans (sm4.trans sm5)) (sm5 _ _ ewd) (sm5 _ _ (sm4 _ _ etb)) (sm5 _ _ (sm4 _ _ etc))⟩

end
section
variable {P : Program} {w : World} {K : PySem.W.Frag} {mg : Str → Option Value} {base : Heap} {a : Adr} {d : Fds}
theorem ok_is_made_of (T : Txt K mg a d) : FnOk P w K mg base CX0 1 a.f_is_made_of d.f_is_made_of ["word", "signs"] spMade := by
  refine T.K_is_made_of.ok sc_is_made_of (fun vs H Q E h => ?_) (fun cdv A outer s H vs Q E hr h => ?_)
  · obtain ⟨z, y, rfl, _⟩ := h
    rfl
  obtain ⟨z, y, rfl, hz, q⟩ := h
  refine ⟨_, (pss_one (ps_ret (pe_callB (call_all_bl rfl) rfl T.m_all PyProof.Rows.boot_all (pa_cons (pe_lc (sc0 := defScope s_is_made_of) (XN := ["word", "signs"]) (N' := ["sign", "signs"]) (n := 1) (kp := [1]) rfl (pi_str (pv 0)) rfl rfl (by decide +kernel) (fun _ _ _ _ _ => (pg_name (i := 0) (by show List.Nodup (["sign", "signs"] : List Str); decide +kernel) rfl (Or.inl rfl))) (fun _ _ _ _ _ => pts_nil) (fun _ _ _ _ _ => (pe_cmpR op_in_str (pv 0) (pv 1) (by with_unfolding_all rfl)))) pa_nil)))), ?_⟩
  refine ⟨_, rfl, z, rfl, hz.1, ?_⟩
  refine lc_str (x := z) (fun i ys σ H2 => (∃ v, σ = [v, some (.str y)]) ∧ H2 = H ∧ ys = ((z.cps.toList.take i).map fun c => inT c y).map V.bl) ⟨⟨none, rfl⟩, rfl, rfl⟩ (fun i ys σ H2 hi pv => ?_) (fun i c ys σ H2 hc pv => ?_) (fun ys σ H2 pv p hp => ?_)
  · obtain ⟨_, _, rfl⟩ := pv
    rw [List.length_map, List.length_map, List.length_take]
    exact small (Nat.le_trans (Nat.min_le_left _ _) (Nat.le_trans hi hz.2))
  · obtain ⟨⟨v, rfl⟩, rfl, rfl⟩ := pv
    refine ⟨_, rfl, _, rfl, _, _, rfl, rfl, ⟨_, rfl⟩, rfl, ?_⟩
    rw [List.take_succ, show z.cps.toList[i]? = some c from by rw [Array.getElem?_toList]; exact hc, List.map_append, List.map_append]
    rfl
  · obtain ⟨_, rfl, rfl⟩ := pv
    refine ⟨p, _, rfl, SqL.of upd_same, ?_⟩
    rw [show (z.cps.toList.take z.cps.size) = z.cps.toList from by rw [← Array.length_toList, List.take_length], List.all_map]
    exact q _ (same_new hp _)

end
section
variable {P : Program} {w : World} {K : PySem.W.Frag} {mg : Str → Option Value} {base : Heap} {a : Adr} {d : Fds}
theorem ok_is_name (T : Txt K mg a d) : FnOk P w K mg base CX0 2 a.f_is_name d.f_is_name ["word"] spName := by
  have G_is_made_of := ok_is_made_of (P := P) (w := w) (base := base) T
  obtain ⟨_, c_LONGEST_NAME⟩ := T.c_LONGEST_NAME
  obtain ⟨_, c_LETTERS⟩ := T.c_LETTERS
  refine T.K_is_name.ok sc_is_name (fun vs H Q E h => ?_) (fun cdv A outer s H vs Q E hr h => ?_)
  · obtain ⟨z, rfl, _⟩ := h
    rfl
  obtain ⟨z, rfl, hz, q⟩ := h
  have zl : z.length ≤ sizeLine := small hz.2
  refine ⟨_, (pss_one (ps_ret (pe_and (pe_chain op_le op_le pe_int (pe_callB call_len_str rfl T.m_len PySem.boot_len (pa_cons (pv 0) pa_nil)) (pe_glob (v := .int 8) rfl c_LONGEST_NAME ⟨_, rfl⟩)) (pe_and (pe_callD G_is_made_of hr.lv rfl T.K_is_made_of (pa_cons (pv 0) (pa_cons (pe_glob (v := .str "abcdefghijklmnopqrstuvwxyz") rfl c_LETTERS ⟨_, rfl⟩) pa_nil))) (pe_one (pe_cmpR op_notIn_seq (pv 0) (pe_glob (v := .ref a.x_NO_NAMES) rfl T.g_NO_NAMES rfl) (by with_unfolding_all rfl))))))), ?_⟩
  refine ⟨_, rfl, z, rfl, zl, _, _, rfl, rfl, _, rfl, ?_⟩
  refine ite2 (fun c1 => ?_) (fun c1 => ?_)
  · have c1' : (1 : Int) ≤ z.length := of_decide_eq_true c1
    refine ⟨_, _, rfl, rfl, _, rfl, ?_⟩
    refine ite2 (fun c2 => ?_) (fun c2 => ?_)
    · have c2' : (z.length : Int) ≤ 8 := of_decide_eq_true c2
      have e : isName z = (madeOf z lettersT && !noNames.contains z) := by
        unfold isName
        rw [decide_eq_true (by omega), Bool.true_and]
      rw [e] at q
      refine ⟨_, rfl, z, _, rfl, hz, fun H' sm => ⟨_, rfl, ?_⟩⟩
      refine ite2 (fun c3 => ?_) (fun c3 => ?_)
      · have c3' : madeOf z lettersT = true := c3
        rw [c3', Bool.true_and] at q
        refine ⟨_, rfl, a.x_NO_NAMES, strsL noNames, rfl, .inr (kTup_sq T.q_NO_NAMES H'), rfl, flat_strs _, ?_⟩
        rw [if_pos rfl, inV_strs]
        exact q H' sm
      · have c3' : madeOf z lettersT = false := Bool.eq_false_iff.mpr c3
        rw [c3', Bool.false_and] at q
        exact q H' sm
    · have c2' : ¬ (z.length : Int) ≤ 8 := fun h => c2 (decide_eq_true h)
      have e : isName z = false := by
        unfold isName
        rw [decide_eq_false (by omega), Bool.false_and]
      rw [e] at q
      exact q H (Same.refl H)
  · have c1' : ¬ (1 : Int) ≤ z.length := fun h => c1 (decide_eq_true h)
    have e : isName z = false := by
      unfold isName
      rw [decide_eq_false (by omega), Bool.false_and]
    rw [e] at q
    refine ⟨_, rfl, iteF ?_⟩
    exact q H (Same.refl H)

end
section
variable {P : Program} {w : World} {K : PySem.W.Frag} {mg : Str → Option Value} {base : Heap} {a : Adr} {d : Fds}
theorem ok_names_in (T : Txt K mg a d) : FnOk P w K mg base CX0 3 a.f_names_in d.f_names_in ["words"] spNamesIn := by
  have G_is_name := ok_is_name (P := P) (w := w) (base := base) T
  refine T.K_names_in.ok sc_names_in (fun vs H Q E h => ?_) (fun cdv A outer s H vs Q E hr h => ?_)
  · obtain ⟨l, ns, rfl, _⟩ := h
    rfl
  obtain ⟨l, ns, rfl, hl, N, q⟩ := h
  have n9 := N.few
  refine ⟨_, (pss_cons (ps_set (i := 1) sc_names_in.nd rfl (Or.inl rfl) (pe_slice sl_list (pv 0) (po_some pe_int) po_none))
      (pss_cons (ps_if (PW.pt (pw_or (pt_cmpR op_ne (pe_ix (ixL (K := K)) (pv 0) pe_int (fun _ _ => rfl)) pe_str (nomark _)) (pw_or1 (pt_cmpR op_eq (pe_callB (lenS (K := K)) rfl T.m_len PySem.boot_len (pa_cons (pv 1) pa_nil)) pe_int (nomark _))))) (pss_one ps_never) pss_nil)
      (pss_cons (ps_if (PW.pt (pw_or (pt_not (pt_val (pe_callB (call_all_bl rfl) rfl T.m_all PyProof.Rows.boot_all (pa_cons (pe_lc (sc0 := defScope s_names_in) (XN := ["words", "names"]) (N' := ["name"]) (n := 1) (kp := []) rfl (piL (K := K) (pv 1)) rfl rfl (by decide +kernel) (fun _ _ _ _ _ => (pg_name (i := 0) (by show List.Nodup (["name"] : List Str); decide +kernel) rfl (Or.inl rfl))) (fun _ _ _ _ _ => pts_nil) (fun _ _ _ _ _ => (pe_callD G_is_name hr.lv rfl T.K_is_name (pa_cons (pv 0) pa_nil)))) pa_nil)))) (pw_or1 (pt_cmpR op_lt (pe_callB (call_lenS (P := P) (w := w)) rfl T.m_len PySem.boot_len (pa_cons (pe_callTy (call_setS (P := P) (w := w) rfl) rfl T.m_set PyProof.Rows.boot_set (pa_cons (pv 1) pa_nil)) pa_nil)) (pe_callB (lenS (K := K)) rfl T.m_len PySem.boot_len (pa_cons (pv 1) pa_nil)) (nomark _))))) (pss_one ps_never) pss_nil)
      (pss_one (ps_ret (pv 1)))))), ?_⟩
  refine ⟨_, rfl, _, rfl, l, _, rfl, SqL.of hl, fun p hp => ?_⟩
  rw [show cutV (strsL ("ware" :: ns)) (some 1) none = strsL ns from cut_from _ 1]
  have hl1 : (upd H p (.lst (strsL ns))) l = some (.lst (strsL ("ware" :: ns))) := by
    rw [upd_ne (ne_of_none hl hp)]
    exact hl
  refine ⟨_, rfl, l, _, _, _, rfl, rfl, SqL.of hl1, at0, rfl, _, rfl, ?_⟩
  rw [decide_eq_true rfl]
  refine iteF ?_
  refine ⟨_, rfl, p, _, rfl, .inl (SqL.of upd_same), rfl, _, rfl, ?_⟩
  rw [len_not0 N.ne (by rw [strsL, List.length_map])]
  refine iteF ?_
  have s1 := same_new hp (.lst (strsL ns))
  obtain ⟨H1, hH1⟩ : ∃ H1, H1 = upd H p (.lst (strsL ns)) := ⟨_, rfl⟩
  have hp1 : H1 p = some (.lst (strsL ns)) := by
    rw [hH1]
    exact upd_same
  rw [← hH1] at s1 ⊢
  refine ⟨_, rfl, p, rfl, ⟨_, SqL.of hp1⟩, ?_⟩
  refine lc_list (K := K) (a := p) (xs := strsL ns) (fun i ys σ H2 => (∃ v, σ = [v]) ∧ Same H1 H2 ∧ ys = ((ns.take i).map isName).map V.bl) ⟨⟨none, rfl⟩, Same.refl _, rfl⟩ (fun i ys σ H2 hi pv => ?_) (fun i ys σ H2 hi pv => ?_) (fun i x ys σ H2 hx pv => ?_) (fun ys σ H2 pv p2 hp2 => ?_)
  · obtain ⟨_, _, rfl⟩ := pv
    rw [List.length_map, List.length_map, List.length_take]
    exact small (by omega)
  · exact SqL.of (pv.2.1 _ _ hp1)
  · obtain ⟨⟨v, rfl⟩, sm, rfl⟩ := pv
    unfold strsL at hx
    rw [List.getElem?_map] at hx
    cases ek : ns[i]? with
    | none =>
      rw [ek] at hx
      cases hx
    | some z =>
      rw [ek] at hx
      cases hx
      refine ⟨_, rfl, z, rfl, N.plain z (List.mem_of_getElem? ek), fun H3 s3 => ⟨⟨_, rfl⟩, sm.trans s3, ?_⟩⟩
      rw [List.take_succ, ek, List.map_append, List.map_append]
      rfl
  · obtain ⟨_, sm, rfl⟩ := pv
    have s2 := s1.trans (sm.trans (same_new hp2 (.lst (((ns.take (strsL ns).length).map isName).map V.bl))))
    have hp3 : (upd H2 p2 (.lst (((ns.take (strsL ns).length).map isName).map V.bl))) p = some (.lst (strsL ns)) := (sm.trans (same_new hp2 _)) _ _ hp1
    refine ⟨p2, _, rfl, SqL.of upd_same, _, rfl, ?_⟩
    have ea : ((ns.take (strsL ns).length).map isName).all id = true := by
      rw [strsL, List.length_map, List.take_length, List.all_map, List.all_eq_true]
      exact N.name
    rw [ea]
    refine iteF ?_
    obtain ⟨H3, hH3⟩ : ∃ H3, H3 = upd H2 p2 (.lst (((ns.take (strsL ns).length).map isName).map V.bl)) := ⟨_, rfl⟩
    rw [← hH3] at s2 hp3 ⊢
    refine ⟨_, rfl, p, ns, rfl, SqL.of hp3, by omega, fun ks k1 k2 k3 ps hps => ?_⟩
    have hp4 : (upd H3 ps (sS P w ps ks)) p = some (.lst (strsL ns)) := by
      rw [upd_ne (ne_of_none hp3 hps)]
      exact hp3
    refine ⟨ps, ks, rfl, upd_same, _, rfl, p, _, rfl, .inl (SqL.of hp4), _, _, rfl, rfl, _, rfl, ?_⟩
    have el : decide (((ks.length : Nat) : Int) < (((strsL ns).length : Nat) : Int)) = false := by
      rw [strsL, List.length_map, nodup_len k1 N.nd k2]
      exact decide_eq_false (Int.lt_irrefl _)
    rw [el]
    refine iteF ?_
    exact ⟨_, rfl, q p _ (s2.trans (same_new hps _)) hp hp4⟩

end
section
variable {P : Program} {w : World} {K : PySem.W.Frag} {mg : Str → Option Value} {base : Heap} {a : Adr} {d : Fds}
theorem ok_is_cross_line (T : Txt K mg a d) : FnOk P w K mg base CX0 1 a.f_is_cross_line d.f_is_cross_line ["words"] spCrossLine := by
  refine T.K_is_cross_line.ok sc_is_cross_line (fun vs H Q E h => ?_) (fun cdv A outer s H vs Q E hr h => ?_)
  · obtain ⟨l, ws, rfl, _⟩ := h
    rfl
  obtain ⟨l, ws, rfl, hl, ne, q⟩ := h
  refine ⟨_, (pss_one (ps_ret (pe_or (pe_cmpR op_eq (pe_ix (ixL (K := K)) (pv 0) pe_int (fun _ _ => rfl)) pe_str (nomark _)) (pe_one (pe_and (pe_cmpR op_eq (pe_callB (lenS (K := K)) rfl T.m_len PySem.boot_len (pa_cons (pv 0) pa_nil)) pe_int (nomark _)) (pe_one (pe_cmpR (inS (K := K)) (pe_ix (ixL (K := K)) (pv 0) pe_int (fun _ _ => rfl)) (pe_tup (pa_cons pe_str (pa_cons pe_str pa_nil))) (by with_unfolding_all rfl)))))))), ?_⟩
  obtain ⟨w0, wr, rfl⟩ : ∃ w0 wr, ws = w0 :: wr := by
    cases ws with
    | nil => exact absurd rfl ne
    | cons x r => exact ⟨x, r, rfl⟩
  refine ⟨_, rfl, l, _, _, _, rfl, rfl, SqL.of hl, at0, rfl, _, rfl, ?_⟩
  refine ite2 (fun c => ?_) (fun c => ?_)
  · have e : w0 = "most" := by simpa using c
    subst e
    exact q H (Same.refl H)
  have e1 : ((w0 :: wr).head? == some ("most" : Str)) = false := by
    rw [List.head?_cons]
    refine beq_eq_false_iff_ne.mpr fun z => c ?_
    injection z with z
    subst z
    exact decide_eq_true rfl
  have eq : crossLine (w0 :: wr) = (decide ((w0 :: wr).length = 3) && (["needs", "bans"] : List Str).contains ((w0 :: wr).getD 1 "")) := by
    unfold crossLine
    rw [e1, Bool.false_or]
  rw [eq] at q
  refine ⟨_, rfl, l, _, rfl, .inl (SqL.of hl), rfl, _, rfl, ?_⟩
  have e2 : decide (V.int (((strsL (w0 :: wr)).length : Nat) : Int) = V.int 3) = decide ((w0 :: wr).length = 3) := by
    rw [strsL, List.length_map, Bool.eq_iff_iff, decide_eq_true_iff, decide_eq_true_iff]
    constructor
    · intro z
      injection z with z
      omega
    · intro z
      rw [z]
      rfl
  rw [e2]
  refine ite2 (fun c3 => ?_) (fun c3 => ?_)
  · rw [c3, Bool.true_and] at q
    have c4 : wr.length = 2 := by
      have := of_decide_eq_true c3
      rw [List.length_cons] at this
      omega
    obtain ⟨w1, w2, rfl⟩ : ∃ w1 w2, wr = [w1, w2] := by
      match wr, c4 with
      | [x, y], _ => exact ⟨x, y, rfl⟩
    refine ⟨_, rfl, l, _, _, _, rfl, rfl, SqL.of hl, at1, (by rw [sizeLine_eq]; show 2 ≤ _; decide), fun p hp => ?_⟩
    refine ⟨p, strsL ["needs", "bans"], rfl, .inr (SqT.of upd_same), rfl, rfl, ?_⟩
    rw [if_neg (by simp), inV_strs]
    exact q _ (same_new hp _)
  · rw [show decide ((w0 :: wr).length = 3) = false from by simpa using c3, Bool.false_and] at q
    exact q H (Same.refl H)

end
section
variable {P : Program} {w : World} {K : PySem.W.Frag} {mg : Str → Option Value} {base : Heap} {a : Adr} {d : Fds}
theorem ok_option_in (T : Txt K mg a d) : FnOk P w K mg base CX0 1 a.f_option_in d.f_option_in ["names", "word"] spOptIn := by
  refine T.K_option_in.ok sc_option_in (fun vs H Q E h => ?_) (fun cdv A outer s H vs Q E hr h => ?_)
  · obtain ⟨l, ns, z, rfl, _⟩ := h
    rfl
  obtain ⟨l, ns, z, rfl, hl, hz, few, q⟩ := h
  refine ⟨_, (pss_cons (ps_if (pt_cmpR op_notIn_seq (pv 1) (pv 0) (by with_unfolding_all rfl)) (pss_one ps_never) pss_nil)
      (pss_one (ps_ret (pe_bmK (K := K) PySem.F.plainAttrs_list PySem.F.slot_list_index PySem.F.type_list_index mt_index (pv 0) (pa_cons (pv 1) pa_nil))))), ?_⟩
  refine ⟨_, rfl, _, rfl, l, strsL ns, rfl, .inl (SqL.of hl), rfl, flat_strs ns, ?_⟩
  rw [inV_strs, show ns.contains z = true from List.contains_iff_mem.mpr hz]
  refine ⟨_, rfl, iteF ?_⟩
  refine ⟨_, rfl, ?_, _, rfl, l, strsL ns, .str z, ns.idxOf z, rfl, rfl, hl, rfl, flat_strs ns, ?_, fun i hi => ?_, q⟩
  · exact .inl ⟨rfl, _, SqL.of hl⟩
  · unfold strsL
    rw [List.getElem?_map, idx_get hz]
    exact congrArg some (beq_self_eq_true z)
  · unfold strsL
    have h1 := List.idxOf_lt_length_of_mem hz
    have h2 := List.getElem?_eq_getElem (l := ns) (i := i) (by omega)
    rw [List.getElem?_map, h2]
    exact congrArg some (beq_eq_false_iff_ne.mpr (idx_ne hi h2))

end
section
variable {P : Program} {w : World} {K : PySem.W.Frag} {mg : Str → Option Value} {base : Heap} {a : Adr} {d : Fds}
theorem ok_rising_in (T : Txt K mg a d) : FnOk P w K mg base CX0 2 a.f_rising_in d.f_rising_in ["names", "words"] spRiseIn := by
  have G_option_in := ok_option_in (P := P) (w := w) (base := base) T
  refine T.K_rising_in.ok sc_rising_in (fun vs H Q E h => ?_) (fun cdv A outer s H vs Q E hr h => ?_)
  · obtain ⟨l, lw, ns, ks, rfl, _⟩ := h
    rfl
  obtain ⟨l, lw, ns, ks, rfl, hl, hw, nd, n9, ne, rs, lt, q⟩ := h
  refine ⟨_, (pss_cons (ps_setLc (i := 2) sc_rising_in.nd rfl rfl rfl (sc0 := defScope s_rising_in) (XN := ["names", "words", "options"]) (N' := ["word", "names"]) (n := 1) (kp := [0]) rfl (piL (K := K) (pv 1)) rfl rfl (by decide +kernel) (fun _ _ _ _ _ => (pg_name (i := 0) (by show List.Nodup (["word", "names"] : List Str); decide +kernel) rfl (Or.inl rfl))) (fun _ _ _ _ _ => pts_nil) (fun _ _ _ _ _ => (pe_callD G_option_in hr.lv rfl T.K_option_in (pa_cons (pv 1) (pa_cons (pv 0) pa_nil)))))
      (pss_cons (ps_if (PW.pt (pw_or (pt_cmpR op_eq (pe_callB (lenS (K := K)) rfl T.m_len PySem.boot_len (pa_cons (pv 2) pa_nil)) pe_int (nomark _)) (pw_or1 (pt_cmpR (op_ne_ints hr.units) (pv 2) (pe_callB (call_sortedN (w := w) rfl) rfl T.m_sorted PyProof.Rows.boot_sorted (pa_cons (pe_callTy (call_setN (w := w) rfl) rfl T.m_set PyProof.Rows.boot_set (pa_cons (pv 2) pa_nil)) pa_nil)) (nomark _))))) (pss_one ps_never) pss_nil)
      (pss_one (ps_ret (pv 2))))), ?_⟩
  have k9 := len_range rs lt
  have kl : ks.length ≤ 1000 := by omega
  refine ⟨_, rfl, lw, rfl, ⟨_, SqL.of hw⟩, ?_⟩
  refine lc_list (K := K) (a := lw) (xs := strsL (ks.map (nameAt ns))) (fun i ys σ H2 => (∃ v, σ = [v, some (.ref l)]) ∧ H2 = H ∧ ys = natsL (ks.take i)) ⟨⟨none, rfl⟩, rfl, rfl⟩ (fun i ys σ H2 hi pv => ?_) (fun i ys σ H2 hi pv => ?_) (fun i x ys σ H2 hx pv => ?_) (fun ys σ H2 pv p hp => ?_)
  · obtain ⟨_, _, rfl⟩ := pv
    rw [List.length_map, List.length_take]
    exact small (Nat.le_trans (Nat.min_le_right _ _) kl)
  · obtain ⟨_, rfl, _⟩ := pv
    exact SqL.of hw
  · obtain ⟨⟨v, rfl⟩, rfl, rfl⟩ := pv
    unfold strsL at hx
    rw [List.getElem?_map, List.getElem?_map] at hx
    cases ek : ks[i]? with
    | none =>
      rw [ek] at hx
      cases hx
    | some k =>
      rw [ek] at hx
      cases hx
      obtain ⟨m1, m2⟩ := idx_at nd (lt k (List.mem_of_getElem? ek))
      refine ⟨_, rfl, _, rfl, l, ns, _, rfl, hl, m1, by omega, ⟨_, rfl⟩, rfl, ?_⟩
      rw [m2, List.take_succ, ek]
      unfold natsL
      rw [List.map_append]
      rfl
  · obtain ⟨_, rfl, rfl⟩ := pv
    rw [show (strsL (ks.map (nameAt ns))).length = ks.length from by rw [strsL, List.length_map, List.length_map], List.take_length]
    refine ⟨_, rfl, p, _, rfl, .inl (SqL.of upd_same), rfl, _, rfl, ?_⟩
    rw [len_not0 ne (by rw [natsL, List.length_map])]
    refine iteF ?_
    refine ⟨_, rfl, _, rfl, p, ks, rfl, SqL.of upd_same, fun v hv => by have := lt v hv; omega, kl, fun ps hps => ?_⟩
    refine ⟨ps, ks, rfl, upd_same, fun ms r1 r2 l' hl' => ?_⟩
    have em := rise_eq r1 rs r2
    subst em
    have n1 : p ≠ ps := ne_of_none upd_same hps
    have ap : (upd (upd H2 p (.lst (natsL ks))) ps (sN w ps ks)) p = some (.lst (natsL ks)) := by
      rw [upd_ne n1]
      exact upd_same
    have n2 : p ≠ l' := ne_of_none ap hl'
    refine ⟨p, l', ks.map (fun k : Nat => (k : Int)), _, rfl, rfl, SqL.of ?_, SqL.of upd_same, _, rfl, ?_⟩
    · rw [upd_ne n2, ap, nats_ints]
    rw [decide_eq_true rfl]
    refine iteF ?_
    exact ⟨_, rfl, q p _ ((same_new hp _).trans ((same_new hps _).trans (same_new hl' _))) hp (by rw [upd_ne n2]; exact ap)⟩

end
section
variable {P : Program} {w : World} {K : PySem.W.Frag} {mg : Str → Option Value} {base : Heap} {a : Adr} {d : Fds}
theorem zero_is (c : Nat) : decide (V.str ⟨#[c]⟩ = V.str "0") = decide (some c = some 48) := by
  rw [show ("0" : Str) = ⟨#[48]⟩ from rfl, Bool.eq_iff_iff, decide_eq_true_iff, decide_eq_true_iff]
  constructor
  · intro h
    injection h with h
    injection h with h
    simpa using h
  · intro h
    injection h with h
    rw [h]
theorem ok_is_number (T : Txt K mg a d) : FnOk P w K mg base CX0 2 a.f_is_number d.f_is_number ["word"] spNumber := by
  have G_is_made_of := ok_is_made_of (P := P) (w := w) (base := base) T
  obtain ⟨_, c_MOST_FIGURES⟩ := T.c_MOST_FIGURES
  obtain ⟨_, c_FIGURES⟩ := T.c_FIGURES
  refine T.K_is_number.ok sc_is_number (fun vs H Q E h => ?_) (fun cdv A outer s H vs Q E hr h => ?_)
  · obtain ⟨z, rfl, _⟩ := h
    rfl
  obtain ⟨z, rfl, hz, hf, q⟩ := h
  have zl : z.length ≤ sizeLine := small hz.2
  refine ⟨_, (pss_cons (ps_set (i := 1) sc_is_number.nd rfl (Or.inl rfl) (pe_ifExp (pt_val (pe_bmK (K := K) PySem.F.plainAttrs_str PySem.F.slot_str_startswith PySem.F.type_str_startswith mt_starts (pv 0) (pa_cons pe_str pa_nil))) (pe_slice sl_str (pv 0) (po_some pe_int) po_none) (pv 0)))
      (pss_cons (ps_if (PW.pt (pw_or (pt_not (pt_chain op_le op_le pe_int (pe_callB call_len_str rfl T.m_len PySem.boot_len (pa_cons (pv 1) pa_nil)) (pe_glob (v := .int 60) rfl c_MOST_FIGURES ⟨_, rfl⟩))) (pw_or1 (pt_not (pt_val (pe_callD G_is_made_of hr.lv rfl T.K_is_made_of (pa_cons (pv 1) (pa_cons (pe_glob (v := .str "0123456789") rfl c_FIGURES ⟨_, rfl⟩) pa_nil)))))))) (pss_one (ps_ret pe_bl)) pss_nil)
      (pss_one (ps_ret (pe_or (pe_cmpR op_eq (pv 0) pe_str (nomark _)) (pe_one (pe_cmpR op_ne (pe_ix ix_str (pv 1) pe_int (fun _ _ => rfl)) pe_str (nomark _)))))))), ?_⟩
  refine ⟨_, rfl, rfl, z, _, rfl, rfl, _, rfl, ?_⟩
  refine ite2 (fun c => ?_) (fun c => ?_)
  · have hfz : figs z = StrLaws.sliceText z (some 1) none := if_pos c
    refine ⟨_, rfl, _, rfl, z, rfl, zl, ?_⟩
    rw [hfz] at hf
    have fl : (StrLaws.sliceText z (some 1) none).length ≤ sizeLine := small hf.2
    have eN : isNum z = (decide (1 ≤ (StrLaws.sliceText z (some 1) none).length ∧ (StrLaws.sliceText z (some 1) none).length ≤ 60) && madeOf (StrLaws.sliceText z (some 1) none) figuresT && (decide (z = "0") || !decide ((StrLaws.sliceText z (some 1) none).cps.toList.head? = some 48))) := by
      unfold isNum
      rw [hfz]
    rw [eN] at q
    have no : ¬ (1 ≤ (StrLaws.sliceText z (some 1) none).length ∧ (StrLaws.sliceText z (some 1) none).length ≤ 60) → Q (.bl false) H := fun n => by
      rw [decide_eq_false n, Bool.false_and, Bool.false_and] at q
      exact q H (Same.refl H)
    refine ⟨_, rfl, StrLaws.sliceText z (some 1) none, rfl, fl, _, _, rfl, rfl, _, rfl, ?_⟩
    refine ite2 (fun c1 => ?_) (fun c1 => ?_)
    · have c1' : (1 : Int) ≤ (StrLaws.sliceText z (some 1) none).length := of_decide_eq_true c1
      refine ⟨_, _, rfl, rfl, _, rfl, ?_⟩
      refine ite2 (fun c2 => ?_) (fun c2 => ?_)
      · have c2' : ¬ ((StrLaws.sliceText z (some 1) none).length : Int) ≤ 60 := by
          have := (Bool.not_eq_true' _).mp c2
          exact of_decide_eq_false this
        exact iteT (no (by omega))
      have c2' : ((StrLaws.sliceText z (some 1) none).length : Int) ≤ 60 := by
        exact of_decide_eq_true ((Bool.not_eq_false' _).mp (Bool.eq_false_iff.mpr c2))
      rw [decide_eq_true (show 1 ≤ (StrLaws.sliceText z (some 1) none).length ∧ (StrLaws.sliceText z (some 1) none).length ≤ 60 by omega), Bool.true_and] at q
      refine ⟨_, rfl, StrLaws.sliceText z (some 1) none, _, rfl, hf, fun H' sm => ⟨_, rfl, ?_⟩⟩
      refine ite2 (fun c3 => ?_) (fun c3 => ?_)
      · have c3' : madeOf (StrLaws.sliceText z (some 1) none) figuresT = false := (Bool.not_eq_true' _).mp c3
        rw [c3', Bool.false_and] at q
        exact q H' sm
      have c3' : madeOf (StrLaws.sliceText z (some 1) none) figuresT = true := (Bool.not_eq_false' _).mp (Bool.eq_false_iff.mpr c3)
      rw [c3', Bool.true_and] at q
      refine ⟨_, rfl, rfl, _, rfl, ?_⟩
      refine ite2 (fun c4 => ?_) (fun c4 => ?_)
      · have c4' : z = "0" := by
          have := of_decide_eq_true c4
          injection this
        rw [decide_eq_true c4', Bool.true_or] at q
        exact q H' sm
      have c4' : ¬ z = "0" := fun e => c4 (decide_eq_true (by rw [e]))
      rw [decide_eq_false c4', Bool.false_or] at q
      obtain ⟨c0, cs, hc⟩ : ∃ c0 cs, (StrLaws.sliceText z (some 1) none).cps.toList = c0 :: cs := by
        cases e : (StrLaws.sliceText z (some 1) none).cps.toList with
        | nil =>
          have : (StrLaws.sliceText z (some 1) none).length = 0 := by
            show (StrLaws.sliceText z (some 1) none).cps.size = 0
            rw [← Array.length_toList, e]
            rfl
          omega
        | cons x r => exact ⟨x, r, rfl⟩
      refine ⟨_, rfl, StrLaws.sliceText z (some 1) none, 0, c0, rfl, rfl, fl, by rw [hc]; exact atI_nat (j := 0) rfl, rfl, ?_⟩
      rw [hc, List.head?_cons] at q
      rw [show decide (V.str ⟨#[c0]⟩ = V.str "0") = decide (some c0 = some 48) from zero_is c0]
      exact q H' sm
    · have c1' : ¬ (1 : Int) ≤ (StrLaws.sliceText z (some 1) none).length := fun h => c1 (decide_eq_true h)
      exact ⟨_, rfl, iteT (iteT (no (by omega)))⟩
  · have hfz : figs z = z := if_neg c
    refine ⟨_, rfl, ?_⟩
    rw [hfz] at hf
    have fl : (z).length ≤ sizeLine := small hf.2
    have eN : isNum z = (decide (1 ≤ (z).length ∧ (z).length ≤ 60) && madeOf (z) figuresT && (decide (z = "0") || !decide ((z).cps.toList.head? = some 48))) := by
      unfold isNum
      rw [hfz]
    rw [eN] at q
    have no : ¬ (1 ≤ (z).length ∧ (z).length ≤ 60) → Q (.bl false) H := fun n => by
      rw [decide_eq_false n, Bool.false_and, Bool.false_and] at q
      exact q H (Same.refl H)
    refine ⟨_, rfl, z, rfl, fl, _, _, rfl, rfl, _, rfl, ?_⟩
    refine ite2 (fun c1 => ?_) (fun c1 => ?_)
    · have c1' : (1 : Int) ≤ (z).length := of_decide_eq_true c1
      refine ⟨_, _, rfl, rfl, _, rfl, ?_⟩
      refine ite2 (fun c2 => ?_) (fun c2 => ?_)
      · have c2' : ¬ ((z).length : Int) ≤ 60 := by
          have := (Bool.not_eq_true' _).mp c2
          exact of_decide_eq_false this
        exact iteT (no (by omega))
      have c2' : ((z).length : Int) ≤ 60 := by
        exact of_decide_eq_true ((Bool.not_eq_false' _).mp (Bool.eq_false_iff.mpr c2))
      rw [decide_eq_true (show 1 ≤ (z).length ∧ (z).length ≤ 60 by omega), Bool.true_and] at q
      refine ⟨_, rfl, z, _, rfl, hf, fun H' sm => ⟨_, rfl, ?_⟩⟩
      refine ite2 (fun c3 => ?_) (fun c3 => ?_)
      · have c3' : madeOf (z) figuresT = false := (Bool.not_eq_true' _).mp c3
        rw [c3', Bool.false_and] at q
        exact q H' sm
      have c3' : madeOf (z) figuresT = true := (Bool.not_eq_false' _).mp (Bool.eq_false_iff.mpr c3)
      rw [c3', Bool.true_and] at q
      refine ⟨_, rfl, rfl, _, rfl, ?_⟩
      refine ite2 (fun c4 => ?_) (fun c4 => ?_)
      · have c4' : z = "0" := by
          have := of_decide_eq_true c4
          injection this
        rw [decide_eq_true c4', Bool.true_or] at q
        exact q H' sm
      have c4' : ¬ z = "0" := fun e => c4 (decide_eq_true (by rw [e]))
      rw [decide_eq_false c4', Bool.false_or] at q
      obtain ⟨c0, cs, hc⟩ : ∃ c0 cs, (z).cps.toList = c0 :: cs := by
        cases e : (z).cps.toList with
        | nil =>
          have : (z).length = 0 := by
            show (z).cps.size = 0
            rw [← Array.length_toList, e]
            rfl
          omega
        | cons x r => exact ⟨x, r, rfl⟩
      refine ⟨_, rfl, z, 0, c0, rfl, rfl, fl, by rw [hc]; exact atI_nat (j := 0) rfl, rfl, ?_⟩
      rw [hc, List.head?_cons] at q
      rw [show decide (V.str ⟨#[c0]⟩ = V.str "0") = decide (some c0 = some 48) from zero_is c0]
      exact q H' sm
    · have c1' : ¬ (1 : Int) ≤ (z).length := fun h => c1 (decide_eq_true h)
      exact ⟨_, rfl, iteT (iteT (no (by omega)))⟩

end
section
variable {P : Program} {w : World} {K : PySem.W.Frag} {mg : Str → Option Value} {base : Heap} {a : Adr} {d : Fds}
theorem ok_number_in (T : Txt K mg a d) : FnOk P w K mg base CX0 3 a.f_number_in d.f_number_in ["word"] spNumberIn := by
  have G_is_number := ok_is_number (P := P) (w := w) (base := base) T
  refine T.K_number_in.ok sc_number_in (fun vs H Q E h => ?_) (fun cdv A outer s H vs Q E hr h => ?_)
  · obtain ⟨z, n, rfl, _⟩ := h
    rfl
  obtain ⟨z, n, rfl, hz, hf, e, hn, l6, q⟩ := h
  refine ⟨_, (pss_cons (ps_if (pt_not (pt_val (pe_callD G_is_number hr.lv rfl T.K_is_number (pa_cons (pv 0) pa_nil)))) (pss_one ps_never) pss_nil)
      (pss_one (ps_ret (pe_callTy call_intS rfl T.m_int PyProof.Rows.boot_int (pa_cons (pv 0) pa_nil))))), ?_⟩
  refine ⟨_, rfl, z, rfl, hz, hf, fun H' sm => ⟨_, rfl, ?_⟩⟩
  rw [e]
  refine iteF ?_
  exact ⟨_, rfl, z, n, rfl, hn, l6, q H' sm⟩

end
section
variable {P : Program} {w : World} {K : PySem.W.Frag} {mg : Str → Option Value} {base : Heap} {a : Adr} {d : Fds}
theorem ok_most_in (T : Txt K mg a d) : FnOk P w K mg base CX0 4 a.f_most_in d.f_most_in ["names", "words"] spMostIn := by
  have G_number_in := ok_number_in (P := P) (w := w) (base := base) T
  have G_rising_in := ok_rising_in (P := P) (w := w) (base := base) T
  refine T.K_most_in.ok sc_most_in (fun vs H Q E h => ?_) (fun cdv A outer s H vs Q E hr h => ?_)
  · obtain ⟨l, lw, ns, top, ps, rfl, _⟩ := h
    rfl
  obtain ⟨l, lw, ns, top, ps, rfl, hl, hw, N, sm, ⟨ne, rs⟩, q⟩ := h
  obtain ⟨t60, l9, each⟩ := sm
  have n9 := N.few
  have p0 : 0 < ps.length := List.length_pos_iff.mpr ne
  have ml := most_len ns top ps
  refine ⟨_, (pss_cons (ps_if (PW.pt (pw_or (pt_cmpR op_lt (pe_callB (lenS (K := K)) rfl T.m_len PySem.boot_len (pa_cons (pv 1) pa_nil)) pe_int (nomark _)) (pw_or (pt_cmpR op_eq (pe_op op_mod (pe_callB (lenS (K := K)) rfl T.m_len PySem.boot_len (pa_cons (pv 1) pa_nil)) pe_int) pe_int (nomark _)) (pw_or1 (pt_cmpR op_ne (pe_ix (ixL (K := K)) (pv 1) pe_int (fun _ _ => rfl)) pe_str (nomark _)))))) (pss_one ps_never) pss_nil)
      (pss_cons (ps_setLc (i := 2) sc_most_in.nd rfl rfl rfl (sc0 := defScope s_most_in) (XN := ["names", "words", "numbers", "options"]) (N' := ["word"]) (n := 1) (kp := []) rfl (piL (K := K) (pe_step2 (pv 1) pe_int pe_int)) rfl rfl (by decide +kernel) (fun _ _ _ _ _ => (pg_name (i := 0) (by show List.Nodup (["word"] : List Str); decide +kernel) rfl (Or.inl rfl))) (fun _ _ _ _ _ => pts_nil) (fun _ _ _ _ _ => (pe_callD G_number_in hr.lv rfl T.K_number_in (pa_cons (pv 0) pa_nil))))
      (pss_cons (ps_set (i := 3) sc_most_in.nd rfl (Or.inl rfl) (pe_callD G_rising_in hr.lv rfl T.K_rising_in (pa_cons (pv 0) (pa_cons (pe_step2 (pv 1) pe_int pe_int) pa_nil))))
      (pss_one (ps_ret (pe_tup (pa_cons pe_str (pa_cons (pe_callD G_number_in hr.lv rfl T.K_number_in (pa_cons (pe_ix (ixL (K := K)) (pv 1) pe_int (fun _ _ => rfl)) pa_nil)) (pa_cons (pe_tupZip (K := K) rfl rfl T.m_tuple rfl T.m_zip (pa_cons (pv 3) (pa_cons (pv 2) pa_nil))) pa_nil))))))))), ?_⟩
  refine ⟨_, rfl, lw, _, rfl, .inl (SqL.of hw), _, _, rfl, rfl, _, rfl, ?_⟩
  rw [show decide ((((strsL (tieW ns (.most top ps))).length : Nat) : Int) < 5) = false from decide_eq_false (by rw [ml]; omega)]
  refine iteF ?_
  refine ⟨_, rfl, lw, _, rfl, .inl (SqL.of hw), _, _, rfl, rfl, ?_⟩
  refine ⟨(by decide : (0 : Int) < 2), rfl, _, rfl, ?_⟩
  rw [show decide (V.int ((((strsL (tieW ns (.most top ps))).length : Nat) : Int) % 2) = V.int 0) = false from decide_eq_false fun z => by
    injection z with z
    rw [ml] at z
    omega]
  refine iteF ?_
  refine ⟨_, rfl, lw, _, _, _, rfl, rfl, SqL.of hw, at2, rfl, _, rfl, ?_⟩
  rw [decide_eq_true rfl]
  refine iteF ?_
  refine ⟨_, rfl, lw, _, 3, rfl, rfl, rfl, hw, fun p1 hp1 => ?_⟩
  rw [most_nums]
  have s1 := same_new hp1 (.lst (strsL (ps.map fun p => numT p.2)))
  have a1 : (upd H p1 (.lst (strsL (ps.map fun p => numT p.2)))) p1 = some (.lst (strsL (ps.map fun p => numT p.2))) := upd_same
  generalize upd H p1 (.lst (strsL (ps.map fun p => numT p.2))) = H1 at s1 a1 ⊢
  refine ⟨p1, rfl, ⟨_, SqL.of a1⟩, ?_⟩
  refine lc_list (K := K) (a := p1) (xs := strsL (ps.map fun p => numT p.2)) (fun i ys σ H2 => (∃ v, σ = [v]) ∧ Same H1 H2 ∧ ys = (ps.take i).map fun p => V.int p.2) ⟨⟨none, rfl⟩, Same.refl _, rfl⟩ (fun i ys σ H2 hi pv => ?_) (fun i ys σ H2 hi pv => ?_) (fun i x ys σ H2 hx pv => ?_) (fun ys σ H2 pv p hp => ?_)
  · obtain ⟨_, _, rfl⟩ := pv
    rw [List.length_map, List.length_take]
    exact small (by omega)
  · exact SqL.of (pv.2.1 _ _ a1)
  · obtain ⟨⟨v, rfl⟩, sm, rfl⟩ := pv
    unfold strsL at hx
    rw [List.getElem?_map, List.getElem?_map] at hx
    cases ek : ps[i]? with
    | none =>
      rw [ek] at hx
      cases hx
    | some pr =>
      rw [ek] at hx
      cases hx
      obtain ⟨c1, c2, c3, c4, c5⟩ := num_ok (each pr (List.mem_of_getElem? ek)).2
      refine ⟨_, rfl, _, _, rfl, c1, c2, c3, c4, Nat.le_trans c5 (by decide), fun H3 s3 => ⟨⟨_, rfl⟩, sm.trans s3, ?_⟩⟩
      rw [List.take_succ, ek, List.map_append]
      rfl
  · obtain ⟨_, sm, rfl⟩ := pv
    rw [show (strsL (ps.map fun p => numT p.2)).length = ps.length from by rw [strsL, List.length_map, List.length_map], List.take_length]
    have s2 := s1.trans (sm.trans (same_new hp (.lst (ps.map fun p => V.int p.2))))
    have a2 : (upd H2 p (.lst (ps.map fun p => V.int p.2))) p = some (.lst (ps.map fun p => V.int p.2)) := upd_same
    generalize upd H2 p (.lst (ps.map fun p => V.int p.2)) = H3 at s2 a2 ⊢
    refine ⟨_, rfl, _, rfl, lw, _, 4, rfl, rfl, rfl, s2 _ _ hw, fun p3 hp3 => ?_⟩
    rw [most_opts]
    have s3' := same_new hp3 (.lst (strsL ((ps.map (·.1)).map (nameAt ns))))
    have s3 := s2.trans s3'
    have a3 : (upd H3 p3 (.lst (strsL ((ps.map (·.1)).map (nameAt ns))))) p3 = some (.lst (strsL ((ps.map (·.1)).map (nameAt ns)))) := upd_same
    have a3p := s3' _ _ a2
    generalize upd H3 p3 (.lst (strsL ((ps.map (·.1)).map (nameAt ns)))) = H4 at s3 a3 a3p ⊢
    refine ⟨l, p3, ns, ps.map (·.1), rfl, s3 _ _ hl, a3, N.nd, n9, fun z => ne (List.map_eq_nil_iff.mp z), rs, fun k hk => ?_, fun pk H5 s5 nk hk => ?_⟩
    · obtain ⟨pr, hpr, rfl⟩ := List.mem_map.mp hk
      exact (each pr hpr).1
    have s6 := s3.trans s5
    obtain ⟨c1, c2, c3, c4, c5⟩ := num_ok t60
    refine ⟨_, rfl, lw, _, _, _, rfl, rfl, SqL.of (s6 _ _ hw), at1, _, _, rfl, c1, c2, c3, c4, by omega, fun H6 s7 => ?_⟩
    have hk6 := s7 _ _ hk
    have ap6 := (s5.trans s7) _ _ a3p
    refine ⟨_, rfl, _, rfl, pk, p, _, _, rfl, SqL.of hk6, SqL.of ap6, by rw [natsL, List.length_map, List.length_map, List.length_map], fun t zs H7 s8 nt ht pv => ?_⟩
    refine ⟨small (by show 3 ≤ 1000; decide), fun z hz => ?_⟩
    have sz := same_new hz (.tup [.str ("most" : Str), .int top, .ref t])
    exact q _ _ (s6.trans (s7.trans (s8.trans sz))) ⟨z, _, rfl, upd_same, _, _, rfl, rfl, _, _, rfl, rfl, _, _, rfl, ⟨t, zs, rfl, sz _ _ ht, DnL.same sz _ _ (dn_pairs pv)⟩, rfl⟩

end
section
variable {P : Program} {w : World} {K : PySem.W.Frag} {mg : Str → Option Value} {base : Heap} {a : Adr} {d : Fds}
theorem ok_cross_tie_in (T : Txt K mg a d) : FnOk P w K mg base CX0 5 a.f_cross_tie_in d.f_cross_tie_in ["names", "words"] spTieIn := by
  have G_option_in := ok_option_in (P := P) (w := w) (base := base) T
  have G_most_in := ok_most_in (P := P) (w := w) (base := base) T
  refine T.K_cross_tie_in.ok sc_cross_tie_in (fun vs H Q E h => ?_) (fun cdv A outer s H vs Q E hr h => ?_)
  · obtain ⟨l, lw, ns, t, rfl, _⟩ := h
    rfl
  obtain ⟨l, lw, ns, t, rfl, hl, hw, N, ic, sm, ri, q⟩ := h
  have n9 := N.few
  have w3 : ∀ x y z : V, ([x, y, z] : List V).length ≤ sizeLine := fun x y z => by rw [sizeLine_eq]; show 3 ≤ _; decide
  refine ⟨_, (pss_cons (ps_if (pt_cmpR op_eq (pe_ix (ixL (K := K)) (pv 1) pe_int (fun _ _ => rfl)) pe_str (nomark _)) (pss_one (ps_ret (pe_callD G_most_in hr.lv rfl T.K_most_in (pa_cons (pv 0) (pa_cons (pv 1) pa_nil))))) pss_nil)
      (pss_one (ps_ret (pe_tup (pa_cons (pe_ix (ixL (K := K)) (pv 1) pe_int (fun _ _ => rfl)) (pa_cons (pe_callD G_option_in hr.lv rfl T.K_option_in (pa_cons (pv 0) (pa_cons (pe_ix (ixL (K := K)) (pv 1) pe_int (fun _ _ => rfl)) pa_nil))) (pa_cons (pe_callD G_option_in hr.lv rfl T.K_option_in (pa_cons (pv 0) (pa_cons (pe_ix (ixL (K := K)) (pv 1) pe_int (fun _ _ => rfl)) pa_nil))) pa_nil))))))), ?_⟩
  have two : (∃ (k : Str) (x y : Nat), x < ns.length ∧ y < ns.length ∧ H lw = some (.lst (strsL [nameAt ns x, k, nameAt ns y])) ∧ ∀ (v : V) (H' : Hp), Same H H' → Dn H' (.tuple [.str k, .int (x : Int), .int (y : Int)]) v → Q v H') ∨ ∃ top ps, t = .most top ps := by
    cases t with
    | bough u lo hi ks => cases ic
    | needs x y => exact .inl ⟨_, x, y, sm.1, sm.2, hw, q⟩
    | bans x y => exact .inl ⟨_, x, y, sm.1, sm.2, hw, q⟩
    | most top ps => exact .inr ⟨top, ps, rfl⟩
  rcases two with ⟨k, x, y, hx, hy, hw, q⟩ | ⟨top, ps, rfl⟩
  · obtain ⟨m1, m2⟩ := idx_at N.nd hx
    obtain ⟨m3, m4⟩ := idx_at N.nd hy
    refine ⟨_, rfl, lw, _, _, _, rfl, rfl, SqL.of hw, at0, rfl, _, rfl, ?_⟩
    rw [decide_eq_false fun z => by
      injection z with z
      have := N.name _ m1
      rw [z] at this
      exact absurd this (by decide +kernel)]
    refine iteF ?_
    refine ⟨_, rfl, lw, _, _, _, rfl, rfl, SqL.of hw, at1, _, rfl, _, rfl, lw, _, _, _, rfl, rfl, SqL.of hw, at0, l, ns, _, rfl, hl, m1, by omega, _, rfl, _, rfl, lw, _, _, _, rfl, rfl, SqL.of hw, at2, l, ns, _, rfl, hl, m3, by omega, w3 _ _ _, fun z hz => ?_⟩
    rw [m2, m4]
    exact q _ _ (same_new hz _) ⟨z, _, rfl, upd_same, _, _, rfl, rfl, _, _, rfl, rfl, _, _, rfl, rfl, rfl⟩
  · refine ⟨_, rfl, lw, _, _, _, rfl, rfl, SqL.of hw, at0, rfl, _, rfl, ?_⟩
    rw [decide_eq_true rfl]
    refine iteT ?_
    exact ⟨_, rfl, _, rfl, l, lw, ns, top, ps, rfl, hl, hw, N, sm, ri, q⟩

end
section
variable {P : Program} {w : World} {K : PySem.W.Frag} {mg : Str → Option Value} {base : Heap} {a : Adr} {d : Fds}
theorem ok_bounds_in (T : Txt K mg a d) : FnOk P w K mg base CX0 4 a.f_bounds_in d.f_bounds_in ["words", "many_kids"] spBoundsIn := by
  have G_number_in := ok_number_in (P := P) (w := w) (base := base) T
  refine T.K_bounds_in.ok sc_bounds_in (fun vs H Q E h => ?_) (fun cdv A outer s H vs Q E hr h => ?_)
  · obtain ⟨l, lo, hi, m, rfl, _⟩ := h
    rfl
  obtain ⟨l, lo, hi, m, rfl, hl, l1, l2, q⟩ := h
  have pl : ∀ s : Str, s ∈ (["must", "may", "one", "from", "to"] : List Str) → PyData.strOk s = true := by decide +kernel
  have pb : PlainL (boundW lo hi m) := plain_bound l1 l2
  have pm : PlainL ["must"] := fun x hx => pl x (by rw [List.mem_singleton.mp hx]; decide)
  have py : PlainL ["may"] := fun x hx => pl x (by rw [List.mem_singleton.mp hx]; decide)
  have po : PlainL ["one"] := fun x hx => pl x (by rw [List.mem_singleton.mp hx]; decide)
  refine ⟨_, (pss_cons (ps_if (pt_cmpR (op_eq_strs hr.units) (pv 0) (pe_lst (pa_cons pe_str pa_nil)) (nomark _)) (pss_one (ps_ret (pe_tup (pa_cons (pv 1) (pa_cons (pv 1) pa_nil))))) pss_nil)
      (pss_cons (ps_if (pt_cmpR (op_eq_strs hr.units) (pv 0) (pe_lst (pa_cons pe_str pa_nil)) (nomark _)) (pss_one (ps_ret (pe_tup (pa_cons pe_int (pa_cons (pv 1) pa_nil))))) pss_nil)
      (pss_cons (ps_if (pt_cmpR (op_eq_strs hr.units) (pv 0) (pe_lst (pa_cons pe_str pa_nil)) (nomark _)) (pss_one (ps_ret (pe_tup (pa_cons pe_int (pa_cons pe_int pa_nil))))) pss_nil)
      (pss_cons (ps_if (PW.pt (pw_and (pt_cmpR op_eq (pe_ix (ixL (K := K)) (pv 0) pe_int (fun _ _ => rfl)) pe_str (nomark _)) (pw_and1 (pt_cmpR op_eq (pe_ix (ixL (K := K)) (pv 0) pe_int (fun _ _ => rfl)) pe_str (nomark _))))) (pss_one (ps_ret (pe_tup (pa_cons (pe_callD G_number_in hr.lv rfl T.K_number_in (pa_cons (pe_ix (ixL (K := K)) (pv 0) pe_int (fun _ _ => rfl)) pa_nil)) (pa_cons (pe_callD G_number_in hr.lv rfl T.K_number_in (pa_cons (pe_ix (ixL (K := K)) (pv 0) pe_int (fun _ _ => rfl)) pa_nil)) pa_nil))))) pss_nil)
      (pss_one ps_never))))), ?_⟩
  refine ⟨_, rfl, w1 _, fun p hp => ⟨l, p, boundW lo hi m, ["must"], rfl, rfl, by rw [upd_ne (ne_of_none hl hp)]; exact hl, upd_same, pb, pm, _, rfl, ?_⟩⟩
  have s1 := same_new hp (.lst [V.str "must"])
  refine ite2 (fun c => ?_) (fun c => ?_)
  · obtain ⟨rfl, rfl⟩ := bound_must (of_decide_eq_true c)
    refine ⟨_, rfl, _, rfl, w2 _ _, fun t ht => ?_⟩
    exact q t _ (s1.trans (same_new ht _)) (s1.free ht) upd_same
  have hl1 : (upd H p (.lst [V.str "must"])) l = some (.lst (strsL (boundW lo hi m))) := by
    rw [upd_ne (ne_of_none hl hp)]
    exact hl
  have n1 : boundW lo hi m ≠ (["must"] : List Str) := fun z => c (decide_eq_true z)
  obtain ⟨H1, hH1⟩ : ∃ H1, H1 = upd H p (.lst [V.str "must"]) := ⟨_, rfl⟩
  rw [← hH1] at hl1 s1 ⊢
  refine ⟨_, rfl, w1 _, fun p2 hp2 => ⟨l, p2, boundW lo hi m, ["may"], rfl, rfl, by rw [upd_ne (ne_of_none hl1 hp2)]; exact hl1, upd_same, pb, py, _, rfl, ?_⟩⟩
  have s2 := s1.trans (same_new hp2 (.lst [V.str "may"]))
  have hl2 : (upd H1 p2 (.lst [V.str "may"])) l = some (.lst (strsL (boundW lo hi m))) := by
    rw [upd_ne (ne_of_none hl1 hp2)]
    exact hl1
  obtain ⟨H2, hH2⟩ : ∃ H2, H2 = upd H1 p2 (.lst [V.str "may"]) := ⟨_, rfl⟩
  rw [← hH2] at hl2 s2 ⊢
  rcases bound_cases n1 with ⟨e, rfl, rfl⟩ | ⟨n2, h⟩
  · rw [decide_eq_true e]
    refine iteT ⟨_, rfl, w2 _ _, fun t ht => ?_⟩
    exact q t _ (s2.trans (same_new ht _)) (s2.free ht) upd_same
  rw [decide_eq_false n2]
  refine iteF ?_
  refine ⟨_, rfl, w1 _, fun p3 hp3 => ⟨l, p3, boundW lo hi m, ["one"], rfl, rfl, by rw [upd_ne (ne_of_none hl2 hp3)]; exact hl2, upd_same, pb, po, _, rfl, ?_⟩⟩
  have s3 := s2.trans (same_new hp3 (.lst [V.str "one"]))
  have hl3 : (upd H2 p3 (.lst [V.str "one"])) l = some (.lst (strsL (boundW lo hi m))) := by
    rw [upd_ne (ne_of_none hl2 hp3)]
    exact hl2
  obtain ⟨H3, hH3⟩ : ∃ H3, H3 = upd H2 p3 (.lst [V.str "one"]) := ⟨_, rfl⟩
  rw [← hH3] at hl3 s3 ⊢
  rcases h with ⟨e, rfl, rfl⟩ | ⟨n3, e⟩
  · rw [decide_eq_true e]
    refine iteT ⟨w2 _ _, fun t ht => ?_⟩
    exact q t _ (s3.trans (same_new ht _)) (s3.free ht) upd_same
  rw [decide_eq_false n3]
  refine iteF ?_
  rw [e] at hl3
  obtain ⟨a1, a2, a3, a4, a5⟩ := num_ok (abs_small l1)
  obtain ⟨b1, b2, b3, b4, b5⟩ := num_ok (abs_small l2)
  refine ⟨_, rfl, l, _, _, _, rfl, rfl, SqL.of hl3, at0, rfl, _, rfl, iteT ?_⟩
  refine ⟨_, rfl, l, _, _, _, rfl, rfl, SqL.of hl3, at2, rfl, _, rfl, iteT ?_⟩
  refine ⟨_, rfl, l, _, _, _, rfl, rfl, SqL.of hl3, at1, _, _, rfl, a1, a2, a3, a4, by omega, fun H4 s4 => ?_⟩
  have hl4 : H4 l = some (.lst (strsL ["from", numT lo, "to", numT hi])) := s4 _ _ hl3
  refine ⟨_, rfl, l, _, _, _, rfl, rfl, SqL.of hl4, atI_nat (j := 3) rfl, _, _, rfl, b1, b2, b3, b4, by omega, fun H5 s5 => ⟨w2 _ _, fun t ht => ?_⟩⟩
  have s6 := s3.trans (s4.trans s5)
  exact q t _ (s6.trans (same_new ht _)) (s6.free ht) upd_same

end
section
variable {P : Program} {w : World} {K : PySem.W.Frag} {mg : Str → Option Value} {base : Heap} {a : Adr} {d : Fds}
theorem ok_words_of_bounds (T : Txt K mg a d) : FnOk P w K mg base CX0 1 a.f_words_of_bounds d.f_words_of_bounds ["low", "high", "many_kids"] spBoundW := by
  refine T.K_words_of_bounds.ok sc_words_of_bounds (fun vs H Q E h => ?_) (fun cdv A outer s H vs Q E hr h => ?_)
  · obtain ⟨lo, hi, m, rfl, _⟩ := h
    rfl
  obtain ⟨lo, hi, m, rfl, l1, l2, q⟩ := h
  have w1 : ∀ x : Str, ([V.str x] : List V).length ≤ sizeLine := fun x => by rw [sizeLine_eq]; show 1 ≤ _; decide
  have w4 : ∀ x y z u : V, ([x, y, z, u] : List V).length ≤ sizeLine := fun x y z u => by rw [sizeLine_eq]; show 4 ≤ _; decide
  refine ⟨_, (pss_cons (ps_if (PW.pt (pw_and (pt_cmpR op_eq (pv 0) (pv 2) (nomark _)) (pw_and1 (pt_cmpR op_eq (pv 1) (pv 2) (nomark _))))) (pss_one (ps_ret (pe_lst (pa_cons pe_str pa_nil)))) pss_nil)
      (pss_cons (ps_if (PW.pt (pw_and (pt_cmpR op_eq (pv 0) pe_int (nomark _)) (pw_and1 (pt_cmpR op_eq (pv 1) (pv 2) (nomark _))))) (pss_one (ps_ret (pe_lst (pa_cons pe_str pa_nil)))) pss_nil)
      (pss_cons (ps_if (PW.pt (pw_and (pt_cmpR op_eq (pv 0) pe_int (nomark _)) (pw_and1 (pt_cmpR op_eq (pv 1) pe_int (nomark _))))) (pss_one (ps_ret (pe_lst (pa_cons pe_str pa_nil)))) pss_nil)
      (pss_one (ps_ret (pe_lst (pa_cons pe_str (pa_cons (pe_callTy call_str_int rfl T.m_str PyProof.Rows.boot_str (pa_cons (pv 0) pa_nil)) (pa_cons pe_str (pa_cons (pe_callTy call_str_int rfl T.m_str PyProof.Rows.boot_str (pa_cons (pv 1) pa_nil)) pa_nil)))))))))), ?_⟩
  have fin : ∀ ws : List Str, boundW lo hi m = ws → ∀ p, H p = none → Q (.ref p) (upd H p (.lst (ws.map V.str))) := fun ws e p hp => by
    rw [← e]
    exact q p hp
  refine ⟨_, rfl, _, rfl, rfl, _, rfl, ?_⟩
  refine iteAnd (b2 := decide (V.int (hi : Int) = V.int (m : Int))) (fun k => ⟨_, rfl, _, rfl, rfl, _, rfl, k⟩) ?_
  refine ite2 (fun c => ?_) (fun c => ?_)
  · rw [nat_and] at c
    exact ⟨w1 _, fin ["must"] (by unfold boundW; rw [if_pos (of_decide_eq_true c)])⟩
  rw [nat_and] at c
  have n1 : ¬ (lo = m ∧ hi = m) := fun z => c (decide_eq_true z)
  refine ⟨_, rfl, rfl, _, rfl, ?_⟩
  refine iteAnd (b2 := decide (V.int (hi : Int) = V.int (m : Int))) (fun k => ⟨_, rfl, _, rfl, rfl, _, rfl, k⟩) ?_
  refine ite2 (fun c => ?_) (fun c => ?_)
  · have c' := (nat_and lo 0 hi m).symm.trans c
    exact ⟨w1 _, fin ["may"] (by unfold boundW; rw [if_neg n1, if_pos (of_decide_eq_true c')])⟩
  have n2 : ¬ (lo = 0 ∧ hi = m) := fun z => c ((nat_and lo 0 hi m).trans (decide_eq_true z))
  refine ⟨_, rfl, rfl, _, rfl, ?_⟩
  refine iteAnd (b2 := decide (V.int (hi : Int) = V.int 1)) (fun k => ⟨_, rfl, rfl, _, rfl, k⟩) ?_
  refine ite2 (fun c => ?_) (fun c => ?_)
  · have c' := (nat_and lo 1 hi 1).symm.trans c
    exact ⟨w1 _, fin ["one"] (by unfold boundW; rw [if_neg n1, if_neg n2, if_pos (of_decide_eq_true c')])⟩
  have n3 : ¬ (lo = 1 ∧ hi = 1) := fun z => c ((nat_and lo 1 hi 1).trans (decide_eq_true z))
  exact ⟨_, rfl, lo, rfl, log_small l1, _, rfl, hi, rfl, log_small l2, w4 _ _ _ _, fin ["from", numT lo, "to", numT hi] (by unfold boundW; rw [if_neg n1, if_neg n2, if_neg n3])⟩

end
section
variable {P : Program} {w : World} {K : PySem.W.Frag} {mg : Str → Option Value} {base : Heap} {a : Adr} {d : Fds}
theorem ok_bough_in (T : Txt K mg a d) : FnOk P w K mg base CX0 5 a.f_bough_in d.f_bough_in ["names", "words"] spBoughIn := by
  have G_option_in := ok_option_in (P := P) (w := w) (base := base) T
  have G_rising_in := ok_rising_in (P := P) (w := w) (base := base) T
  have G_bounds_in := ok_bounds_in (P := P) (w := w) (base := base) T
  have G_words_of_bounds := ok_words_of_bounds (P := P) (w := w) (base := base) T
  refine T.K_bough_in.ok sc_bough_in (fun vs H Q E h => ?_) (fun cdv A outer s H vs Q E hr h => ?_)
  · obtain ⟨l, lw, ns, u, lo, hi, ks, rfl, _⟩ := h
    rfl
  obtain ⟨l, lw, ns, u, lo, hi, ks, rfl, hl, hw, N, ul, l1, l2, ne, rs, lt, q⟩ := h
  obtain ⟨m1, m2⟩ := idx_at N.nd ul
  have n9 := N.few
  have pb : PlainL (boundW lo hi ks.length) := plain_bound l1 l2
  refine ⟨_, (pss_cons (ps_set (i := 2) sc_bough_in.nd rfl (Or.inl rfl) (pe_callD G_option_in hr.lv rfl T.K_option_in (pa_cons (pv 0) (pa_cons (pe_ix (ixL (K := K)) (pv 1) pe_int (fun _ _ => rfl)) pa_nil))))
      (pss_cons (ps_set (i := 3) sc_bough_in.nd rfl (Or.inl rfl) (pe_ifExp (pt_cmpR (op_eq_strs hr.units) (pe_slice sl_list (pv 1) (po_some pe_int) (po_some pe_int)) (pe_lst (pa_cons pe_str pa_nil)) (nomark _)) pe_int pe_int))
      (pss_cons (ps_set (i := 4) sc_bough_in.nd rfl (Or.inl rfl) (pe_callD G_rising_in hr.lv rfl T.K_rising_in (pa_cons (pv 0) (pa_cons (pe_slice sl_list (pv 1) (po_some (pv 3)) po_none) pa_nil))))
      (pss_cons (ps_set (i := 5) sc_bough_in.nd rfl (Or.inl rfl) (pe_callD G_bounds_in hr.lv rfl T.K_bounds_in (pa_cons (pe_slice sl_list (pv 1) (po_some pe_int) (po_some (pv 3))) (pa_cons (pe_callB (lenS (K := K)) rfl T.m_len PySem.boot_len (pa_cons (pv 4) pa_nil)) pa_nil))))
      (pss_cons (ps_if (pt_cmpR (op_ne_strs hr.units) (pe_callD G_words_of_bounds hr.lv rfl T.K_words_of_bounds (pa_cons (pe_ix (ixT (K := K)) (pv 5) pe_int (fun _ _ => rfl)) (pa_cons (pe_ix (ixT (K := K)) (pv 5) pe_int (fun _ _ => rfl)) (pa_cons (pe_callB (lenS (K := K)) rfl T.m_len PySem.boot_len (pa_cons (pv 4) pa_nil)) pa_nil)))) (pe_slice sl_list (pv 1) (po_some pe_int) (po_some (pv 3))) (nomark _)) (pss_one ps_never) pss_nil)
      (pss_one (ps_ret (pe_tup (pa_cons (pv 2) (pa_cons (pe_ix (ixT (K := K)) (pv 5) pe_int (fun _ _ => rfl)) (pa_cons (pe_ix (ixT (K := K)) (pv 5) pe_int (fun _ _ => rfl)) (pa_cons (pe_callTy call_tuple_of rfl T.m_tuple PyProof.Rows.boot_tuple (pa_cons (pv 4) pa_nil)) pa_nil)))))))))))), ?_⟩
  refine ⟨_, rfl, _, rfl, lw, _, _, _, rfl, rfl, SqL.of hw, at0, l, ns, _, rfl, hl, m1, by omega, ?_⟩
  rw [m2]
  refine ⟨_, rfl, _, rfl, _, rfl, lw, _, rfl, SqL.of hw, fun p1 hp1 => ?_⟩
  obtain ⟨b0, br, eB, hB⟩ := bound_head lo hi ks.length
  rw [cut_b1 eB]
  have s1 := same_new hp1 (.lst (strsL [b0]))
  have a1 : (upd H p1 (.lst (strsL [b0]))) p1 = some (.lst (strsL [b0])) := upd_same
  obtain ⟨H1, hH1⟩ : ∃ H1, H1 = upd H p1 (.lst (strsL [b0])) := ⟨_, rfl⟩
  rw [← hH1] at s1 a1 ⊢
  refine ⟨w1 _, fun p2 hp2 => ?_⟩
  have s2 := s1.trans (same_new hp2 (.lst (strsL ["from"])))
  have a2 := (same_new hp2 (.lst (strsL ["from"]))) _ _ a1
  have pf : PlainL ["from"] := fun x hx => by
    rw [List.mem_singleton.mp hx]
    decide +kernel
  have p0 : PlainL [b0] := fun x hx => pb x (by rw [eB, List.mem_singleton.mp hx]; exact List.mem_cons_self)
  refine ⟨p1, p2, [b0], ["from"], rfl, rfl, a2, upd_same, p0, pf, _, rfl, ?_⟩
  obtain ⟨H2, hH2⟩ : ∃ H2, H2 = upd H1 p2 (.lst (strsL ["from"])) := ⟨_, rfl⟩
  change Same H (upd H1 p2 (.lst (strsL ["from"]))) at s2
  rw [← hH2] at s2
  rw [show upd H1 p2 (HO.lst [V.str "from"]) = H2 from hH2.symm]
  refine ite_val (A := fun v => tC v _ _ _) (z := .int ((br.length + 2 : Nat) : Int)) ?_ ?_
  · rcases hB with ⟨rfl, hb⟩ | ⟨nf, hb⟩
    · rw [decide_eq_true rfl, if_pos rfl, hb]
      rfl
    · rw [decide_eq_false (fun z => nf (by injection z)), if_neg (by simp), hb]
      rfl
  have hw2 : H2 lw = some (.lst (strsL (boughW ns u lo hi ks))) := s2 _ _ hw
  refine ⟨_, rfl, _, rfl, _, rfl, _, rfl, lw, _, rfl, SqL.of hw2, fun p3 hp3 => ?_⟩
  rw [cut_b2 eB]
  have s3 := s2.trans (same_new hp3 (.lst (strsL (ks.map (nameAt ns)))))
  refine ⟨l, p3, ns, ks, rfl, s3 _ _ hl, upd_same, N.nd, n9, ne, rs, lt, fun pk H4 s4 nk hk => ?_⟩
  have s5 := s3.trans s4
  refine ⟨_, rfl, _, rfl, _, rfl, _, rfl, lw, _, rfl, SqL.of (s5 _ _ hw), fun p5 hp5 => ?_⟩
  rw [cut_b3 eB]
  have s6 := s5.trans (same_new hp5 (.lst (strsL (boundW lo hi ks.length))))
  have hk6 : (upd H4 p5 (.lst (strsL (boundW lo hi ks.length)))) pk = some (.lst (natsL ks)) := (same_new hp5 _) _ _ hk
  have kl : (natsL ks).length = ks.length := by rw [natsL, List.length_map]
  refine ⟨_, rfl, pk, _, rfl, .inl (SqL.of hk6), p5, lo, hi, ks.length, by rw [kl]; rfl, upd_same, l1, l2, fun pb' H7 s7 nb hb => ?_⟩
  have s8 := s6.trans s7
  have hk8 : H7 pk = some (.lst (natsL ks)) := s7 _ _ hk6
  refine ⟨_, rfl, pb', _, _, _, rfl, rfl, sqT hb, at0, _, rfl, pb', _, _, _, rfl, rfl, sqT hb, at1, _, rfl, pk, _, rfl, .inl (SqL.of hk8), lo, hi, ks.length, by rw [kl]; rfl, l1, l2, fun p9 hp9 => ?_⟩
  have s9 := s8.trans (same_new hp9 (.lst (strsL (boundW lo hi ks.length))))
  refine ⟨_, rfl, _, rfl, _, rfl, _, rfl, lw, _, rfl, SqL.of (s9 _ _ hw), fun p10 hp10 => ?_⟩
  rw [cut_b3 eB]
  have s10 := s9.trans (same_new hp10 (.lst (strsL (boundW lo hi ks.length))))
  refine ⟨p9, p10, _, _, rfl, rfl, (same_new hp10 _) _ _ upd_same, upd_same, pb, pb, _, rfl, ?_⟩
  rw [decide_eq_true rfl]
  refine iteF ?_
  have sx := (same_new hp9 (.lst (strsL (boundW lo hi ks.length)))).trans (same_new hp10 (.lst (strsL (boundW lo hi ks.length))))
  have hb2 := sx _ _ hb
  have w4 : ∀ x y z u : V, ([x, y, z, u] : List V).length ≤ sizeLine := fun x y z u => by rw [sizeLine_eq]; show 4 ≤ _; decide
  refine ⟨_, rfl, _, rfl, pb', _, _, _, rfl, rfl, sqT hb2, at0, _, rfl, pb', _, _, _, rfl, rfl, sqT hb2, at1, _, rfl, pk, _, rfl, .inl ⟨SqL.of (sx _ _ hk8), fun tk htk => ⟨w4 _ _ _ _, fun z hz => ?_⟩⟩⟩
  exact q _ _ (s10.trans ((same_new htk _).trans (same_new hz _))) ⟨z, _, rfl, upd_same, _, _, rfl, rfl, _, _, rfl, rfl, _, _, rfl, rfl, _, _, rfl, ⟨tk, _, rfl, (same_new hz _) _ _ upd_same, dn_nats ks⟩, rfl⟩

end
section
variable {P : Program} {w : World} {K : PySem.W.Frag} {mg : Str → Option Value} {base : Heap} {a : Adr} {d : Fds}
theorem ok_read (T : Txt K mg a d) : FnOk P w K mg base CX0 8 a.f_read d.f_read ["text"] spRead := by
  have G_names_in := ok_names_in (P := P) (w := w) (base := base) T
  have G_is_cross_line := ok_is_cross_line (P := P) (w := w) (base := base) T
  have G_cross_tie_in := ok_cross_tie_in (P := P) (w := w) (base := base) T
  have G_bough_in := ok_bough_in (P := P) (w := w) (base := base) T
  have G_wood_of := ok_wood_of (P := P) (w := w) (base := base) T
  refine T.K_read.ok sc_read (fun vs H Q E h => ?_) (fun cdv A outer s H vs Q E hr h => ?_)
  · obtain ⟨ns, L, C, rfl, _⟩ := h
    rfl
  obtain ⟨ns, L, C, rfl, LN, q⟩ := h
  have N := LN.nm
  have n9 := N.few
  have fb := LN.fewb
  have fc := LN.fewc
  obtain ⟨tl, ts⟩ := LN.text
  have ll := lines_len (ns := ns) (L := L) (C := C)
  refine ⟨_, (pss_cons (ps_if (pt_not (pt_val (pe_callB (isiK (K := K)) rfl T.m_isinstance PyProof.Rows.boot_isinstance (pa_cons (pv 0) (pa_cons (pe_bltn (v := .ty "str") rfl T.m_str PyProof.Rows.boot_str rfl) pa_nil))))) (pss_one ps_never) pss_nil)
      (pss_cons (ps_setLc (i := 1) sc_read.nd rfl rfl rfl (sc0 := defScope s_read) (XN := ["text", "lines", "names", "boughs", "cross", "words"]) (N' := ["line"]) (n := 1) (kp := []) rfl (piL (K := K) (pe_bmK (K := K) PySem.F.plainAttrs_str PySem.F.slot_str_split PySem.F.type_str_split mt_split (pv 0) (pa_cons pe_str pa_nil))) rfl rfl (by decide +kernel) (fun _ _ _ _ _ => (pg_name (i := 0) (by show List.Nodup (["line"] : List Str); decide +kernel) rfl (Or.inl rfl))) (fun _ _ _ _ _ => pts_nil) (fun _ _ _ _ _ => (pe_bmK (K := K) PySem.F.plainAttrs_str PySem.F.slot_str_split PySem.F.type_str_split mt_split (pv 0) (pa_cons pe_str pa_nil))))
      (pss_cons (ps_set (i := 2) sc_read.nd rfl (Or.inl rfl) (pe_callD G_names_in hr.lv rfl T.K_names_in (pa_cons (pe_ix (ixL (K := K)) (pv 1) pe_int (fun _ _ => rfl)) pa_nil)))
      (pss_cons (ps_set (i := 3) sc_read.nd rfl (Or.inl rfl) (pe_lst pa_nil))
      (pss_cons (ps_set (i := 4) sc_read.nd rfl (Or.inl rfl) (pe_lst pa_nil))
      (pss_cons (ps_for PassesOwn.never rfl (piL (K := K) (pe_slice sl_list (pv 1) (po_some pe_int) po_none)) (pg_name (i := 5) sc_read.nd rfl (Or.inl rfl)) (pss_one (ps_if (pt_val (pe_callD G_is_cross_line hr.lv rfl T.K_is_cross_line (pa_cons (pv 5) pa_nil))) (pss_one (ps_expr (pe_bmK (K := K) PySem.F.plainAttrs_list PySem.F.slot_list_append PySem.F.type_list_append mt_append (pv 4) (pa_cons (pe_callD G_cross_tie_in hr.lv rfl T.K_cross_tie_in (pa_cons (pv 2) (pa_cons (pv 5) pa_nil))) pa_nil)))) (pss_one (ps_if (pt_cmpR op_gt (pe_callB (lenS (K := K)) rfl T.m_len PySem.boot_len (pa_cons (pv 4) pa_nil)) pe_int (nomark _)) (pss_one ps_never) (pss_one (ps_expr (pe_bmK (K := K) PySem.F.plainAttrs_list PySem.F.slot_list_append PySem.F.type_list_append mt_append (pv 3) (pa_cons (pe_callD G_bough_in hr.lv rfl T.K_bough_in (pa_cons (pv 2) (pa_cons (pv 5) pa_nil))) pa_nil)))))))))
      (pss_one (ps_ret (pe_tup (pa_cons (pv 2) (pa_cons (pe_callD G_wood_of hr.lv rfl T.K_wood_of (pa_cons (pe_callB (lenS (K := K)) rfl T.m_len PySem.boot_len (pa_cons (pv 2) pa_nil)) (pa_cons (pv 3) (pa_cons (pv 4) pa_nil)))) pa_nil))))))))))), ?_⟩
  refine ⟨_, rfl, _, _, _, _, rfl, .str _, isi_str_str, _, rfl, ?_⟩
  refine iteF ?_
  refine ⟨_, rfl, rfl, _, _, rfl, rfl, rfl, tl, fun p1 hp1 => ?_⟩
  rw [ts]
  have s1 := same_new hp1 (.lst (strsL ((linesOf ns L C).map (Str.join " "))))
  have a1 : (upd H p1 (.lst (strsL ((linesOf ns L C).map (Str.join " "))))) p1 = some (.lst (strsL ((linesOf ns L C).map (Str.join " ")))) := upd_same
  change Same H (upd H p1 (.lst (((linesOf ns L C).map (Str.join " ")).map V.str))) at s1
  change (upd H p1 (.lst (((linesOf ns L C).map (Str.join " ")).map V.str))) p1 = _ at a1
  generalize upd H p1 (.lst (((linesOf ns L C).map (Str.join " ")).map V.str)) = H1 at s1 a1 ⊢
  refine ⟨p1, rfl, ⟨_, SqL.of a1⟩, ?_⟩
  have lj : (strsL ((linesOf ns L C).map (Str.join " "))).length = (linesOf ns L C).length := by rw [strsL, List.length_map, List.length_map]
  refine lc_list (K := K) (a := p1) (xs := strsL ((linesOf ns L C).map (Str.join " "))) (fun i ys σ H2 => (∃ v, σ = [v]) ∧ Same H1 H2 ∧ RefsAt H2 ((linesOf ns L C).take i) ys) ⟨⟨none, rfl⟩, Same.refl _, ⟨rfl, fun j ws e => by rw [List.take_zero] at e; cases e⟩⟩ (fun i ys σ H2 hi pv => ?_) (fun i ys σ H2 hi pv => ?_) (fun i x ys σ H2 hx pv => ?_) (fun ys σ H2 pv kl hkl => ?_)
  · obtain ⟨_, _, ra⟩ := pv
    rw [ra.1, List.length_take]
    exact small (by omega)
  · exact SqL.of (pv.2.1 _ _ a1)
  · obtain ⟨⟨v, rfl⟩, sm, ra⟩ := pv
    unfold strsL at hx
    rw [List.getElem?_map, List.getElem?_map] at hx
    cases ek : (linesOf ns L C)[i]? with
    | none =>
      rw [ek] at hx
      cases hx
    | some ws =>
      rw [ek] at hx
      cases hx
      obtain ⟨wl, wsp⟩ := LN.words (List.mem_of_getElem? ek)
      refine ⟨_, rfl, rfl, _, _, rfl, rfl, rfl, wl, fun p2 hp2 => ?_⟩
      rw [wsp]
      refine ⟨⟨_, rfl⟩, sm.trans (same_new hp2 _), ?_⟩
      rw [List.take_succ, ek]
      exact (ra.same (same_new hp2 _)).snoc upd_same
  obtain ⟨_, sm, ra⟩ := pv
  rw [lj, List.take_length] at ra
  have s2' := same_new hkl (.lst ys)
  have s2 := s1.trans (sm.trans s2')
  have a2 : (upd H2 kl (.lst ys)) kl = some (.lst ys) := upd_same
  replace ra := ra.same s2'
  generalize upd H2 kl (.lst ys) = H3 at s2 a2 ra ⊢
  clear s2' sm hkl H2 s1 a1
  obtain ⟨a0, y0, hy0⟩ := ra.2 0 _ rfl
  refine ⟨_, rfl, kl, _, _, _, rfl, rfl, SqL.of a2, atI_nat (j := 0) y0, a0, ns, rfl, hy0, N, fun pn H4 s4' npn hpn => ?_⟩
  have fpn : H pn = none := s2.free npn
  have s4 := s2.trans s4'
  have a4 := s4' _ _ a2
  replace ra := ra.same s4'
  clear s4' a2 s2 hy0
  refine ⟨small (by show 0 ≤ 1000; decide), fun kb hkb => ?_⟩
  refine ⟨small (by show 0 ≤ 1000; decide), fun kc hkc => ?_⟩
  have nbc : kb ≠ kc := ne_of_none upd_same hkc
  have sb := same_new hkb (.lst [])
  have fkc : H4 kc = none := sb.free hkc
  have sbc := sb.trans (same_new hkc (.lst []))
  have ab : (upd (upd H4 kb (.lst [])) kc (.lst [])) kb = some (.lst []) := by
    rw [upd_ne nbc]
    exact upd_same
  have ac : (upd (upd H4 kb (.lst [])) kc (.lst [])) kc = some (.lst []) := upd_same
  generalize upd (upd H4 kb (.lst [])) kc (.lst []) = H5 at sbc ab ac ⊢
  clear sb hkc
  refine ⟨_, rfl, _, rfl, kl, _, rfl, SqL.of (sbc _ _ a4), fun p6 hp6 => ?_⟩
  rw [show cutV ys (some 1) none = ys.drop 1 from cut_from _ 1]
  have n6b : p6 ≠ kb := fun z => by rw [z, ab] at hp6; cases hp6
  have n6c : p6 ≠ kc := fun z => by rw [z, ac] at hp6; cases hp6
  have s6' := same_new hp6 (.lst (ys.drop 1))
  have s6 := sbc.trans s6'
  have a6 : (upd H5 p6 (.lst (ys.drop 1))) p6 = some (.lst (ys.drop 1)) := upd_same
  replace ab := s6' _ _ ab
  replace ac := s6' _ _ ac
  generalize upd H5 p6 (.lst (ys.drop 1)) = H6 at s6 a6 ab ac ⊢
  clear s6' sbc hp6
  refine ⟨p6, rfl, ⟨_, SqL.of a6⟩, ?_⟩
  have rd := ra.drop
  have ld : (ys.drop 1).length = L.length + C.length := by
    rw [rd.1, List.length_drop, ll]
    omega
  have fl : ∀ t ∈ C, flatD 3 t.toD = true := fun t ht => tie_flat (LN.okc t ht) (by omega)
  have flb : ∀ b ∈ L, flatD 3 b.tie.toD = true := fun b hb => bough_flat (by have := (LN.okb b hb).few; omega)
  refine for_list (K := K) (a := p6) (xs := ys.drop 1) (fun i σ H2 => (∃ v5, σ = [some (.str (textOf ns L C)), some (.ref kl), some (.ref pn), some (.ref kb), some (.ref kc), v5]) ∧ Same H4 H2 ∧ H2 p6 = some (.lst (ys.drop 1)) ∧ ∃ xs zs, H2 kb = some (.lst xs) ∧ H2 kc = some (.lst zs) ∧ DnL H2 (((L.take i).map Bg.tie).map Tie.toD) xs ∧ DnL H2 ((C.take (i - L.length)).map Tie.toD) zs) ⟨⟨none, rfl⟩, s6, a6, [], [], ab, ac, rfl, by rw [Nat.zero_sub]; rfl⟩ (fun i σ H2 _ z => SqL.of z.2.2.1) ?_ ?_
  · rintro i x σ H2 hx ⟨⟨v5, rfl⟩, sm, h6, xs, zs, hb, hc, db, dc⟩
    have hi : i < L.length + C.length := by
      have := (List.getElem?_eq_some_iff.mp hx).1
      omega
    by_cases il : i < L.length
    · have eb := List.getElem?_eq_getElem il
      obtain ⟨b, hbe⟩ : ∃ b, b = L[i] := ⟨_, rfl⟩
      rw [← hbe] at eb
      obtain ⟨pa, hpa, hw⟩ := rd.2 i _ (lines_at eb)
      rw [hx] at hpa
      cases hpa
      have mb := List.mem_of_getElem? eb
      have ok := LN.okb b mb
      have o1 := ok.few
      have o2 := ok.lo0
      have o3 := ok.lohi
      have o4 := ok.hik
      have o5 := ok.um
      obtain ⟨m1, m2⟩ := idx_at N.nd o5
      have c0 : (C.take (i - L.length)) = [] := by
        rw [show i - L.length = 0 by omega]
        rfl
      rw [c0] at dc
      have zs0 : zs = [] := dc
      subst zs0
      refine ⟨_, rfl, pa, _, rfl, sm _ _ hw, by simp [boughW], fun H7 s7 => ?_⟩
      rw [cross_bough (N.name _ m1)]
      refine ⟨_, rfl, ?_⟩
      refine iteF ?_
      have hb7 := s7 _ _ hb
      have hc7 := s7 _ _ hc
      refine ⟨_, rfl, kc, _, rfl, .inl (SqL.of hc7), _, _, rfl, rfl, _, rfl, ?_⟩
      refine iteF ?_
      have s47 := sm.trans s7
      have l0 : (b.lo.toNat : Int) = b.lo := Int.toNat_of_nonneg o2
      have h0 : (b.hi.toNat : Int) = b.hi := Int.toNat_of_nonneg (by omega)
      refine ⟨_, rfl, .inl ⟨rfl, _, SqL.of hb7⟩, _, rfl, _, rfl, pn, pa, ns, b.u, b.lo.toNat, b.hi.toNat, b.ks, rfl, s47 _ _ hpn, s47 _ _ hw, N, o5, by omega, by omega, ok.ks0, ok.ris, fun k hk => (ok.up k hk).2, fun v H8 s8 dv => ?_⟩
      rw [l0, h0] at dv
      have hb8 := s8 _ _ hb7
      have s48 := s47.trans s8
      have s28 := s7.trans s8
      have tp : TupS H8 (upd H8 kb (.lst (xs ++ [v]))) := tupS_put hb8 (fun _ z => by cases z)
      have dx := DnL.same s28 _ _ db
      have lx := db.length
      rw [List.length_map, List.length_map, List.length_take] at lx
      refine ⟨kb, xs, _, rfl, rfl, hb8, Nat.lt_of_le_of_lt (show xs.length ≤ 9 by omega) (by rw [sizeLine_eq]; decide), ⟨_, rfl⟩, Wd.Same.put s48 hkb hb8, ?_, xs ++ [v], [], upd_same, ?_, ?_, ?_⟩
      · rw [upd_ne n6b]
        exact s28 _ _ h6
      · rw [upd_ne nbc.symm]
        exact s8 _ _ hc7
      · rw [List.take_succ, eb, List.map_append, List.map_append]
        refine (DnL.tupS (n := 3) tp ?_ dx).append ⟨v, [], rfl, Dn.tupS tp (flb b mb) dv, rfl⟩
        rw [List.all_eq_true]
        intro e he
        obtain ⟨t, ht, rfl⟩ := List.mem_map.mp he
        obtain ⟨b', hb', rfl⟩ := List.mem_map.mp ht
        exact flb b' (List.mem_of_mem_take hb')
      · rw [show i + 1 - L.length = 0 by omega]
        rfl
    · have ic : i - L.length < C.length := by omega
      have eb := List.getElem?_eq_getElem ic
      obtain ⟨t, hte⟩ : ∃ t, t = C[i - L.length] := ⟨_, rfl⟩
      rw [← hte] at eb
      obtain ⟨pa, hpa, hw⟩ := rd.2 i _ (lines_atC (by omega) eb)
      rw [hx] at hpa
      cases hpa
      have mb := List.mem_of_getElem? eb
      have cr := LN.cross mb
      refine ⟨_, rfl, pa, _, rfl, sm _ _ hw, (LN.whole (List.mem_append.mpr (.inr (List.mem_map_of_mem mb)))).1, fun H7 s7 => ?_⟩
      rw [cross_line cr]
      refine ⟨_, rfl, ?_⟩
      refine iteT ?_
      have hb7 := s7 _ _ hb
      have hc7 := s7 _ _ hc
      have s47 := sm.trans s7
      refine ⟨_, rfl, .inl ⟨rfl, _, SqL.of hc7⟩, _, rfl, _, rfl, pn, pa, ns, t, rfl, s47 _ _ hpn, s47 _ _ hw, N, cr, LN.sm t mb, LN.rise mb, fun v H8 s8 dv => ?_⟩
      have hc8 := s8 _ _ hc7
      have s48 := s47.trans s8
      have s28 := s7.trans s8
      have tp : TupS H8 (upd H8 kc (.lst (zs ++ [v]))) := tupS_put hc8 (fun _ z => by cases z)
      have dx := DnL.same s28 _ _ dc
      have dy := DnL.same s28 _ _ db
      have lx := dc.length
      rw [List.length_map, List.length_take] at lx
      refine ⟨kc, zs, _, rfl, rfl, hc8, Nat.lt_of_le_of_lt (show zs.length ≤ 9 by omega) (by rw [sizeLine_eq]; decide), ⟨_, rfl⟩, Wd.Same.put s48 fkc hc8, ?_, xs, zs ++ [v], ?_, upd_same, ?_, ?_⟩
      · rw [upd_ne n6c]
        exact s28 _ _ h6
      · rw [upd_ne nbc]
        exact s8 _ _ hb7
      · rw [show L.take (i + 1) = L.take i from by rw [List.take_of_length_le (by omega), List.take_of_length_le (by omega)]]
        refine DnL.tupS (n := 3) tp ?_ dy
        rw [List.all_eq_true]
        intro e he
        obtain ⟨t, ht, rfl⟩ := List.mem_map.mp he
        obtain ⟨b', hb', rfl⟩ := List.mem_map.mp ht
        exact flb b' (List.mem_of_mem_take hb')
      · rw [show i + 1 - L.length = i - L.length + 1 by omega, List.take_succ, eb, List.map_append]
        refine (DnL.tupS (n := 3) tp ?_ dx).append ⟨v, [], rfl, Dn.tupS tp (fl t mb) dv, rfl⟩
        rw [List.all_eq_true]
        intro e he
        obtain ⟨t', ht, rfl⟩ := List.mem_map.mp he
        exact fl t' (List.mem_of_mem_take ht)
  · rintro σ H2 ⟨⟨v5, rfl⟩, sm, h6, xs, zs, hb, hc, db, dc⟩
    rw [ld, List.take_of_length_le (by omega)] at db
    rw [ld, show L.length + C.length - L.length = C.length by omega, List.take_length] at dc
    have el : (strsL ns).length = ns.length := by rw [strsL, List.length_map]
    have hpn2 := sm _ _ hpn
    have n1 : 1 ≤ ns.length := List.length_pos_iff.mpr N.ne
    refine ⟨_, rfl, _, rfl, pn, _, rfl, .inl (SqL.of hpn2), _, rfl, _, rfl, (ns.length : Int), kb, kc, xs, zs, _, _, by rw [el]; rfl, hb, hc, db, dc, LN.gb, by omega, by omega, by rw [List.length_map, List.length_map]; omega, fun c hc' => ?_, by rw [List.length_map]; omega, fun wd tb tc H8 s8 h1 h2 h3 => ?_⟩
    · obtain ⟨t, ht, rfl⟩ := List.mem_map.mp hc'
      exact ⟨isTie_of (LN.okc t ht) (LN.nb t ht), third_of (LN.okc t ht) n9 (LN.nb t ht)⟩
    refine ⟨w2 _ _, fun p hp => ?_⟩
    have sp := same_new hp (.tup [.ref pn, .ref wd])
    refine q p pn wd tb tc _ (s4.trans (sm.trans (s8.trans sp))) fpn upd_same (sp _ _ (s8 _ _ hpn2)) (WoodP.same sp ⟨h1, ⟨xs, h2, DnL.same s8 _ _ db⟩, ⟨zs, h3, DnL.same s8 _ _ dc⟩, fun b hb => (LN.okb b hb).toBoughOkW, LN.okc, LN.nb, n1, n9, by omega, by omega⟩)

end
section
variable {P : Program} {w : World} {K : PySem.W.Frag} {mg : Str → Option Value} {base : Heap} {a : Adr} {d : Fds}
theorem iteNT {b : Bool} {A B : Prop} (h : b = false) (a : A) : if (!b) = true then A else B := by
  subst h
  exact a
theorem ok_words_of_cross_tie (T : Txt K mg a d) : FnOk P w K mg base CX0 1 a.f_words_of_cross_tie d.f_words_of_cross_tie ["names", "tie"] spTieW := by
  refine T.K_words_of_cross_tie.ok sc_words_of_cross_tie (fun vs H Q E h => ?_) (fun cdv A outer s H vs Q E hr h => ?_)
  · obtain ⟨l, ns, v, t, rfl, _⟩ := h
    rfl
  obtain ⟨l, ns, v, t, rfl, hl, hd, ic, sm, q⟩ := h
  have w3 : ∀ x y z : V, ([x, y, z] : List V).length ≤ sizeLine := fun x y z => by rw [sizeLine_eq]; show 3 ≤ _; decide
  refine ⟨_, (pss_cons (ps_if (pt_cmpR op_ne (pe_ix (ixT (K := K)) (pv 1) pe_int (fun _ _ => rfl)) pe_str (nomark _)) (pss_one (ps_ret (pe_lst (pa_cons (pe_ix (ixL (K := K)) (pv 0) (pe_ix (ixT (K := K)) (pv 1) pe_int (fun _ _ => rfl)) (fun _ _ => rfl)) (pa_cons (pe_ix (ixT (K := K)) (pv 1) pe_int (fun _ _ => rfl)) (pa_cons (pe_ix (ixL (K := K)) (pv 0) (pe_ix (ixT (K := K)) (pv 1) pe_int (fun _ _ => rfl)) (fun _ _ => rfl)) pa_nil)))))) pss_nil)
      (pss_cons (ps_set (i := 2) sc_words_of_cross_tie.nd rfl (Or.inl rfl) (pe_lst (pa_cons pe_str (pa_cons (pe_callTy call_str_int rfl T.m_str PyProof.Rows.boot_str (pa_cons (pe_ix (ixT (K := K)) (pv 1) pe_int (fun _ _ => rfl)) pa_nil)) (pa_cons pe_str pa_nil)))))
      (pss_cons (ps_for PassesOwn.never rfl (piT (K := K) (pe_ix (ixT (K := K)) (pv 1) pe_int (fun _ _ => rfl))) (pgT (K := K) (n := 2) rfl (pgs_cons (pg_name (i := 3) sc_words_of_cross_tie.nd rfl (Or.inl rfl)) (pgs_cons (pg_name (i := 4) sc_words_of_cross_tie.nd rfl (Or.inl rfl)) pgs_nil))) (pss_one (ps_expr (pe_bmK (K := K) PySem.F.plainAttrs_list PySem.F.slot_list_extend PySem.F.type_list_extend mt_extend (pv 2) (pa_cons (pe_lst (pa_cons (pe_callTy call_str_int rfl T.m_str PyProof.Rows.boot_str (pa_cons (pv 4) pa_nil)) (pa_cons (pe_ix (ixL (K := K)) (pv 0) (pv 3) (fun _ _ => rfl)) pa_nil))) pa_nil)))))
      (pss_one (ps_ret (pv 2)))))), ?_⟩
  cases t with
  | bough u lo hi ks => cases ic
  | needs x y =>
    obtain ⟨p, xs, rfl, hp, hx⟩ := hd
    obtain ⟨e1, r1, rfl, rfl, e2, r2, rfl, rfl, e3, r3, rfl, rfl, rfl⟩ := hx
    refine ⟨_, rfl, p, _, _, _, rfl, rfl, sqT hp, at0, rfl, _, rfl, ?_⟩
    refine iteNT (by decide +kernel) ?_
    refine ⟨_, rfl, _, rfl, p, _, _, _, rfl, rfl, sqT hp, at1, l, _, _, _, rfl, rfl, SqL.of hl, atI_nat (name_get sm.1), _, rfl, p, _, _, _, rfl, rfl, sqT hp, at0, _, rfl, _, rfl, p, _, _, _, rfl, rfl, sqT hp, at2, l, _, _, _, rfl, rfl, SqL.of hl, atI_nat (name_get sm.2), w3 _ _ _, fun z hz => ?_⟩
    exact q z _ (same_new hz _) hz upd_same
  | bans x y =>
    obtain ⟨p, xs, rfl, hp, hx⟩ := hd
    obtain ⟨e1, r1, rfl, rfl, e2, r2, rfl, rfl, e3, r3, rfl, rfl, rfl⟩ := hx
    refine ⟨_, rfl, p, _, _, _, rfl, rfl, sqT hp, at0, rfl, _, rfl, ?_⟩
    refine iteNT (by decide +kernel) ?_
    refine ⟨_, rfl, _, rfl, p, _, _, _, rfl, rfl, sqT hp, at1, l, _, _, _, rfl, rfl, SqL.of hl, atI_nat (name_get sm.1), _, rfl, p, _, _, _, rfl, rfl, sqT hp, at0, _, rfl, _, rfl, p, _, _, _, rfl, rfl, sqT hp, at2, l, _, _, _, rfl, rfl, SqL.of hl, atI_nat (name_get sm.2), w3 _ _ _, fun z hz => ?_⟩
    exact q z _ (same_new hz _) hz upd_same
  | most top ps =>
    obtain ⟨p, xs, rfl, hp, hx⟩ := hd
    obtain ⟨e1, r1, rfl, rfl, e2, r2, rfl, rfl, e3, r3, rfl, ⟨pt, zs, rfl, hpt, hz⟩, rfl⟩ := hx
    obtain ⟨t60, l9, each⟩ := sm
    refine ⟨_, rfl, p, _, _, _, rfl, rfl, sqT hp, at0, rfl, _, rfl, ?_⟩
    rw [decide_eq_true rfl]
    refine iteF ?_
    refine ⟨_, rfl, p, _, _, _, rfl, rfl, sqT hp, at1, top, rfl, log_num t60, w3 _ _ _, fun kl hkl => ?_⟩
    have s1 := same_new hkl (.lst (strsL ["most", numT top, "of"]))
    refine ⟨_, rfl, p, _, _, _, rfl, rfl, sqT (s1 _ _ hp), at2, pt, rfl, ⟨zs, sqT (s1 _ _ hpt)⟩, ?_⟩
    refine for_tup (K := K) (a := pt) (xs := zs) (fun i σ H2 => (∃ v3 v4, σ = [some (.ref l), some (.ref p), some (.ref kl), v3, v4]) ∧ Same H H2 ∧ H2 kl = some (.lst (strsL ((["most", numT top, "of"] : List Str) ++ (ps.take i).flatMap fun p => [numT p.2, nameAt ns p.1])))) ⟨⟨none, none, rfl⟩, s1, by rw [upd_same]; rfl⟩ (fun i σ H2 _ z => sqT (z.2.1 _ _ hpt)) ?_ ?_
    · rintro i x σ H2 hx ⟨⟨v3, v4, rfl⟩, s2, hk⟩
      obtain ⟨e, he, hd⟩ := hz.get hx
      rw [List.getElem?_map] at he
      cases ep : ps[i]? with
      | none =>
        rw [ep] at he
        cases he
      | some pr =>
        rw [ep] at he
        cases he
        obtain ⟨pp, ys, rfl, hpp, f1, g1, rfl, rfl, f2, g2, rfl, rfl, rfl⟩ := hd
        obtain ⟨k1, k2⟩ := each pr (List.mem_of_getElem? ep)
        refine ⟨pp, _, rfl, sqT (s2 _ _ hpp), rfl, _, _, rfl, _, _, rfl, rfl, ?_⟩
        refine ⟨_, rfl, .inl ⟨rfl, _, SqL.of hk⟩, _, rfl, pr.2, rfl, log_num k2, _, rfl, _, rfl, l, _, _, _, rfl, rfl, SqL.of (s2 _ _ hl), atI_nat (name_get k1), w2 _ _, fun b hb => ?_⟩
        have hk2 := (same_new hb (.lst [V.str (numT pr.2), V.str (nameAt ns pr.1)])) _ _ hk
        refine ⟨kl, b, _, _, rfl, rfl, hk2, upd_same, ?_, ⟨_, _, rfl⟩, Wd.Same.put (s2.trans (same_new hb _)) hkl hk2, ?_⟩
        · have : ((ps.take i).flatMap fun p => [numT p.2, nameAt ns p.1]).length ≤ 2 * 9 := flat2_len _ (by rw [List.length_take]; omega)
          rw [strsL, List.length_map, List.length_append]
          exact small (by show 3 + _ + 2 ≤ 1000; omega)
        · rw [upd_same, flatMap_take ep, ← List.append_assoc, strs_app _ [numT pr.2, nameAt ns pr.1]]
          rfl
    · rintro σ H2 ⟨⟨v3, v4, rfl⟩, s2, hk⟩
      rw [← hz.length, List.length_map, List.take_length] at hk
      exact ⟨_, rfl, q kl H2 s2 hkl hk⟩

end
section
variable {P : Program} {w : World} {K : PySem.W.Frag} {mg : Str → Option Value} {base : Heap} {a : Adr} {d : Fds}
theorem ok_shown (T : Txt K mg a d) : FnOk P w K mg base CX0 2 a.f_shown d.f_shown ["names", "wood"] spShown := by
  have G_words_of_bounds := ok_words_of_bounds (P := P) (w := w) (base := base) T
  have G_words_of_cross_tie := ok_words_of_cross_tie (P := P) (w := w) (base := base) T
  refine T.K_shown.ok sc_shown (fun vs H Q E h => ?_) (fun cdv A outer s H vs Q E hr h => ?_)
  · obtain ⟨l, wd, tb, tc, ns, L, C, rfl, _⟩ := h
    rfl
  obtain ⟨l, wd, tb, tc, ns, L, C, rfl, hl, W, h1000, n8, sml, q⟩ := h
  have m9 := W.m9
  refine ⟨_, (pss_cons (ps_set (i := 2) sc_shown.nd rfl (Or.inl rfl) (pe_lst (pa_cons (pe_op op_cat (pe_lst (pa_cons pe_str pa_nil)) (pv 0)) pa_nil)))
      (pss_cons (ps_for PassesOwn.never rfl (piT (K := K) (pe_ix (ixT (K := K)) (pv 1) pe_int (fun _ _ => rfl))) (pgT (K := K) (n := 4) rfl (pgs_cons (pg_name (i := 3) sc_shown.nd rfl (Or.inl rfl)) (pgs_cons (pg_name (i := 4) sc_shown.nd rfl (Or.inl rfl)) (pgs_cons (pg_name (i := 5) sc_shown.nd rfl (Or.inl rfl)) (pgs_cons (pg_name (i := 6) sc_shown.nd rfl (Or.inl rfl)) pgs_nil))))) (pss_one (ps_expr (pe_bmK (K := K) PySem.F.plainAttrs_list PySem.F.slot_list_append PySem.F.type_list_append mt_append (pv 2) (pa_cons (pe_op op_cat (pe_op op_cat (pe_lst (pa_cons (pe_ix (ixL (K := K)) (pv 0) (pv 3) (fun _ _ => rfl)) pa_nil)) (pe_callD G_words_of_bounds hr.lv rfl T.K_words_of_bounds (pa_cons (pv 4) (pa_cons (pv 5) (pa_cons (pe_callB (lenS (K := K)) rfl T.m_len PySem.boot_len (pa_cons (pv 6) pa_nil)) pa_nil))))) (pe_lc (sc0 := defScope s_shown) (XN := ["names", "wood", "lines", "up", "low", "high", "kids", "tie"]) (N' := ["k", "names"]) (n := 1) (kp := [0]) rfl (piT (K := K) (pv 6)) rfl rfl (by decide +kernel) (fun _ _ _ _ _ => (pg_name (i := 0) (by show List.Nodup (["k", "names"] : List Str); decide +kernel) rfl (Or.inl rfl))) (fun _ _ _ _ _ => pts_nil) (fun _ _ _ _ _ => (pe_ix (ixL (K := K)) (pv 1) (pv 0) (fun _ _ => rfl))))) pa_nil)))))
      (pss_cons (ps_for PassesOwn.never rfl (piT (K := K) (pe_ix (ixT (K := K)) (pv 1) pe_int (fun _ _ => rfl))) (pg_name (i := 7) sc_shown.nd rfl (Or.inl rfl)) (pss_one (ps_expr (pe_bmK (K := K) PySem.F.plainAttrs_list PySem.F.slot_list_append PySem.F.type_list_append mt_append (pv 2) (pa_cons (pe_callD G_words_of_cross_tie hr.lv rfl T.K_words_of_cross_tie (pa_cons (pv 0) (pa_cons (pv 7) pa_nil))) pa_nil)))))
      (pss_one (ps_ret (pe_bmK (K := K) PySem.F.plainAttrs_str PySem.F.slot_str_join PySem.F.type_str_join (mt_joinK (K := K)) pe_str (pa_cons (pe_lc (sc0 := defScope s_shown) (XN := ["names", "wood", "lines", "up", "low", "high", "kids", "tie"]) (N' := ["words"]) (n := 1) (kp := []) rfl (piL (K := K) (pv 2)) rfl rfl (by decide +kernel) (fun _ _ _ _ _ => (pg_name (i := 0) (by show List.Nodup (["words"] : List Str); decide +kernel) rfl (Or.inl rfl))) (fun _ _ _ _ _ => pts_nil) (fun _ _ _ _ _ => (pe_bmK (K := K) PySem.F.plainAttrs_str PySem.F.slot_str_join PySem.F.type_str_join (mt_joinK (K := K)) pe_str (pa_cons (pv 0) pa_nil)))) pa_nil))))))), ?_⟩
  refine ⟨w1 _, fun p0 hp0 => ?_⟩
  have s0 := same_new hp0 (.lst (strsL ["ware"]))
  refine ⟨_, rfl, p0, l, _, _, rfl, rfl, upd_same, s0 _ _ hl, ?_, fun p1 hp1 => ⟨w1 _, fun kl hkl => ?_⟩⟩
  · rw [strsL, List.length_map]
    exact small (by show 1 + _ ≤ 1000; omega)
  have s1 := s0.trans (same_new hp1 (.lst (strsL ((["ware"] : List Str) ++ ns))))
  have s1' : Same H (upd (upd H p0 (.lst [V.str "ware"])) p1 (.lst ([V.str "ware"] ++ strsL ns))) := s1
  obtain ⟨H1, hH1⟩ : ∃ H1, H1 = upd (upd H p0 (.lst [V.str "ware"])) p1 (.lst ([V.str "ware"] ++ strsL ns)) := ⟨_, rfl⟩
  have a1 : H1 p1 = some (.lst (strsL ((["ware"] : List Str) ++ ns))) := by
    rw [hH1]
    exact upd_same
  rw [← hH1] at hkl s1' ⊢
  clear s1
  have fkl : H kl = none := s1'.free hkl
  have n1 : p1 ≠ kl := ne_of_none a1 hkl
  have s2 := s1'.trans (same_new hkl (.lst [.ref p1]))
  obtain ⟨xs, ht, hx⟩ := W.bs
  obtain ⟨ys, htc, hy⟩ := W.cs
  have lx := hx.length
  have ly := hy.length
  rw [List.length_map, List.length_map] at lx
  rw [List.length_map] at ly
  have fb := W.fewb
  have fc := W.fewc
  refine ⟨_, rfl, wd, _, _, _, rfl, rfl, sqT (s2 _ _ W.at_), at1, tb, rfl, ⟨xs, sqT (s2 _ _ ht)⟩, ?_⟩
  refine for_tup (K := K) (a := tb) (xs := xs) (fun i σ H2 => (∃ v3 v4 v5 v6 v7, σ = [some (.ref l), some (.ref wd), some (.ref kl), v3, v4, v5, v6, v7]) ∧ Same H H2 ∧ LinesAt H2 kl (linesB ns (L.take i))) ⟨⟨none, none, none, none, none, rfl⟩, s2, ⟨_, upd_same, rfl, fun j ws e => ?_⟩⟩ (fun i σ H2 _ z => sqT (z.2.1 _ _ ht)) ?_ ?_
  · cases j with
    | zero =>
      cases e
      exact ⟨p1, rfl, n1, by rw [upd_ne n1]; exact a1⟩
    | succ j => cases e
  · rintro i x σ H2 hxi ⟨⟨v3, v4, v5, v6, v7, rfl⟩, sm, ⟨refs, r1, r2, r3⟩⟩
    obtain ⟨e, he, hd⟩ := hx.get hxi
    rw [List.map_map, List.getElem?_map] at he
    cases eb : L[i]? with
    | none =>
      rw [eb] at he
      cases he
    | some b =>
      rw [eb] at he
      cases he
      obtain ⟨pb, zs, rfl, hpb, f1, g1, rfl, rfl, f2, g2, rfl, rfl, f3, g3, rfl, rfl, f4, g4, rfl, ⟨pk, zk, rfl, hpk, hzk⟩, rfl⟩ := hd
      have ok := W.okb b (List.mem_of_getElem? eb)
      have hi1000 := h1000 b (List.mem_of_getElem? eb)
      have zk' : zk = natsL b.ks := nats_of hzk
      subst zk'
      obtain ⟨lo, elo⟩ : ∃ n : Nat, b.lo = (n : Int) := ⟨b.lo.toNat, (Int.toNat_of_nonneg ok.lo0).symm⟩
      obtain ⟨hi, ehi⟩ : ∃ n : Nat, b.hi = (n : Int) := ⟨b.hi.toNat, (Int.toNat_of_nonneg (Int.le_trans ok.lo0 ok.lohi)).symm⟩
      have l1 : lo ≤ 1000 := by
        have := ok.lohi
        omega
      have l2 : hi ≤ 1000 := by omega
      have k9 := ok.few
      have nk : (natsL b.ks).length = b.ks.length := by rw [natsL, List.length_map]
      refine ⟨pb, _, rfl, sqT (sm _ _ hpb), rfl, _, _, rfl, _, _, rfl, _, _, rfl, _, _, rfl, rfl, ?_⟩
      refine ⟨_, rfl, .inl ⟨rfl, _, SqL.of r1⟩, _, rfl, _, rfl, l, _, _, _, rfl, rfl, SqL.of (sm _ _ hl), atI_nat (name_get ok.um), w1 _, fun a1 ha1 => ?_⟩
      have t1 := same_new ha1 (.lst (strsL [nameAt ns b.u]))
      have m1 := sm.trans t1
      refine ⟨_, rfl, _, rfl, _, rfl, pk, _, rfl, .inr (sqT (m1 _ _ hpk)), lo, hi, b.ks.length, by rw [elo, ehi, nk]; rfl, l1, l2, fun a2 ha2 => ?_⟩
      have t2 := t1.trans (same_new ha2 (.lst (strsL (boundW lo hi b.ks.length))))
      obtain ⟨sb4, _⟩ := short_bound (m := b.ks.length) l1 l2
      refine ⟨a1, a2, _, _, rfl, rfl, (same_new ha2 _) _ _ upd_same, upd_same, ?_, fun a3 ha3 => ?_⟩
      · rw [strsL, List.length_map]
        exact small (by show 1 + _ ≤ 1000; omega)
      have t3 := t2.trans (same_new ha3 (.lst ([V.str (nameAt ns b.u)] ++ strsL (boundW lo hi b.ks.length))))
      obtain ⟨H3, hH3⟩ : ∃ H3, H3 = upd (upd (upd H2 a1 (.lst [V.str (nameAt ns b.u)])) a2 (.lst (strsL (boundW lo hi b.ks.length)))) a3 (.lst ([V.str (nameAt ns b.u)] ++ strsL (boundW lo hi b.ks.length))) := ⟨_, rfl⟩
      have c3 : H3 a3 = some (.lst (strsL (nameAt ns b.u :: boundW lo hi b.ks.length))) := by
        rw [hH3]
        exact upd_same
      rw [← hH3] at t3 ⊢
      clear t2 t1 hH3
      have m3 := sm.trans t3
      refine ⟨_, rfl, pk, rfl, ⟨_, sqT (m3 _ _ hpk)⟩, ?_⟩
      refine lc_tup (K := K) (a := pk) (xs := natsL b.ks) (fun j zs σ H5 => (∃ v, σ = [v, some (.ref l)]) ∧ H5 = H3 ∧ zs = strsL ((b.ks.take j).map (nameAt ns))) ⟨⟨none, rfl⟩, rfl, rfl⟩ (fun j zs σ H5 hj pv => ?_) (fun j zs σ H5 hj pv => ?_) (fun j x zs σ H5 hxj pv => ?_) (fun zs σ H5 pv a4 ha4 => ?_)
      · obtain ⟨_, _, rfl⟩ := pv
        rw [strsL, List.length_map, List.length_map, List.length_take]
        exact small (by omega)
      · obtain ⟨_, rfl, _⟩ := pv
        exact sqT (m3 _ _ hpk)
      · obtain ⟨⟨v, rfl⟩, rfl, rfl⟩ := pv
        unfold natsL at hxj
        rw [List.getElem?_map] at hxj
        cases ek : b.ks[j]? with
        | none =>
          rw [ek] at hxj
          cases hxj
        | some k =>
          rw [ek] at hxj
          cases hxj
          refine ⟨_, rfl, _, rfl, l, _, _, _, rfl, rfl, SqL.of (m3 _ _ hl), atI_nat (name_get (ok.up k (List.mem_of_getElem? ek)).2), ⟨_, rfl⟩, rfl, ?_⟩
          rw [List.take_succ, ek, List.map_append, strs_app]
          rfl
      · obtain ⟨_, rfl, rfl⟩ := pv
        rw [nk, List.take_length]
        have t4 := t3.trans (same_new ha4 (.lst (strsL (b.ks.map (nameAt ns)))))
        refine ⟨a3, a4, _, _, rfl, rfl, (same_new ha4 _) _ _ c3, upd_same, ?_, fun a5 ha5 => ?_⟩
        · rw [strsL, strsL, List.length_map, List.length_map, List.length_map, List.length_cons]
          exact small (by omega)
        have t5 := t4.trans (same_new ha5 (.lst (strsL (nameAt ns b.u :: boundW lo hi b.ks.length) ++ strsL (b.ks.map (nameAt ns)))))
        have r5 := t5 _ _ r1
        have nr : refs.length ≤ 21 := by
          rw [r2, linesB, List.length_cons, List.length_map, List.length_take]
          omega
        refine ⟨kl, refs, _, rfl, rfl, r5, Nat.lt_of_le_of_lt nr (by rw [sizeLine_eq]; decide), ⟨_, _, _, _, _, rfl⟩, Wd.Same.put (sm.trans t5) fkl r5, ?_⟩
        have e1 : linesB ns (L.take (i + 1)) = linesB ns (L.take i) ++ [boughW ns b.u lo hi b.ks] := by
          unfold linesB
          rw [List.take_succ, eb, List.map_append, show (Option.toList (some b)).map (fun b : Bg => boughW ns b.u b.lo.toNat b.hi.toNat b.ks) = [boughW ns b.u lo hi b.ks] from by rw [Option.toList_some, List.map_cons, elo, ehi]; rfl]
          rfl
        rw [e1]
        refine LinesAt.snoc (LinesAt.same t5 ⟨refs, r1, r2, r3⟩) r5 ?_ (fun z => ?_)
        · rw [upd_same, ← strs_app]
          rfl
        · subst z
          rw [t4 _ _ r1] at ha5
          cases ha5
  · rintro σ H2 ⟨⟨v3, v4, v5, v6, v7, rfl⟩, sm, hl0⟩
    rw [← lx, List.take_length] at hl0
    refine ⟨_, rfl, wd, _, _, _, rfl, rfl, sqT (sm _ _ W.at_), at2, tc, rfl, ⟨ys, sqT (sm _ _ htc)⟩, ?_⟩
    refine for_tup (K := K) (a := tc) (xs := ys) (fun i σ H2 => (∃ v3 v4 v5 v6 v7, σ = [some (.ref l), some (.ref wd), some (.ref kl), v3, v4, v5, v6, v7]) ∧ Same H H2 ∧ LinesAt H2 kl (linesB ns L ++ (C.take i).map (tieW ns))) ⟨⟨_, _, _, _, _, rfl⟩, sm, by rw [List.take_zero, List.map_nil, List.append_nil]; exact hl0⟩ (fun i σ H2 _ z => sqT (z.2.1 _ _ htc)) ?_ ?_
    · rintro i x σ H3 hxi ⟨⟨v3, v4, v5, v6, v7, rfl⟩, sm3, ⟨refs, r1, r2, r3⟩⟩
      obtain ⟨e, he, hd⟩ := hy.get hxi
      rw [List.getElem?_map] at he
      cases eb : C[i]? with
      | none =>
        rw [eb] at he
        cases he
      | some c =>
        rw [eb] at he
        cases he
        have mc := List.mem_of_getElem? eb
        have ic : isCross c = true := by
          cases c with
          | bough u lo hi ks => exact absurd rfl (W.nb _ mc u lo hi ks)
          | _ => rfl
        refine ⟨_, rfl, .inl ⟨rfl, _, SqL.of r1⟩, _, rfl, _, rfl, l, ns, x, c, rfl, sm3 _ _ hl, Dn.same sm3 _ _ hd, ic, sml c mc, fun a5 H5 t5 na5 ha5 => ?_⟩
        have r5 := t5 _ _ r1
        have nr : refs.length ≤ 41 := by
          rw [r2, List.length_append, linesB, List.length_cons, List.length_map, List.length_map, List.length_take]
          omega
        refine ⟨kl, refs, _, rfl, rfl, r5, Nat.lt_of_le_of_lt nr (by rw [sizeLine_eq]; decide), ⟨_, _, _, _, _, rfl⟩, Wd.Same.put (sm3.trans t5) fkl r5, ?_⟩
        rw [List.take_succ, eb, List.map_append, ← List.append_assoc]
        refine LinesAt.snoc (LinesAt.same t5 ⟨refs, r1, r2, r3⟩) r5 ha5 (fun z => ?_)
        subst z
        rw [r1] at na5
        cases na5
    · rintro σ H3 ⟨⟨v3, v4, v5, v6, v7, rfl⟩, sm3, ⟨refs, r1, r2, r3⟩⟩
      rw [← ly, List.take_length] at r2 r3
      have ll : (linesOf ns L C).length ≤ 41 := by
        rw [linesOf, linesB, List.length_append, List.length_cons, List.length_map, List.length_map]
        omega
      have sh : ∀ ws ∈ linesOf ns L C, ShortL ws := fun ws hw => by
        rcases List.mem_append.mp hw with y | y
        · rcases List.mem_cons.mp y with y | y
          · rw [y]
            exact short_ware m9 n8
          · obtain ⟨b, hb, rfl⟩ := List.mem_map.mp y
            have ok := W.okb b hb
            have k9 := ok.few
            have := h1000 b hb
            have := ok.lohi
            exact short_bough n8 (by omega) (by omega) (by omega)
        · obtain ⟨c, hc, rfl⟩ := List.mem_map.mp y
          exact short_tie n8 (sml c hc)
      refine ⟨rfl, _, rfl, kl, rfl, ⟨_, SqL.of r1⟩, ?_⟩
      refine lc_list (K := K) (a := kl) (xs := refs) (fun j zs σ H5 => (∃ v, σ = [v]) ∧ H5 = H3 ∧ zs = strsL (((linesOf ns L C).take j).map (Str.join " "))) ⟨⟨none, rfl⟩, rfl, rfl⟩ (fun j zs σ H5 hj pv => ?_) (fun j zs σ H5 hj pv => ?_) (fun j x zs σ H5 hxj pv => ?_) (fun zs σ H5 pv p hp => ?_)
      · obtain ⟨_, _, rfl⟩ := pv
        rw [strsL, List.length_map, List.length_map, List.length_take]
        exact small (by omega)
      · obtain ⟨_, rfl, _⟩ := pv
        exact SqL.of r1
      · obtain ⟨⟨v, rfl⟩, rfl, rfl⟩ := pv
        have jl : j < (linesOf ns L C).length := by
          have := (List.getElem?_eq_some_iff.mp hxj).1
          have e : refs.length = (linesOf ns L C).length := r2
          omega
        have ej := List.getElem?_eq_getElem jl
        obtain ⟨a, x1, _, x2⟩ := r3 j _ ej
        rw [x1] at hxj
        cases hxj
        refine ⟨rfl, _, rfl, " ", a, _, rfl, rfl, SqL.of x2, (short_join (sh _ (List.getElem_mem jl))).1, ⟨_, rfl⟩, rfl, ?_⟩
        rw [List.take_succ, ej, List.map_append, strs_app]
        rfl
      · obtain ⟨_, rfl, rfl⟩ := pv
        rw [show refs.length = (linesOf ns L C).length from r2, List.take_length]
        have hs := sum_len (b := 2000) (ws := (linesOf ns L C).map (Str.join " ")) fun z hz => by
          obtain ⟨ws, hw, rfl⟩ := List.mem_map.mp hz
          exact (short_join (sh ws hw)).2
        rw [List.length_map] at hs
        refine ⟨"\n", p, _, rfl, rfl, SqL.of upd_same, ?_, q _ (sm3.trans (same_new hp _))⟩
        rw [List.length_map, show (("\n") : Str).length = 1 from rfl]
        omega

end
section
variable {P : Program} {w : World} {K : PySem.W.Frag} {mg : Str → Option Value} {base : Heap} {a : Adr} {d : Fds}
theorem ok_show_set (T : Txt K mg a d) : FnOk P w K mg base CX0 3 a.f_show_set d.f_show_set ["names", "some"] spShowSet := by
  have G_options_of := ok_options_of (P := P) (w := w) (base := base) T
  refine T.K_show_set.ok sc_show_set (fun vs H Q E h => ?_) (fun cdv A outer s H vs Q E hr h => ?_)
  · obtain ⟨l, ns, n, rfl, _⟩ := h
    rfl
  obtain ⟨l, ns, n, rfl, hl, n9, lt, ln, q⟩ := h
  have b9 : (bitsL n).length ≤ 9 := by
    refine Nat.le_trans (List.length_filter_le _ _) ?_
    rw [List.length_range]
    exact bits_le9 n9
  refine ⟨_, (pss_one (ps_ret (pe_bmK (K := K) PySem.F.plainAttrs_str PySem.F.slot_str_join PySem.F.type_str_join (mt_joinK (K := K)) pe_str (pa_cons (pe_lc (sc0 := defScope s_show_set) (XN := ["names", "some"]) (N' := ["k", "names"]) (n := 1) (kp := [0]) rfl (piL (K := K) (pe_callD G_options_of hr.lv rfl T.K_options_of (pa_cons (pv 1) pa_nil))) rfl rfl (by decide +kernel) (fun _ _ _ _ _ => (pg_name (i := 0) (by show List.Nodup (["k", "names"] : List Str); decide +kernel) rfl (Or.inl rfl))) (fun _ _ _ _ _ => pts_nil) (fun _ _ _ _ _ => (pe_ix (ixL (K := K)) (pv 1) (pv 0) (fun _ _ => rfl)))) pa_nil)))), ?_⟩
  refine ⟨rfl, _, rfl, n, rfl, n9, fun lb H1 s1 nb hb => ⟨lb, rfl, ⟨_, SqL.of hb⟩, ?_⟩⟩
  have hl1 : H1 l = some (.lst (strsL ns)) := s1 _ _ hl
  refine lc_list (K := K) (a := lb) (xs := natsL (bitsL n)) (fun i ys σ H2 => (∃ v, σ = [v, some (.ref l)]) ∧ H2 = H1 ∧ ys = strsL (((bitsL n).take i).map (nameAt ns))) ⟨⟨none, rfl⟩, rfl, rfl⟩ (fun i ys σ H2 hi pv => ?_) (fun i ys σ H2 hi pv => ?_) (fun i x ys σ H2 hx pv => ?_) (fun ys σ H2 pv p hp => ?_)
  · obtain ⟨_, _, rfl⟩ := pv
    rw [strsL, List.length_map, List.length_map, List.length_take]
    exact small (by omega)
  · obtain ⟨_, rfl, _⟩ := pv
    exact SqL.of hb
  · obtain ⟨⟨v, rfl⟩, rfl, rfl⟩ := pv
    unfold natsL at hx
    rw [List.getElem?_map] at hx
    cases ek : (bitsL n)[i]? with
    | none =>
      rw [ek] at hx
      cases hx
    | some k =>
      rw [ek] at hx
      cases hx
      refine ⟨_, rfl, _, rfl, l, _, _, _, rfl, rfl, SqL.of hl1, atI_nat (name_get (lt k (List.mem_of_getElem? ek))), ⟨_, rfl⟩, rfl, ?_⟩
      rw [List.take_succ, ek, List.map_append]
      unfold strsL
      rw [List.map_append]
      rfl
  · obtain ⟨_, rfl, rfl⟩ := pv
    rw [show (natsL (bitsL n)).length = (bitsL n).length from by rw [natsL, List.length_map], List.take_length]
    have hs := sum_len (b := 1000) (ws := (bitsL n).map (nameAt ns)) fun z hz => by
      obtain ⟨k, _, rfl⟩ := List.mem_map.mp hz
      exact nameAt_len ln k
    rw [List.length_map] at hs
    refine ⟨",", p, _, rfl, rfl, SqL.of upd_same, ?_, q _ (s1.trans (same_new hp _))⟩
    rw [List.length_map, show ((",") : Str).length = 1 from rfl]
    omega

end
section
variable {P : Program} {w : World} {K : PySem.W.Frag} {mg : Str → Option Value} {base : Heap} {a : Adr} {d : Fds}
theorem ok_law_take (T : Txt K mg a d) : FnOk P w K mg base CX0 1 a.f_law_take d.f_law_take ["_law_state", "_law_most_here"] (spNext K) := by
  refine T.K_law_take.ok sc_law_take (fun vs H Q E h => ?_) (fun cdv A outer s H vs Q E hr h => ?_)
  · obtain ⟨pen, sp, ns, most, k, rfl, _⟩ := h
    rfl
  obtain ⟨pen, sp, ns, most, k, rfl, pn, k0, k1, m0, q⟩ := h
  have hp := pn.at_
  have el : (ns.map V.int).length = ns.length := List.length_map _
  have kk0 : 0 ≤ k * k := Int.mul_nonneg k0 k0
  have kk1 : k * k ≤ 1000000 * 1000000 := Int.mul_le_mul k1 k1 k0 (by decide)
  have p64 : (2 : Int) ^ 64 = 18446744073709551616 := by decide
  have item : ∀ j : Int, 0 ≤ j → j < ns.length → ∃ v : Int, atI (ns.map V.int) j = some (.int v) := fun j j0 j1 => by
    obtain ⟨m, rfl⟩ : ∃ m : Nat, j = (m : Int) := ⟨j.toNat, by omega⟩
    have hj : m < ns.length := by omega
    refine ⟨ns[m], atI_nat ?_⟩
    rw [List.getElem?_map, List.getElem?_eq_getElem hj]
    rfl
  have last : ∃ t, PSs (cxOf CX0 P w K mg base ["_law_state", "_law_most_here", "_law_at", "_law_script", "_law_mingled"] "_law_take" (defScope s_law_take) a.f_law_take cdv A outer s H E).nox ((defBody s_law_take).drop 6) t ∧ ∀ (N : Int) (v0 v2 v3 : Option V), 0 ≤ N → N ≤ 1000000000000000 → t { nx := fun _ H' => Q .non H', rt := Q } [v0, some (.int most), v2, v3, some (.int N)] (L2.upd H pen (.lst [.ref sp, .int (k + 1)])) := by
    refine ⟨_, (pss_one (ps_ret (pe_op op_mod (pe_op op_mod (pe_op op_mul (pv 4) (pv 4)) pe_int) (pv 1)))), fun N v0 v2 v3 n0 n1 => ?_⟩
    refine ⟨_, rfl, _, rfl, _, _, rfl, rfl, .inl ⟨by rw [p64]; omega, by rw [p64]; omega⟩, _, _, rfl, rfl, (by show (0 : Int) < 2147483647; decide), _, rfl, _, _, rfl, rfl, m0, ?_⟩
    exact q _ (Int.emod_nonneg _ (by omega)) (Int.emod_lt_of_pos _ m0)
  obtain ⟨t6, h6, r6⟩ := last
  refine ⟨_, (pss_cons (ps_set (i := 2) sc_law_take.nd rfl (Or.inl rfl) (pe_ix (ixL (K := K)) (pv 0) pe_int (fun _ _ => rfl)))
      (pss_cons (ps_asg (pe_op op_add (pv 2) pe_int) (pg_sub (pv 0) pe_int set_list))
      (pss_cons (ps_set (i := 3) sc_law_take.nd rfl (Or.inl rfl) (pe_ix (ixL (K := K)) (pv 0) pe_int (fun _ _ => rfl)))
      (pss_cons (ps_if (pt_cmpR op_lt (pv 2) (pe_callB (lenS (K := K)) rfl T.m_len PySem.boot_len (pa_cons (pv 3) pa_nil)) (nomark _)) (pss_one (ps_ret (pe_op op_mod (pe_ix (ixL (K := K)) (pv 3) (pv 2) (fun _ _ => rfl)) (pv 1)))) pss_nil)
      (pss_cons (ps_set (i := 4) sc_law_take.nd rfl (Or.inl rfl) (pe_op op_add (pe_op op_add (pe_op op_mul (pv 2) (pv 2)) (pe_op op_mul pe_int (pv 2))) pe_int))
      (pss_cons (ps_if (pt_cmpR op_gt (pe_callB (lenS (K := K)) rfl T.m_len PySem.boot_len (pa_cons (pv 3) pa_nil)) pe_int (nomark _)) (pss_one (ps_set (i := 4) sc_law_take.nd rfl (Or.inl rfl) (pe_op op_add (pv 4) (pe_op op_mul (pe_op op_mod (pe_ix (ixL (K := K)) (pv 3) (pe_op op_mod (pe_op op_add (pe_op op_mul pe_int (pv 2)) pe_int) (pe_callB (lenS (K := K)) rfl T.m_len PySem.boot_len (pa_cons (pv 3) pa_nil))) (fun _ _ => rfl)) pe_int) pe_int)))) pss_nil)
      h6)))))), ?_⟩
  refine ⟨_, rfl, pen, _, _, _, rfl, rfl, SqL.of hp, rfl, ?_⟩
  refine ⟨_, rfl, _, _, rfl, rfl, _, rfl, pen, _, _, _, rfl, rfl, hp, rfl, ?_⟩
  have hS := pn.scr _ (sameX_pen (pen := pen) (H := H) (.lst [.ref sp, .int (k + 1)]))
  have hp1 : L2.upd H pen (.lst [.ref sp, .int (k + 1)]) pen = some (.lst [.ref sp, .int (k + 1)]) := upd_same
  refine ⟨_, rfl, pen, _, _, _, rfl, rfl, SqL.of hp1, rfl, ?_⟩
  refine ⟨_, rfl, _, rfl, sp, _, rfl, .inl hS, _, _, rfl, rfl, _, rfl, ?_⟩
  refine ite2 (fun c => ?_) (fun c => ?_)
  · have c' : k < ((ns.map V.int).length : Nat) := of_decide_eq_true c
    rw [el] at c'
    obtain ⟨v, hv⟩ := item k k0 c'
    exact ⟨_, rfl, _, rfl, sp, _, _, _, rfl, rfl, hS, hv, _, rfl, _, _, rfl, rfl, m0, q _ (Int.emod_nonneg _ (by omega)) (Int.emod_lt_of_pos _ m0)⟩
  refine ⟨_, rfl, _, rfl, _, _, rfl, rfl, (by unfold CMul; omega), _, rfl, _, _, rfl, rfl, .inl ⟨by decide, by decide⟩, _, _, rfl, rfl, _, _, rfl, rfl, ?_⟩
  refine ⟨_, rfl, sp, _, rfl, .inl hS, _, _, rfl, rfl, _, rfl, ?_⟩
  refine ite2 (fun c2 => ?_) (fun c2 => ?_)
  · have c2' : (0 : Int) < ((ns.map V.int).length : Nat) := of_decide_eq_true c2
    rw [el] at c2'
    have m0' : 0 ≤ (5 * k + 2) % (ns.length : Int) := Int.emod_nonneg _ (by omega)
    have m1' : (5 * k + 2) % (ns.length : Int) < ns.length := Int.emod_lt_of_pos _ c2'
    obtain ⟨v, hv⟩ := item _ m0' m1'
    have v0 : 0 ≤ v % 2147483629 := Int.emod_nonneg _ (by decide)
    have v1 : v % 2147483629 < 2147483629 := Int.emod_lt_of_pos _ (by decide)
    refine ⟨_, rfl, _, rfl, _, rfl, _, _, rfl, rfl, .inl ⟨by decide, by decide⟩, _, _, rfl, rfl, _, rfl, sp, _, rfl, .inl hS, _, _, rfl, rfl, (by rw [el]; exact c2'), sp, _, _, _, rfl, rfl, hS, (by rw [el]; exact hv), ?_⟩
    refine ⟨_, _, rfl, rfl, (by show (0 : Int) < 2147483629; decide), _, _, rfl, rfl, .inr ⟨by decide, by decide⟩, _, _, rfl, rfl, ?_⟩
    exact r6 _ _ _ _ (by omega) (by omega)
  · exact r6 _ _ _ _ (by omega) (by omega)

end
section
variable {P : Program} {w : World} {K : PySem.W.Frag} {mg : Str → Option Value} {base : Heap} {a : Adr} {d : Fds}
theorem ok_law_bough (T : Txt K mg a d) : FnOk P w K mg base CX0 3 a.f_law_bough d.f_law_bough ["_law_state", "_law_up", "_law_kids"] (spBoughT K) := by
  have G_law_take := ok_law_take (P := P) (w := w) (base := base) T
  refine T.K_law_bough.ok sc_law_bough (fun vs H Q E h => ?_) (fun cdv A outer s H vs Q E hr h => ?_)
  · obtain ⟨pen, sp, ns, tk, u, kids, m, k, rfl, _⟩ := h
    rfl
  obtain ⟨pen, sp, ns, tk, u, kids, m, k, rfl, pn, k0, k1, hk, kl, u0, kne, ris, q⟩ := h
  have el : (kids.map V.int).length = kids.length := List.length_map _
  have kp := List.length_pos_iff.mpr kne
  have done : ∀ (lo hi k' : Int) (H1 : Hp), SameX pen H H1 → H1 pen = some (.lst [.ref sp, .int k']) → k ≤ k' → k' ≤ k + 3 → 0 ≤ lo → lo ≤ hi → 1 ≤ hi → hi ≤ kids.length → ∀ tb, H1 tb = none → Q (.ref tb) (L2.upd H1 tb (.tup [.int u, .int lo, .int hi, .ref tk])) := by
    intro lo hi k' H1 sx hp kk0 kk1 l0 l1 h1 h2 tb htb
    have s1 := same_new htb (.tup [.int u, .int lo, .int hi, .ref tk])
    refine q (bghD u lo hi kids) _ k' _ (sx.trans (Same.x s1)) (s1 _ _ hp) kk0 kk1 ?_ (bgh_ok u0 kne ris l0 l1 h1 h2) (bgh_flat _ _ _ _ (by omega)) (bgh_kids _ _ _ _)
    exact ⟨tb, _, rfl, upd_same, _, _, rfl, rfl, _, _, rfl, rfl, _, _, rfl, rfl, _, _, rfl, ⟨tk, _, rfl, s1 _ _ (SameX.tup pn.at_ sx _ _ hk), ints_dnl kids⟩, rfl⟩
  refine ⟨_, (pss_cons (ps_set (i := 3) sc_law_bough.nd rfl (Or.inl rfl) (pe_callB (lenS (K := K)) rfl T.m_len PySem.boot_len (pa_cons (pv 2) pa_nil)))
      (pss_cons (ps_set (i := 4) sc_law_bough.nd rfl (Or.inl rfl) (pe_callD G_law_take hr.lv rfl T.K_law_take (pa_cons (pv 0) (pa_cons pe_int pa_nil))))
      (pss_cons (ps_if (pt_cmpR op_eq (pv 4) pe_int (nomark _)) (pss_one (ps_ret (pe_tup (pa_cons (pv 1) (pa_cons pe_int (pa_cons (pv 3) (pa_cons (pv 2) pa_nil))))))) pss_nil)
      (pss_cons (ps_if (pt_cmpR op_eq (pv 4) pe_int (nomark _)) (pss_one (ps_ret (pe_tup (pa_cons (pv 1) (pa_cons pe_int (pa_cons pe_int (pa_cons (pv 2) pa_nil))))))) pss_nil)
      (pss_cons (ps_if (pt_cmpR op_eq (pv 4) pe_int (nomark _)) (pss_one (ps_ret (pe_tup (pa_cons (pv 1) (pa_cons (pv 3) (pa_cons (pv 3) (pa_cons (pv 2) pa_nil))))))) pss_nil)
      (pss_cons (ps_set (i := 5) sc_law_bough.nd rfl (Or.inl rfl) (pe_op op_add pe_int (pe_callD G_law_take hr.lv rfl T.K_law_take (pa_cons (pv 0) (pa_cons (pv 3) pa_nil)))))
      (pss_one (ps_ret (pe_tup (pa_cons (pv 1) (pa_cons (pe_callD G_law_take hr.lv rfl T.K_law_take (pa_cons (pv 0) (pa_cons (pe_op op_add (pv 5) pe_int) pa_nil))) (pa_cons (pv 5) (pa_cons (pv 2) pa_nil))))))))))))), ?_⟩
  refine ⟨_, rfl, tk, _, rfl, .inr (sqT hk), ?_⟩
  rw [el]
  refine ⟨_, rfl, pen, sp, ns, 5, k, rfl, pn, by omega, by omega, by decide, fun w1 w10 w11 => ?_⟩
  have sx1 := sameX_pen (pen := pen) (H := H) (.lst [.ref sp, .int (k + 1)])
  have g1 : L2.upd H pen (.lst [.ref sp, .int (k + 1)]) pen = some (.lst [.ref sp, .int (k + 1)]) := upd_same
  generalize L2.upd H pen (.lst [.ref sp, .int (k + 1)]) = H1 at sx1 g1 ⊢
  refine ⟨_, rfl, rfl, _, rfl, ?_⟩
  refine ite2 (fun c => ?_) (fun c => ?_)
  · refine ⟨_, rfl, _, rfl, _, rfl, small (by show 4 ≤ 1000; decide), fun tb htb => ?_⟩
    exact done 0 kids.length (k + 1) H1 sx1 g1 (by omega) (by omega) (by omega) (by omega) (by omega) (by omega) tb htb
  refine ⟨_, rfl, rfl, _, rfl, ?_⟩
  refine ite2 (fun c2 => ?_) (fun c2 => ?_)
  · refine ⟨_, rfl, _, rfl, small (by show 4 ≤ 1000; decide), fun tb htb => ?_⟩
    exact done 1 1 (k + 1) H1 sx1 g1 (by omega) (by omega) (by omega) (by omega) (by omega) (by omega) tb htb
  refine ⟨_, rfl, rfl, _, rfl, ?_⟩
  refine ite2 (fun c3 => ?_) (fun c3 => ?_)
  · refine ⟨_, rfl, _, rfl, _, rfl, _, rfl, small (by show 4 ≤ 1000; decide), fun tb htb => ?_⟩
    exact done kids.length kids.length (k + 1) H1 sx1 g1 (by omega) (by omega) (by omega) (by omega) (by omega) (by omega) tb htb
  refine ⟨_, rfl, _, rfl, pen, sp, ns, _, k + 1, rfl, pn.to sx1 g1, by omega, by omega, by omega, fun w2 w20 w21 => ?_⟩
  have sx2 := sx1.trans (sameX_pen (pen := pen) (H := H1) (.lst [.ref sp, .int (k + 1 + 1)]))
  have g2 : L2.upd H1 pen (.lst [.ref sp, .int (k + 1 + 1)]) pen = some (.lst [.ref sp, .int (k + 1 + 1)]) := upd_same
  generalize L2.upd H1 pen (.lst [.ref sp, .int (k + 1 + 1)]) = H2 at sx2 g2 ⊢
  refine ⟨_, _, rfl, rfl, _, rfl, _, rfl, _, rfl, _, _, rfl, rfl, pen, sp, ns, _, k + 1 + 1, rfl, pn.to sx2 g2, by omega, by omega, by omega, fun w3 w30 w31 => ?_⟩
  have sx3 := sx2.trans (sameX_pen (pen := pen) (H := H2) (.lst [.ref sp, .int (k + 1 + 1 + 1)]))
  have g3 : L2.upd H2 pen (.lst [.ref sp, .int (k + 1 + 1 + 1)]) pen = some (.lst [.ref sp, .int (k + 1 + 1 + 1)]) := upd_same
  generalize L2.upd H2 pen (.lst [.ref sp, .int (k + 1 + 1 + 1)]) = H3 at sx3 g3 ⊢
  refine ⟨_, rfl, _, rfl, small (by show 4 ≤ 1000; decide), fun tb htb => ?_⟩
  exact done w3 (1 + w2) (k + 1 + 1 + 1) H3 sx3 g3 (by omega) (by omega) (by omega) (by omega) (by omega) (by omega) tb htb

end
section
variable {P : Program} {w : World} {K : PySem.W.Frag} {mg : Str → Option Value} {base : Heap} {a : Adr} {d : Fds}
theorem ok_law_boughs (T : Txt K mg a d) : FnOk P w K mg base CX0 5 a.f_law_boughs d.f_law_boughs ["_law_state", "_law_many"] (spBoughsP K) := by
  have G_law_take := ok_law_take (P := P) (w := w) (base := base) T
  have G_law_bough := ok_law_bough (P := P) (w := w) (base := base) T
  refine T.K_law_boughs.ok sc_law_boughs (fun vs H Q E h => ?_) (fun cdv A outer s H vs Q E hr h => ?_)
  · obtain ⟨pen, sp, ns, m, k, rfl, _⟩ := h
    rfl
  obtain ⟨pen, sp, ns, m, k, rfl, pn, k0, k1, m1, m9, q⟩ := h
  have p62 : (2 : Int) ^ 62 = 4611686018427387904 := by decide
  refine ⟨_, (pss_cons (ps_set (i := 2) sc_law_boughs.nd rfl (Or.inl rfl) (pe_lst pa_nil))
      (pss_cons (ps_for PassesOwn.never rfl (pi_range2 rfl T.m_range (pa_cons pe_int (pa_cons (pv 1) pa_nil))) (pg_name (i := 3) sc_law_boughs.nd rfl (Or.inl rfl)) (pss_cons (ps_set (i := 4) sc_law_boughs.nd rfl (Or.inr rfl) (pe_callD G_law_take hr.lv rfl T.K_law_take (pa_cons (pv 0) (pa_cons (pv 3) pa_nil))))
      (pss_cons (ps_setLc (i := 5) sc_law_boughs.nd rfl rfl rfl (sc0 := defScope s_law_boughs) (XN := ["_law_state", "_law_many", "_law_groups", "_law_k", "_law_up", "_law_mates"]) (N' := ["_law_group", "_law_up"]) (n := 1) (kp := [4]) rfl (piL (K := K) (pv 2)) rfl rfl (by decide +kernel) (fun _ _ _ _ _ => (pg_name (i := 0) (by show List.Nodup (["_law_group", "_law_up"] : List Str); decide +kernel) rfl (Or.inl rfl))) (fun _ _ _ _ _ => (pts_one (pt_cmpR op_eq (pe_ix (ixT (K := K)) (pv 0) pe_int (fun _ _ => rfl)) (pv 1) (nomark _)))) (fun _ _ _ _ _ => (pv 0)))
      (pss_one (ps_if (PW.pt (pw_and (pt_cmpR op_gt (pe_callB (lenS (K := K)) rfl T.m_len PySem.boot_len (pa_cons (pv 5) pa_nil)) pe_int (nomark _)) (pw_and1 (pt_cmpR op_gt (pe_callD G_law_take hr.lv rfl T.K_law_take (pa_cons (pv 0) (pa_cons pe_int pa_nil))) pe_int (nomark _))))) (pss_one (ps_expr (pe_bmK (K := K) PySem.F.plainAttrs_list PySem.F.slot_list_append PySem.F.type_list_append mt_append (pe_ix (ixT (K := K)) (pe_ix (ixL (K := K)) (pv 5) (pe_callD G_law_take hr.lv rfl T.K_law_take (pa_cons (pv 0) (pa_cons (pe_callB (lenS (K := K)) rfl T.m_len PySem.boot_len (pa_cons (pv 5) pa_nil)) pa_nil))) (fun _ _ => rfl)) pe_int (fun _ _ => rfl)) (pa_cons (pv 3) pa_nil)))) (pss_one (ps_expr (pe_bmK (K := K) PySem.F.plainAttrs_list PySem.F.slot_list_insert PySem.F.type_list_insert mt_insert (pv 2) (pa_cons (pe_callD G_law_take hr.lv rfl T.K_law_take (pa_cons (pv 0) (pa_cons (pe_op op_add (pe_callB (lenS (K := K)) rfl T.m_len PySem.boot_len (pa_cons (pv 2) pa_nil)) pe_int) pa_nil))) (pa_cons (pe_tup (pa_cons (pv 4) (pa_cons (pe_lst (pa_cons (pv 3) pa_nil)) pa_nil))) pa_nil))))))))))
      (pss_one (ps_ret (pe_lc (sc0 := defScope s_law_boughs) (XN := ["_law_state", "_law_many", "_law_groups", "_law_k", "_law_up", "_law_mates"]) (N' := ["_law_up", "_law_kids", "_law_state"]) (n := 2) (kp := [0]) rfl (piL (K := K) (pv 2)) rfl rfl (by decide +kernel) (fun _ _ _ _ _ => (pgT (K := K) (n := 2) rfl (pgs_cons (pg_name (i := 0) (by show List.Nodup (["_law_up", "_law_kids", "_law_state"] : List Str); decide +kernel) rfl (Or.inl rfl)) (pgs_cons (pg_name (i := 1) (by show List.Nodup (["_law_up", "_law_kids", "_law_state"] : List Str); decide +kernel) rfl (Or.inl rfl)) pgs_nil)))) (fun _ _ _ _ _ => pts_nil) (fun _ _ _ _ _ => (pe_callD G_law_bough hr.lv rfl T.K_law_bough (pa_cons (pv 2) (pa_cons (pv 0) (pa_cons (pe_callTy (tupOfK (K := K)) rfl T.m_tuple PyProof.Rows.boot_tuple (pa_cons (pv 1) pa_nil)) pa_nil)))))))))), ?_⟩
  refine ⟨small (by decide), fun g hg => ?_⟩
  have ngp : pen ≠ g := ne_of_none pn.at_ hg
  refine ⟨_, rfl, _, _, rfl, ⟨by rw [p62]; omega, by rw [p62]; omega, by rw [p62]; omega, by rw [p62]; omega⟩, ?_⟩
  obtain ⟨Pv, hPv⟩ : ∃ Pv : Nat → St → Hp → Prop, ∀ i σ H2, Pv i σ H2 ↔ (∃ (v3 v4 v5 : Option V) (gs : List Grp) (kk : Int), σ = [some (.ref pen), some (.int (m : Int)), some (.ref g), v3, v4, v5] ∧ SameX pen H H2 ∧ H2 pen = some (.lst [.ref sp, .int kk]) ∧ k ≤ kk ∧ kk ≤ k + 4 * i ∧ GAt H H2 g gs ∧ GOk ((i : Int) + 1) gs) := ⟨_, fun _ _ _ => Iff.rfl⟩
  refine for_range (lo := 1) (n := ((m : Int) - 1).toNat) Pv ((hPv _ _ _).mpr ⟨none, none, none, [], k, rfl, Same.x (same_new hg _), (same_new hg _) _ _ pn.at_, Int.le_refl _, by omega, ⟨upd_same, hg, (fun _ z => nomatch z), (fun _ z => nomatch z), List.nodup_nil⟩, ⟨(fun _ z => nomatch z), List.Perm.refl _⟩⟩) ?_ ?_
  · rintro i σ H2 hi pv0
    obtain ⟨v3, v4, v5, gs, kk, rfl, sx, hp2, kk0, kk1, GA, GK⟩ := (hPv _ _ _).mp pv0
    have few := GK.few
    have i9 : (i : Int) < 9 := by omega
    have el : ∀ l : List Grp, (l.map fun x => V.ref x.t).length = l.length := fun l => List.length_map _
    have e1 : 1 + (i : Int) = (i : Int) + 1 := by omega
    have e2 : ((i + 1 : Nat) : Int) + 1 = (i : Int) + 2 := by omega
    refine ⟨_, rfl, _, rfl, pen, sp, ns, _, kk, rfl, pn.to sx hp2, by omega, by omega, by omega, fun u u0 u1 => ?_⟩
    have sx4 := sx.trans (sameX_pen (pen := pen) (H := H2) (.lst [.ref sp, .int (kk + 1)]))
    have GA4 := GA.pen (ys := [.ref sp, .int (kk + 1)]) ⟨_, pn.at_⟩ hp2
    have hp4 : L2.upd H2 pen (.lst [.ref sp, .int (kk + 1)]) pen = some (.lst [.ref sp, .int (kk + 1)]) := upd_same
    generalize L2.upd H2 pen (.lst [.ref sp, .int (kk + 1)]) = H4 at sx4 GA4 hp4 ⊢
    refine ⟨_, rfl, g, rfl, ⟨_, SqL.of GA4.at_⟩, ?_⟩
    refine lc_list (K := K) (a := g) (xs := gs.map fun x => V.ref x.t) (fun j ys σ H5 => (∃ v, σ = [v, some (.int u)]) ∧ H5 = H4 ∧ ys = ((gs.take j).filter fun x => decide (x.up = u)).map fun x => V.ref x.t) ⟨⟨none, rfl⟩, rfl, rfl⟩ (fun j ys σ H5 hj pv => ?_) (fun j ys σ H5 hj pv => ?_) (fun j x ys σ H5 hx pv => ?_) (fun ys σ H5 pv ol hol => ?_)
    · obtain ⟨_, _, rfl⟩ := pv
      rw [el]
      have := List.length_filter_le (fun x : Grp => decide (x.up = u)) (gs.take j)
      rw [List.length_take] at this
      exact small (by omega)
    · rw [pv.2.1]
      exact SqL.of GA4.at_
    · obtain ⟨⟨v, rfl⟩, rfl, rfl⟩ := pv
      rw [List.getElem?_map] at hx
      obtain ⟨y, hy, rfl⟩ := Option.map_eq_some_iff.mp hx
      have et : gs.take (j + 1) = gs.take j ++ [y] := by rw [List.take_add_one, hy, Option.toList_some]
      refine ⟨_, rfl, y.t, _, _, _, rfl, rfl, sqT (GA4.tup y (List.mem_of_getElem? hy)), at0, _, rfl, rfl, _, rfl, ?_⟩
      by_cases cc : y.up = u
      · refine iteD (by rw [cc]) ?_
        refine ⟨_, rfl, ⟨_, rfl⟩, rfl, ?_⟩
        rw [et, List.filter_append, List.filter_cons_of_pos (by simpa using cc), List.map_append]
        rfl
      · refine iteDN (fun z => cc (by injection z)) ?_
        refine ⟨⟨_, rfl⟩, rfl, ?_⟩
        rw [et, List.filter_append, List.filter_cons_of_neg (by simpa using cc), List.filter_nil, List.append_nil]
    obtain ⟨_, rfl, rfl⟩ := pv
    have nop : ol ≠ pen := Ne.symm (ne_of_none hp4 hol)
    rw [el, List.take_length] at *
    generalize hold : gs.filter (fun x => decide (x.up = u)) = old at *
    have omem : ∀ x ∈ old, x ∈ gs := fun x hx => by rw [← hold] at hx; exact (List.mem_filter.mp hx).1
    have lox : old.length ≤ gs.length := by rw [← hold]; exact List.length_filter_le _ _
    have s6 := same_new hol (.lst (old.map fun x => V.ref x.t))
    have GA7 := GA4.same s6
    have hp7 := s6 _ _ hp4
    have sx7 := sx4.trans (Same.x s6)
    have hol7 : L2.upd H5 ol (.lst (old.map fun x => V.ref x.t)) ol = some (.lst (old.map fun x => V.ref x.t)) := upd_same
    generalize L2.upd H5 ol (.lst (old.map fun x => V.ref x.t)) = H7 at s6 GA7 hp7 sx7 hol7 ⊢
    refine ⟨_, rfl, ol, _, rfl, .inl (SqL.of hol7), _, _, rfl, rfl, _, rfl, ?_⟩
    rw [el]
    have new : ∀ (k3 : Int) (H8 : Hp) (v5 : Option V), k ≤ k3 → k3 ≤ k + 4 * i + 4 → SameX pen H H8 → H8 pen = some (.lst [.ref sp, .int k3]) → GAt H H8 g gs → ∀ (nl nt : Addr) (j : Nat), H8 nl = none → L2.upd H8 nl (.lst [.int (1 + (i : Int))]) nt = none → j ≤ gs.length →
        Pv (i + 1) [some (.ref pen), some (.int (m : Int)), some (.ref g), some (.int (1 + (i : Int))), some (.int u), v5] (L2.upd (L2.upd (L2.upd H8 nl (.lst [.int (1 + (i : Int))])) nt (.tup [.int u, .ref nl])) g (.lst ((gs.map fun x => V.ref x.t).take j ++ V.ref nt :: (gs.map fun x => V.ref x.t).drop j))) := by
      intro k3 H8 v5 k30 k31 sx8 hp8 GA8 nl nt j hnl hnt hj
      have s9 := (same_new hnl (.lst [.int (1 + (i : Int))])).trans (same_new hnt (.tup [.int u, .ref nl]))
      rw [← List.map_take, ← List.map_drop]
      refine (hPv _ _ _).mpr ⟨_, _, _, gs.take j ++ ⟨nt, u, nl, [1 + (i : Int)]⟩ :: gs.drop j, k3, rfl, SameX.put (sx8.trans (Same.x s9)) hg (Ne.symm ngp) (s9 _ _ GA8.at_), ?_, k30, by push_cast; omega, ?_, ?_⟩
      · rw [upd_ne ngp]
        exact s9 _ _ hp8
      · exact GAt.ins (pre := gs.take j) (post := gs.drop j) (by rw [List.take_append_drop]; exact GA8) (sx8.free ⟨_, hp8⟩ hnl) hnl hnt
      · rw [e2, e1]
        exact GOk.ins (k := i) (by rw [List.take_append_drop]; exact GK) u0 (by omega)
    by_cases c5 : old = []
    · refine iteCN (by rw [c5]; rfl) ?_
      refine iteF ?_
      refine ⟨_, rfl, .inl ⟨rfl, _, SqL.of GA7.at_⟩, _, rfl, _, rfl, g, _, rfl, .inl (SqL.of GA7.at_), ?_⟩
      refine ⟨_, _, rfl, rfl, pen, sp, ns, _, kk + 1, rfl, pn.to sx7 hp7, by omega, by omega, (by rw [el]; omega), fun j j0 j1 => ?_⟩
      rw [el] at j1
      have sx8 := sx7.trans (sameX_pen (pen := pen) (.lst [.ref sp, .int (kk + 1 + 1)]))
      have GA8 := GA7.pen (ys := [.ref sp, .int (kk + 1 + 1)]) ⟨_, pn.at_⟩ hp7
      have hp8 : L2.upd H7 pen (.lst [.ref sp, .int (kk + 1 + 1)]) pen = some (.lst [.ref sp, .int (kk + 1 + 1)]) := upd_same
      generalize L2.upd H7 pen (.lst [.ref sp, .int (kk + 1 + 1)]) = H8 at sx8 GA8 hp8 ⊢
      refine ⟨_, rfl, _, rfl, small (by show 1 ≤ 1000; decide), fun nl hnl => ?_⟩
      refine ⟨small (by show 2 ≤ 1000; decide), fun nt hnt => ?_⟩
      have s9 := (same_new hnl (.lst [.int (1 + (i : Int))])).trans (same_new hnt (.tup [.int u, .ref nl]))
      refine ⟨g, _, _, _, rfl, rfl, s9 _ _ GA8.at_, j0, (by rw [el]; omega), (by rw [el]; exact small1000 (by omega)), ?_⟩
      exact new (kk + 1 + 1) H8 _ (by omega) (by omega) sx8 hp8 GA8 nl nt j.toNat hnl hnt (by omega)
    · have lo1 : 0 < old.length := List.length_pos_iff.mpr c5
      refine iteC (decide_eq_true (show ((old.length : Nat) : Int) > 0 by omega)) ?_
      refine ⟨_, rfl, pen, sp, ns, 3, kk + 1, rfl, pn.to sx7 hp7, by omega, by omega, by decide, fun e e0 e1' => ?_⟩
      have sx8 := sx7.trans (sameX_pen (pen := pen) (.lst [.ref sp, .int (kk + 1 + 1)]))
      have GA8 := GA7.pen (ys := [.ref sp, .int (kk + 1 + 1)]) ⟨_, pn.at_⟩ hp7
      have hp8 : L2.upd H7 pen (.lst [.ref sp, .int (kk + 1 + 1)]) pen = some (.lst [.ref sp, .int (kk + 1 + 1)]) := upd_same
      have hol8 : L2.upd H7 pen (.lst [.ref sp, .int (kk + 1 + 1)]) ol = some (.lst (old.map fun x => V.ref x.t)) := by rw [upd_ne nop]; exact hol7
      generalize L2.upd H7 pen (.lst [.ref sp, .int (kk + 1 + 1)]) = H8 at sx8 GA8 hp8 hol8 ⊢
      refine ⟨_, _, rfl, rfl, _, rfl, ?_⟩
      refine ite2 (fun c6 => ?_) (fun c6 => ?_)
      · refine ⟨_, rfl, _, rfl, _, rfl, ol, _, rfl, .inl (SqL.of hol8), ?_⟩
        rw [el]
        refine ⟨pen, sp, ns, _, kk + 1 + 1, rfl, pn.to sx8 hp8, by omega, by omega, by omega, fun jj j0 j1 => ?_⟩
        obtain ⟨jn, rfl⟩ : ∃ jn : Nat, jj = (jn : Int) := ⟨jj.toNat, by omega⟩
        have sx9 := sx8.trans (sameX_pen (pen := pen) (.lst [.ref sp, .int (kk + 1 + 1 + 1)]))
        have GA9 := GA8.pen (ys := [.ref sp, .int (kk + 1 + 1 + 1)]) ⟨_, pn.at_⟩ hp8
        have hp9 : L2.upd H8 pen (.lst [.ref sp, .int (kk + 1 + 1 + 1)]) pen = some (.lst [.ref sp, .int (kk + 1 + 1 + 1)]) := upd_same
        have hol9 : L2.upd H8 pen (.lst [.ref sp, .int (kk + 1 + 1 + 1)]) ol = some (.lst (old.map fun x => V.ref x.t)) := by rw [upd_ne nop]; exact hol8
        generalize L2.upd H8 pen (.lst [.ref sp, .int (kk + 1 + 1 + 1)]) = H9 at sx9 GA9 hp9 hol9 ⊢
        obtain ⟨x, hxo⟩ : ∃ x, old[jn]? = some x := ⟨_, List.getElem?_eq_getElem (by omega)⟩
        have hx := omem x (List.mem_of_getElem? hxo)
        obtain ⟨pre, post, egs⟩ := List.append_of_mem hx
        have ty := GA9.tup x hx
        have ly := GA9.lst x hx
        refine ⟨ol, _, _, .ref x.t, rfl, rfl, SqL.of hol9, atI_nat (by rw [List.getElem?_map, hxo]; rfl), x.t, _, _, _, rfl, rfl, sqT ty, at1, .inl ⟨rfl, _, SqL.of ly.1⟩, _, rfl, x.l, _, _, rfl, rfl, ly.1, ?_, ?_⟩
        · have h1 := GK.perm.length_eq
          rw [List.length_map, List.length_range', egs, List.flatMap_append, List.flatMap_cons, List.length_append, List.length_append] at h1
          rw [List.length_map]
          exact small1000 (by omega)
        have G9 : GAt H _ g _ := GAt.put (k := 1 + (i : Int)) (pre := pre) (post := post) (x := x) (by rw [← egs]; exact GA9)
        refine (hPv _ _ _).mpr ⟨_, _, _, _, kk + 1 + 1 + 1, rfl, SameX.put sx9 ly.2.1 (fun z => by have := pn.at_; rw [← z, ly.2.1] at this; cases this) ly.1, ?_, by omega, by push_cast; omega, G9, ?_⟩
        · rw [upd_ne (fun z => by have := pn.at_; rw [z, ly.2.1] at this; cases this)]
          exact hp9
        · rw [e2, e1]
          exact GOk.put (k := i) (by rw [← egs]; exact GK)
      · refine ⟨_, rfl, .inl ⟨rfl, _, SqL.of GA8.at_⟩, _, rfl, _, rfl, g, _, rfl, .inl (SqL.of GA8.at_), ?_⟩
        refine ⟨_, _, rfl, rfl, pen, sp, ns, _, kk + 1 + 1, rfl, pn.to sx8 hp8, by omega, by omega, (by rw [el]; omega), fun j j0 j1 => ?_⟩
        rw [el] at j1
        have sx9 := sx8.trans (sameX_pen (pen := pen) (.lst [.ref sp, .int (kk + 1 + 1 + 1)]))
        have GA9 := GA8.pen (ys := [.ref sp, .int (kk + 1 + 1 + 1)]) ⟨_, pn.at_⟩ hp8
        have hp9 : L2.upd H8 pen (.lst [.ref sp, .int (kk + 1 + 1 + 1)]) pen = some (.lst [.ref sp, .int (kk + 1 + 1 + 1)]) := upd_same
        generalize L2.upd H8 pen (.lst [.ref sp, .int (kk + 1 + 1 + 1)]) = H9 at sx9 GA9 hp9 ⊢
        refine ⟨_, rfl, _, rfl, small (by show 1 ≤ 1000; decide), fun nl hnl => ?_⟩
        refine ⟨small (by show 2 ≤ 1000; decide), fun nt hnt => ?_⟩
        have s10 := (same_new hnl (.lst [.int (1 + (i : Int))])).trans (same_new hnt (.tup [.int u, .ref nl]))
        refine ⟨g, _, _, _, rfl, rfl, s10 _ _ GA9.at_, j0, (by rw [el]; omega), (by rw [el]; exact small1000 (by omega)), ?_⟩
        exact new (kk + 1 + 1 + 1) H9 _ (by omega) (by omega) sx9 hp9 GA9 nl nt j.toNat hnl hnt (by omega)
  · rintro σ H2 pv0
    obtain ⟨v3, v4, v5, gs, kk, rfl, sx, hp2, kk0, kk1, GA, GK⟩ := (hPv _ _ _).mp pv0
    have em : (((m : Int) - 1).toNat : Int) + 1 = (m : Int) := by omega
    rw [em] at GK
    have few := GK.few
    have el : (gs.map fun x => V.ref x.t).length = gs.length := List.length_map _
    refine ⟨_, rfl, g, rfl, ⟨_, SqL.of GA.at_⟩, ?_⟩
    refine lc_list (K := K) (a := g) (xs := gs.map fun x => V.ref x.t) (fun j ys σ H3 => (∃ v v', σ = [v, v', some (.ref pen)]) ∧ SameX pen H2 H3 ∧ ∃ (kc : Int) (bs : List PyData), H3 pen = some (.lst [.ref sp, .int kc]) ∧ kk ≤ kc ∧ kc ≤ kk + 3 * j ∧ DnL H3 bs ys ∧ bs.length = j ∧ (∀ b ∈ bs, isBough m b = true) ∧ bs.flatMap kidsOf = (gs.take j).flatMap (·.kids) ∧ bs.all (flatD 3) = true) ⟨⟨none, none, rfl⟩, SameX.refl _ _, kk, [], hp2, Int.le_refl _, by omega, rfl, rfl, (fun _ z => nomatch z), rfl, rfl⟩ (fun j ys σ H3 hj pv => ?_) (fun j ys σ H3 hj pv => ?_) (fun j y ys σ H3 hy pv => ?_) (fun ys σ H3 pv l1 hl1 => ?_)
    · obtain ⟨_, _, kc, bs, _, _, _, dn, ln, _⟩ := pv
      rw [← dn.length, ln]
      exact small (by rw [el] at hj; omega)
    · exact SqL.of (pv.2.1 _ _ (Ne.symm ngp) GA.at_)
    · obtain ⟨⟨v, v', rfl⟩, sx3, kc, bs, hp3, kc0, kc1, dn, ln, okb, ki, fl⟩ := pv
      rw [List.getElem?_map] at hy
      obtain ⟨x, hx', rfl⟩ := Option.map_eq_some_iff.mp hy
      have hm := List.mem_of_getElem? hx'
      have hj : j < gs.length := (List.getElem?_eq_some_iff.mp hx').1
      have lx := GA.lst x hm
      have nlp : x.l ≠ pen := fun z => by have := pn.at_; rw [← z, lx.2.1] at this; cases this
      have hxl := sx3 _ _ nlp lx.1
      have gx := GK.each x hm
      have kl : x.kids.length ≤ 9 := by
        have pk := GK.perm.length_eq
        rw [List.length_map, List.length_range'] at pk
        obtain ⟨l1, l2, e⟩ := List.append_of_mem hm
        rw [e, List.flatMap_append, List.flatMap_cons, List.length_append, List.length_append] at pk
        omega
      refine ⟨x.t, _, rfl, sqT ((SameX.tup hp2 sx3) _ _ (GA.tup x hm)), rfl, _, _, rfl, _, _, rfl, rfl, ?_⟩
      refine ⟨_, rfl, _, rfl, _, rfl, x.l, _, rfl, .inl ⟨SqL.of hxl, fun tk htk => ?_⟩⟩
      have s4 := same_new htk (.tup (x.kids.map V.int))
      have g4 : L2.upd H3 tk (.tup (x.kids.map V.int)) tk = some (.tup (x.kids.map V.int)) := upd_same
      have dn4 := DnL.same s4 _ _ dn
      generalize L2.upd H3 tk (.tup (x.kids.map V.int)) = H4 at s4 g4 dn4 ⊢
      have sx4 := sx3.trans (Same.x s4)
      refine ⟨pen, sp, ns, tk, x.up, x.kids, (m : Int), kc, rfl, pn.to (sx.trans sx4) (s4 _ _ hp3), by omega, by omega, g4, kl, gx.1, gx.2.1, gx.2.2, fun d v k' H5 sx5 hp5 k50 k51 dv okd fd kd => ?_⟩
      refine ⟨⟨_, _, rfl⟩, sx4.trans sx5, k', bs ++ [d], hp5, by omega, by push_cast; omega, (DnL.tupS (SameX.tup (s4 _ _ hp3) sx5) fl dn4).append ⟨v, [], rfl, dv, rfl⟩, by rw [List.length_append, List.length_singleton, ln], fun b hb => ?_, ?_, ?_⟩
      · rcases List.mem_append.mp hb with z | z
        · exact okb b z
        · rw [List.mem_singleton.mp z]
          exact okd
      · rw [List.flatMap_append, ki, flatMap_take hx']
        simp [kd]
      · rw [List.all_append, fl]
        simp [fd]
    · obtain ⟨_, sx3, kc, bs, hp3, kc0, kc1, dn, ln, okb, ki, fl⟩ := pv
      rw [el] at ln kc1 ki
      rw [List.take_length] at ki
      have s4 := same_new hl1 (.lst ys)
      exact q l1 bs ys kc _ ((sx.trans sx3).trans (Same.x s4)) (s4 _ _ hp3) (by omega) (by omega) upd_same ((sx.trans sx3).free ⟨_, hp3⟩ hl1) (DnL.same s4 _ _ dn) ⟨okb, by rw [ki]; exact GK.perm⟩ (by omega) fl

end
section
variable {P : Program} {w : World} {K : PySem.W.Frag} {mg : Str → Option Value} {base : Heap} {a : Adr} {d : Fds}
theorem ok_law_most (T : Txt K mg a d) : FnOk P w K mg base CX0 2 a.f_law_most d.f_law_most ["_law_state", "_law_many"] (spCrossTS K) := by
  have G_law_take := ok_law_take (P := P) (w := w) (base := base) T
  refine T.K_law_most.ok sc_law_most (fun vs H Q E h => ?_) (fun cdv A outer s H vs Q E hr h => ?_)
  · obtain ⟨pen, sp, ns, m, k, rfl, _⟩ := h
    rfl
  obtain ⟨pen, sp, ns, m, k, rfl, pn, k0, k1, m1, m9, q⟩ := h
  have p62 : (2 : Int) ^ 62 = 4611686018427387904 := by decide
  have p64 : (2 : Int) ^ 64 = 18446744073709551616 := by decide
  obtain ⟨ct6, ch6, cu6⟩ := cutS (X := (cxOf CX0 P w K mg base ["_law_state", "_law_many", "_law_way", "_law_far", "_law_pairs", "_law_k"] "_law_most" (defScope s_law_most) a.f_law_most cdv A outer s H E).nox) (st := (defBody s_law_most).drop 6) (pss_one (ps_ret (pe_tup (pa_cons pe_str (pa_cons (pe_op op_mul (pv 3) (pe_op op_sub (pe_callD G_law_take hr.lv rfl T.K_law_take (pa_cons (pv 0) (pa_cons pe_int pa_nil))) pe_int)) (pa_cons (pe_callTy call_tuple_of rfl T.m_tuple PyProof.Rows.boot_tuple (pa_cons (pv 4) pa_nil)) pa_nil))))))
  obtain ⟨ct5, ch5, cu5⟩ := cutS (X := (cxOf CX0 P w K mg base ["_law_state", "_law_many", "_law_way", "_law_far", "_law_pairs", "_law_k"] "_law_most" (defScope s_law_most) a.f_law_most cdv A outer s H E).nox) (st := (defBody s_law_most).drop 5) (pss_cons (ps_if (pt_cmpR op_eq (pv 2) pe_int (nomark _)) (pss_one (ps_set (i := 4) sc_law_most.nd rfl (Or.inl rfl) (pe_slice sl_list (pv 4) po_none (po_some pe_int)))) pss_nil)
      ch6)
  refine ⟨_, (pss_cons (ps_set (i := 2) sc_law_most.nd rfl (Or.inl rfl) (pe_callD G_law_take hr.lv rfl T.K_law_take (pa_cons (pv 0) (pa_cons pe_int pa_nil))))
      (pss_cons (ps_set (i := 3) sc_law_most.nd rfl (Or.inl rfl) (pe_ix (ixL (K := K)) (pe_lst (pa_cons (pe_op op_pow pe_int pe_int) (pa_cons (pe_op op_pow pe_int pe_int) (pa_cons pe_int pa_nil)))) (pe_callB (call_min2 rfl) rfl T.m_min PyProof.Rows.boot_min (pa_cons (pv 2) (pa_cons pe_int pa_nil))) (fun _ _ => rfl)))
      (pss_cons (ps_set (i := 4) sc_law_most.nd rfl (Or.inl rfl) (pe_lst pa_nil))
      (pss_cons (ps_for PassesOwn.never rfl (pi_range1 rfl T.m_range (pa_cons (pv 1) pa_nil)) (pg_name (i := 5) sc_law_most.nd rfl (Or.inl rfl)) (pss_one (ps_if (pt_cmpR op_eq (pe_callD G_law_take hr.lv rfl T.K_law_take (pa_cons (pv 0) (pa_cons pe_int pa_nil))) pe_int (nomark _)) (pss_one (ps_expr (pe_bmK (K := K) PySem.F.plainAttrs_list PySem.F.slot_list_append PySem.F.type_list_append mt_append (pv 4) (pa_cons (pe_tup (pa_cons (pv 5) (pa_cons (pe_op op_mul (pv 3) (pe_op op_sub (pe_callD G_law_take hr.lv rfl T.K_law_take (pa_cons (pv 0) (pa_cons pe_int pa_nil))) pe_int)) pa_nil))) pa_nil)))) pss_nil)))
      (pss_cons (ps_if (pt_cmpR op_eq (pe_callB (lenS (K := K)) rfl T.m_len PySem.boot_len (pa_cons (pv 4) pa_nil)) pe_int (nomark _)) (pss_one (ps_expr (pe_bmK (K := K) PySem.F.plainAttrs_list PySem.F.slot_list_append PySem.F.type_list_append mt_append (pv 4) (pa_cons (pe_tup (pa_cons (pe_callD G_law_take hr.lv rfl T.K_law_take (pa_cons (pv 0) (pa_cons (pv 1) pa_nil))) (pa_cons (pe_op op_mul (pv 3) (pe_op op_sub (pe_callD G_law_take hr.lv rfl T.K_law_take (pa_cons (pv 0) (pa_cons pe_int pa_nil))) pe_int)) pa_nil))) pa_nil)))) pss_nil)
      ch5))))), ?_⟩
  refine ⟨_, rfl, pen, sp, ns, 12, k, rfl, pn, by omega, by omega, by decide, fun way w0 w1 => ?_⟩
  have x1 := sameX_pen (pen := pen) (H := H) (.lst [.ref sp, .int (k + 1)])
  have g1 : L2.upd H pen (.lst [.ref sp, .int (k + 1)]) pen = some (.lst [.ref sp, .int (k + 1)]) := upd_same
  generalize L2.upd H pen (.lst [.ref sp, .int (k + 1)]) = H1 at x1 g1 ⊢
  refine ⟨_, _, rfl, rfl, ⟨by decide, by decide, by decide⟩, _, _, rfl, rfl, ⟨by decide, by decide, by decide⟩, small (by show 3 ≤ 1000; decide), fun fl hfl => ?_⟩
  have sf := same_new hfl (.lst [.int (10 ^ (20 : Int).toNat), .int (10 ^ (58 : Int).toNat), .int 1])
  have gf : L2.upd H1 fl (.lst [.int (10 ^ (20 : Int).toNat), .int (10 ^ (58 : Int).toNat), .int 1]) fl = some (.lst [.int (10 ^ (20 : Int).toNat), .int (10 ^ (58 : Int).toNat), .int 1]) := upd_same
  have g2 := sf _ _ g1
  have x2 := x1.trans (Same.x (pen := pen) sf)
  generalize L2.upd H1 fl (.lst [.int (10 ^ (20 : Int).toNat), .int (10 ^ (58 : Int).toNat), .int 1]) = H2 at sf gf g2 x2 ⊢
  refine ⟨_, rfl, way, 2, rfl, ?_⟩
  obtain ⟨far, far0, far1, hat⟩ : ∃ far : Int, 0 ≤ far ∧ far ≤ 10 ^ 58 ∧ atI [V.int (10 ^ (20 : Int).toNat), V.int (10 ^ (58 : Int).toNat), V.int 1] (if 2 < way then 2 else way) = some (.int far) := by
    have e : way = 0 ∨ way = 1 ∨ (if 2 < way then 2 else way) = 2 := by
      split <;> omega
    rcases e with e | e | e
    · rw [e]
      exact ⟨10 ^ 20, by decide, by decide, rfl⟩
    · rw [e]
      exact ⟨10 ^ 58, by decide, by decide, rfl⟩
    · rw [e]
      exact ⟨1, by decide, by decide, rfl⟩
  refine ⟨fl, _, _, _, rfl, rfl, SqL.of gf, hat, ?_⟩
  refine ⟨small (by show 0 ≤ 1000; decide), fun pl hpl => ?_⟩
  have s3 := same_new hpl (.lst [])
  have g3 : L2.upd H2 pl (.lst []) pl = some (.lst []) := upd_same
  have g3p := s3 _ _ g2
  have npp : pl ≠ pen := fun z => by rw [z, g2] at hpl; cases hpl
  have npH : H pl = none := x2.free ⟨_, g2⟩ hpl
  generalize L2.upd H2 pl (.lst []) = H3 at s3 g3 g3p ⊢
  have x3 := x2.trans (Same.x (pen := pen) s3)
  have tail6 : ∀ (v4 : Option V) (kc : Int) (pl : Addr) (ps : List PyData) (xs : List V) (H4 : Hp), SameX pen H H4 → H4 pen = some (.lst [.ref sp, .int kc]) → k ≤ kc → kc ≤ k + 25 → H4 pl = some (.lst xs) → pl ≠ pen → PairsTo H4 m ps xs → 0 < ps.length → (∀ p ∈ ps, SmallP p) → ct6 { nx := fun _ H' => Q .non H', rt := Q } [some (.ref pen), some (.int (m : Int)), some (.int way), some (.int far), some (.ref pl), v4] H4 := by
    intro v4 kc pl ps xs H4 x4 hp4 kc0 kc1 hl4 npp pt p0 smp
    refine cu6 _ _ _ ?_
    refine ⟨_, rfl, _, rfl, pen, sp, ns, 24, kc, rfl, pn.to x4 hp4, by omega, by omega, by decide, fun y y0 y1 => ?_⟩
    have x5' := sameX_pen (pen := pen) (H := H4) (.lst [.ref sp, .int (kc + 1)])
    have x5 := x4.trans x5'
    have g5 : L2.upd H4 pen (.lst [.ref sp, .int (kc + 1)]) pen = some (.lst [.ref sp, .int (kc + 1)]) := upd_same
    have g5l : L2.upd H4 pen (.lst [.ref sp, .int (kc + 1)]) pl = some (.lst xs) := by rw [upd_ne npp]; exact hl4
    have pt5 := pt.tupS (SameX.tup hp4 x5')
    generalize L2.upd H4 pen (.lst [.ref sp, .int (kc + 1)]) = H5 at x5 g5 g5l pt5 x5' ⊢
    refine ⟨_, _, rfl, rfl, _, _, rfl, rfl, .inr ⟨by rw [p64]; omega, by rw [p64]; omega⟩, _, rfl, pl, _, rfl, .inl ⟨SqL.of g5l, fun tk htk => ?_⟩⟩
    refine ⟨small (by show 3 ≤ 1000; decide), fun tt htt => ?_⟩
    have sa := same_new htk (.tup xs)
    have sb := same_new htt (.tup [.str ("most" : Str), .int (far * (y - 4)), .ref tk])
    have sab := sa.trans sb
    have fw := pt.few
    exact q (.tuple [.str ("most" : Str), .int (far * (y - 4)), .tuple ps]) _ (kc + 1) _ (x5.trans (Same.x sab)) (sab _ _ g5) (by omega) (by omega) ⟨tt, _, rfl, upd_same, _, _, rfl, rfl, _, _, rfl, rfl, _, _, rfl, ⟨tk, _, rfl, sb _ _ upd_same, DnL.same sab _ _ pt5.dn⟩, rfl⟩ (tie_most pt.ok pt.ris p0) (flat_most (m := m) pt.flat (by omega)) ⟨far_small far0 far1 (by omega) (by omega), smp⟩
  have tail : ∀ (v4 : Option V) (kc : Int) (ps : List PyData) (xs : List V) (H4 : Hp), SameX pen H H4 → H4 pen = some (.lst [.ref sp, .int kc]) → k ≤ kc → kc ≤ k + 25 → H4 pl = some (.lst xs) → PairsTo H4 m ps xs → 0 < ps.length → (∀ p ∈ ps, SmallP p) → ct5 { nx := fun _ H' => Q .non H', rt := Q } [some (.ref pen), some (.int (m : Int)), some (.int way), some (.int far), some (.ref pl), v4] H4 := by
    intro v4 kc ps xs H4 x4 hp4 kc0 kc1 hl4 pt p0 smp
    refine cu5 _ _ _ ?_
    refine ⟨_, rfl, rfl, _, rfl, ?_⟩
    refine ite2 (fun _ => ?_) (fun _ => ?_)
    · refine ⟨_, rfl, _, rfl, pl, _, rfl, SqL.of hl4, fun p9 hp9 => ?_⟩
      rw [show cutV xs none (some 1) = xs.take 1 from by
        cases xs with
        | nil => rfl
        | cons x r => rfl]
      have s9 := same_new hp9 (.lst (xs.take 1))
      refine tail6 v4 kc p9 (ps.take 1) (xs.take 1) _ (x4.trans (Same.x s9)) (s9 _ _ hp4) kc0 kc1 upd_same (fun z => by rw [z, hp4] at hp9; cases hp9) (pt.first.tupS (Same.tup s9)) (by rw [List.length_take]; omega) fun p hp => smp p (List.mem_of_mem_take hp)
    · exact tail6 v4 kc pl ps xs H4 x4 hp4 kc0 kc1 hl4 npp pt p0 smp
  refine ⟨_, rfl, _, rfl, by rw [p62]; omega, by rw [p62]; omega, ?_⟩
  rw [Int.toNat_natCast]
  refine for_range0 (n := m) (fun i σ H4 => ∃ (v4 : Option V) (kc : Int) (ps : List PyData) (xs : List V), σ = [some (.ref pen), some (.int (m : Int)), some (.int way), some (.int far), some (.ref pl), v4] ∧ SameX pen H H4 ∧ H4 pen = some (.lst [.ref sp, .int kc]) ∧ k ≤ kc ∧ kc ≤ k + 1 + 2 * i ∧ H4 pl = some (.lst xs) ∧ PairsTo H4 i ps xs ∧ ∀ p ∈ ps, SmallP p) ⟨none, k + 1, [], [], rfl, x3, g3p, by omega, by omega, g3, ⟨rfl, rfl, rfl, rfl, Nat.le_refl _⟩, (fun _ z => nomatch z)⟩ ?_ ?_
  · rintro i σ H4 hi ⟨v4, kc, ps, xs, rfl, x4, hp4, kc0, kc1, hl4, pt, smp⟩
    refine ⟨_, rfl, pen, sp, ns, 2, kc, rfl, pn.to x4 hp4, by omega, by omega, by decide, fun y y0 y1 => ?_⟩
    have x5' := sameX_pen (pen := pen) (H := H4) (.lst [.ref sp, .int (kc + 1)])
    have x5 := x4.trans x5'
    have g5 : L2.upd H4 pen (.lst [.ref sp, .int (kc + 1)]) pen = some (.lst [.ref sp, .int (kc + 1)]) := upd_same
    have g5l : L2.upd H4 pen (.lst [.ref sp, .int (kc + 1)]) pl = some (.lst xs) := by rw [upd_ne npp]; exact hl4
    have pt5 := pt.tupS (SameX.tup hp4 x5')
    generalize L2.upd H4 pen (.lst [.ref sp, .int (kc + 1)]) = H5 at x5 g5 g5l pt5 x5' ⊢
    refine ⟨rfl, _, rfl, ?_⟩
    refine ite2 (fun _ => ?_) (fun _ => ?_)
    · refine ⟨_, rfl, .inl ⟨rfl, _, SqL.of g5l⟩, _, rfl, _, rfl, _, rfl, pen, sp, ns, 12, kc + 1, rfl, pn.to x5 g5, by omega, by omega, by decide, fun z z0 z1 => ?_⟩
      have x6' := sameX_pen (pen := pen) (H := H5) (.lst [.ref sp, .int (kc + 1 + 1)])
      have x6 := x5.trans x6'
      have g6 : L2.upd H5 pen (.lst [.ref sp, .int (kc + 1 + 1)]) pen = some (.lst [.ref sp, .int (kc + 1 + 1)]) := upd_same
      have g6l : L2.upd H5 pen (.lst [.ref sp, .int (kc + 1 + 1)]) pl = some (.lst xs) := by rw [upd_ne npp]; exact g5l
      have pt6 := pt5.tupS (SameX.tup g5 x6')
      generalize L2.upd H5 pen (.lst [.ref sp, .int (kc + 1 + 1)]) = H6 at x6 g6 g6l pt6 x6' ⊢
      refine ⟨_, _, rfl, rfl, _, _, rfl, rfl, .inr ⟨by rw [p64]; omega, by rw [p64]; omega⟩, small (by show 2 ≤ 1000; decide), fun tp htp => ?_⟩
      have s7 := same_new htp (.tup [.int (i : Int), .int (far * (z - 3))])
      have g7 : L2.upd H6 tp (.tup [.int (i : Int), .int (far * (z - 3))]) tp = some (.tup [.int (i : Int), .int (far * (z - 3))]) := upd_same
      have g7l := s7 _ _ g6l
      have pt7 := (pt6.tupS (Same.tup s7)).snoc g7
      have g7p := s7 _ _ g6
      have x7 := x6.trans (Same.x (pen := pen) s7)
      generalize L2.upd H6 tp (.tup [.int (i : Int), .int (far * (z - 3))]) = H7 at s7 g7l pt7 g7p x7 g7 ⊢
      have lx := pt.dn.length
      have fw := pt.few
      refine ⟨pl, _, _, rfl, rfl, g7l, small1000 (by omega), ?_⟩
      have tp8 := tupS_put (o' := .lst (xs ++ [.ref tp])) g7l (fun _ z => nomatch z)
      refine ⟨_, kc + 1 + 1, _, _, rfl, SameX.put x7 npH npp g7l, ?_, by omega, by push_cast; omega, upd_same, pt7.tupS tp8, fun p hp => ?_⟩
      · rw [upd_ne (Ne.symm npp)]
        exact g7p
      · rcases List.mem_append.mp hp with e | e
        · exact smp p e
        · rw [List.mem_singleton.mp e]
          exact far_small far0 far1 (by omega) (by omega)
    · exact ⟨_, kc + 1, ps, xs, rfl, x5, g5, by omega, by push_cast; omega, g5l, pt5.up, smp⟩
  · rintro σ H4 ⟨v4, kc, ps, xs, rfl, x4, hp4, kc0, kc1, hl4, pt, smp⟩
    have lx := pt.dn.length
    refine ⟨_, rfl, pl, _, rfl, .inl (SqL.of hl4), rfl, _, rfl, ?_⟩
    by_cases e : xs = []
    · refine iteD (by rw [e]; rfl) ?_
      have hl4' : H4 pl = some (.lst []) := by rw [hl4, e]
      refine ⟨_, rfl, .inl ⟨rfl, _, SqL.of hl4⟩, _, rfl, _, rfl, pen, sp, ns, (m : Int), kc, rfl, pn.to x4 hp4, by omega, by omega, by omega, fun y y0 y1 => ?_⟩
      have x5' := sameX_pen (pen := pen) (H := H4) (.lst [.ref sp, .int (kc + 1)])
      have x5 := x4.trans x5'
      have g5 : L2.upd H4 pen (.lst [.ref sp, .int (kc + 1)]) pen = some (.lst [.ref sp, .int (kc + 1)]) := upd_same
      have g5l : L2.upd H4 pen (.lst [.ref sp, .int (kc + 1)]) pl = some (.lst []) := by rw [upd_ne npp]; exact hl4'
      generalize L2.upd H4 pen (.lst [.ref sp, .int (kc + 1)]) = H5 at x5 g5 g5l x5' ⊢
      refine ⟨_, rfl, _, rfl, pen, sp, ns, 12, kc + 1, rfl, pn.to x5 g5, by omega, by omega, by decide, fun z z0 z1 => ?_⟩
      have x6' := sameX_pen (pen := pen) (H := H5) (.lst [.ref sp, .int (kc + 1 + 1)])
      have x6 := x5.trans x6'
      have g6 : L2.upd H5 pen (.lst [.ref sp, .int (kc + 1 + 1)]) pen = some (.lst [.ref sp, .int (kc + 1 + 1)]) := upd_same
      have g6l : L2.upd H5 pen (.lst [.ref sp, .int (kc + 1 + 1)]) pl = some (.lst []) := by rw [upd_ne npp]; exact g5l
      generalize L2.upd H5 pen (.lst [.ref sp, .int (kc + 1 + 1)]) = H6 at x6 g6 g6l x6' ⊢
      refine ⟨_, _, rfl, rfl, _, _, rfl, rfl, .inr ⟨by rw [p64]; omega, by rw [p64]; omega⟩, small (by show 2 ≤ 1000; decide), fun tp htp => ?_⟩
      have s7 := same_new htp (.tup [.int y, .int (far * (z - 3))])
      have g7 : L2.upd H6 tp (.tup [.int y, .int (far * (z - 3))]) tp = some (.tup [.int y, .int (far * (z - 3))]) := upd_same
      have g7l := s7 _ _ g6l
      have g7p := s7 _ _ g6
      have x7 := x6.trans (Same.x (pen := pen) s7)
      generalize L2.upd H6 tp (.tup [.int y, .int (far * (z - 3))]) = H7 at s7 g7l g7p x7 g7 ⊢
      refine ⟨pl, _, _, rfl, rfl, g7l, small1000 (by decide), ?_⟩
      have tp8 := tupS_put (o' := .lst ([] ++ [.ref tp])) g7l (fun _ z => nomatch z)
      refine tail _ (kc + 1 + 1) [.tuple [.int y, .int (far * (z - 3))]] [.ref tp] _ (SameX.put x7 npH npp g7l) ?_ (by omega) (by omega) upd_same (pairs_one y0 y1 (tp8 _ _ g7)) (by show 0 < 1; decide) fun p hp => by
        rw [List.mem_singleton.mp hp]
        exact far_small far0 far1 (by omega) (by omega)
      rw [upd_ne (Ne.symm npp)]
      exact g7p
    · refine iteDN (fun z => ?_) ?_
      · injection z with z
        exact e (List.length_eq_zero_iff.mp (by omega))
      have lpos := List.length_pos_iff.mpr e
      exact tail _ kc ps xs H4 x4 hp4 (by omega) (by omega) hl4 pt (by omega) smp

end
section
variable {P : Program} {w : World} {K : PySem.W.Frag} {mg : Str → Option Value} {base : Heap} {a : Adr} {d : Fds}
theorem ok_law_cross (T : Txt K mg a d) : FnOk P w K mg base CX0 3 a.f_law_cross d.f_law_cross ["_law_state", "_law_many"] (spCrossUS K) := by
  have G_law_take := ok_law_take (P := P) (w := w) (base := base) T
  have G_law_most := ok_law_most (P := P) (w := w) (base := base) T
  refine T.K_law_cross.ok sc_law_cross (fun vs H Q E h => ?_) (fun cdv A outer s H vs Q E hr h => ?_)
  · obtain ⟨pen, sp, ns, m, k, rfl, _⟩ := h
    rfl
  obtain ⟨pen, sp, ns, m, k, rfl, pn, k0, k1, m1, m9, q⟩ := h
  refine ⟨_, (pss_cons (ps_if (PW.pt (pw_or (pt_cmpR op_eq (pv 1) pe_int (nomark _)) (pw_or1 (pt_cmpR op_eq (pe_callD G_law_take hr.lv rfl T.K_law_take (pa_cons (pv 0) (pa_cons pe_int pa_nil))) pe_int (nomark _))))) (pss_one (ps_ret (pe_callD G_law_most hr.lv rfl T.K_law_most (pa_cons (pv 0) (pa_cons (pv 1) pa_nil))))) pss_nil)
      (pss_cons (ps_set (i := 2) sc_law_cross.nd rfl (Or.inl rfl) (pe_callD G_law_take hr.lv rfl T.K_law_take (pa_cons (pv 0) (pa_cons (pv 1) pa_nil))))
      (pss_cons (ps_set (i := 3) sc_law_cross.nd rfl (Or.inl rfl) (pe_op op_mod (pe_op op_add (pe_op op_add (pv 2) pe_int) (pe_callD G_law_take hr.lv rfl T.K_law_take (pa_cons (pv 0) (pa_cons (pe_op op_sub (pv 1) pe_int) pa_nil)))) (pv 1)))
      (pss_one (ps_ret (pe_tup (pa_cons (pe_ix (ixL (K := K)) (pe_lst (pa_cons pe_str (pa_cons pe_str pa_nil))) (pe_callD G_law_take hr.lv rfl T.K_law_take (pa_cons (pv 0) (pa_cons pe_int pa_nil))) (fun _ _ => rfl)) (pa_cons (pv 2) (pa_cons (pv 3) pa_nil))))))))), ?_⟩
  have most : ∀ (kc : Int) (H1 : Hp), SameX pen H H1 → H1 pen = some (.lst [.ref sp, .int kc]) → k ≤ kc → kc ≤ k + 1 → tCall (spCrossTS K) [] E0 (tCons (tVar 0) (tCons (tVar 1) tNil)) [some (.ref pen), some (.int (m : Int)), none, none] H1 Q := by
    intro kc H1 x1 hp1 kc0 kc1
    exact ⟨_, rfl, _, rfl, pen, sp, ns, m, kc, rfl, pn.to x1 hp1, by omega, by omega, m1, m9, fun c v k' H' x' hp' k'0 k'1 dv ti fd sd => q c v k' H' (x1.trans x') hp' (by omega) (by omega) dv ti fd sd⟩
  refine ⟨_, rfl, rfl, _, rfl, ?_⟩
  by_cases e : m = 1
  · refine iteD (by rw [e]; rfl) ?_
    exact most k H (SameX.refl _ _) pn.at_ (by omega) (by omega)
  · refine iteDN (fun z => ?_) ?_
    · injection z with z
      omega
    refine ⟨_, rfl, pen, sp, ns, 3, k, rfl, pn, by omega, by omega, by decide, fun y y0 y1 => ?_⟩
    have x1 := sameX_pen (pen := pen) (H := H) (.lst [.ref sp, .int (k + 1)])
    have g1 : L2.upd H pen (.lst [.ref sp, .int (k + 1)]) pen = some (.lst [.ref sp, .int (k + 1)]) := upd_same
    generalize L2.upd H pen (.lst [.ref sp, .int (k + 1)]) = H1 at x1 g1 ⊢
    refine ⟨rfl, _, rfl, ?_⟩
    refine ite2 (fun _ => ?_) (fun _ => ?_)
    · exact most (k + 1) H1 x1 g1 (by omega) (by omega)
    refine ⟨_, rfl, _, rfl, pen, sp, ns, (m : Int), k + 1, rfl, pn.to x1 g1, by omega, by omega, by omega, fun one o0 o1 => ?_⟩
    have x2 := x1.trans (sameX_pen (pen := pen) (H := H1) (.lst [.ref sp, .int (k + 1 + 1)]))
    have g2 : L2.upd H1 pen (.lst [.ref sp, .int (k + 1 + 1)]) pen = some (.lst [.ref sp, .int (k + 1 + 1)]) := upd_same
    generalize L2.upd H1 pen (.lst [.ref sp, .int (k + 1 + 1)]) = H2 at x2 g2 ⊢
    refine ⟨_, rfl, _, _, rfl, rfl, _, rfl, _, rfl, _, _, rfl, rfl, pen, sp, ns, (m : Int) - 1, k + 1 + 1, rfl, pn.to x2 g2, by omega, by omega, by omega, fun x x0 x1' => ?_⟩
    have x3 := x2.trans (sameX_pen (pen := pen) (H := H2) (.lst [.ref sp, .int (k + 1 + 1 + 1)]))
    have g3 : L2.upd H2 pen (.lst [.ref sp, .int (k + 1 + 1 + 1)]) pen = some (.lst [.ref sp, .int (k + 1 + 1 + 1)]) := upd_same
    generalize L2.upd H2 pen (.lst [.ref sp, .int (k + 1 + 1 + 1)]) = H3 at x3 g3 ⊢
    refine ⟨_, _, rfl, rfl, _, rfl, _, _, rfl, rfl, (by show (0 : Int) < m; omega), ?_⟩
    refine ⟨small (by show 2 ≤ 1000; decide), fun lp hlp => ?_⟩
    have s4 := same_new hlp (.lst [.str ("needs" : Str), .str ("bans" : Str)])
    have g4 : L2.upd H3 lp (.lst [.str ("needs" : Str), .str ("bans" : Str)]) lp = some (.lst [.str ("needs" : Str), .str ("bans" : Str)]) := upd_same
    have g4p := s4 _ _ g3
    have nlp : lp ≠ pen := fun z => by rw [z, g3] at hlp; cases hlp
    have x4 := x3.trans (Same.x (pen := pen) s4)
    generalize L2.upd H3 lp (.lst [.str ("needs" : Str), .str ("bans" : Str)]) = H4 at s4 g4 g4p x4 ⊢
    refine ⟨_, rfl, pen, sp, ns, 2, k + 1 + 1 + 1, rfl, pn.to x4 g4p, by omega, by omega, by decide, fun way w0 w1 => ?_⟩
    have x5 := x4.trans (sameX_pen (pen := pen) (H := H4) (.lst [.ref sp, .int (k + 1 + 1 + 1 + 1)]))
    have g5 : L2.upd H4 pen (.lst [.ref sp, .int (k + 1 + 1 + 1 + 1)]) pen = some (.lst [.ref sp, .int (k + 1 + 1 + 1 + 1)]) := upd_same
    have g5l : L2.upd H4 pen (.lst [.ref sp, .int (k + 1 + 1 + 1 + 1)]) lp = some (.lst [.str ("needs" : Str), .str ("bans" : Str)]) := by rw [upd_ne nlp]; exact g4
    generalize L2.upd H4 pen (.lst [.ref sp, .int (k + 1 + 1 + 1 + 1)]) = H5 at x5 g5 g5l ⊢
    obtain ⟨sN, sk, snm, sok, hat⟩ : ∃ sN : Str, (sN = ("needs" : Str) ∨ sN = ("bans" : Str)) ∧ ¬ sN = ("most" : Str) ∧ PyData.strOk sN = true ∧ atI ([.str ("needs" : Str), .str ("bans" : Str)] : List V) way = some (.str sN) := by
      have e : way = 0 ∨ way = 1 := by omega
      rcases e with e | e <;> rw [e]
      · exact ⟨_, .inl rfl, by decide +kernel, strOk_needs, rfl⟩
      · exact ⟨_, .inr rfl, by decide +kernel, strOk_bans, rfl⟩
    refine ⟨lp, _, _, _, rfl, rfl, SqL.of g5l, hat, _, rfl, _, rfl, small (by show 3 ≤ 1000; decide), fun tp htp => ?_⟩
    obtain ⟨n0', n1', n2'⟩ := mod_near (many := m) (by omega) (by omega) o0 o1 x0 (by omega)
    have st := same_new htp (.tup [.str sN, .int one, .int ((one + 1 + x) % (m : Int))])
    refine q (.tuple [.str sN, .int one, .int ((one + 1 + x) % (m : Int))]) _ (k + 1 + 1 + 1 + 1) _ (x5.trans (Same.x st)) (st _ _ g5) (by omega) (by omega) ⟨tp, _, rfl, upd_same, _, _, rfl, rfl, _, _, rfl, rfl, _, _, rfl, rfl, rfl⟩ ?_ ?_ trivial
    · show tieK m sN _ _ = true
      unfold tieK
      rw [if_neg snm, if_pos sk]
      show ((decide ((0 : Int) ≤ _) && decide (_ ≤ (m : Int) - 1)) && ((decide ((0 : Int) ≤ _) && decide (_ ≤ (m : Int) - 1)) && !decide (_ = _))) = true
      rw [decide_eq_true o0, decide_eq_true (by omega), decide_eq_true n0', decide_eq_true (by omega), decide_eq_false n2']
      rfl
    · show (true && (flatD 2 (.str sN) && (true && (true && true)))) = true
      rw [show flatD 2 (.str sN) = true from sok]
      rfl

end
section
variable {P : Program} {w : World} {K : PySem.W.Frag} {mg : Str → Option Value} {base : Heap} {a : Adr} {d : Fds}
theorem ok_law_wood (T : Txt K mg a d) : FnOk P w K mg base CX0 6 a.f_law_wood d.f_law_wood ["_law_state"] (spWoodS K) := by
  have G_law_take := ok_law_take (P := P) (w := w) (base := base) T
  have G_law_boughs := ok_law_boughs (P := P) (w := w) (base := base) T
  have G_law_cross := ok_law_cross (P := P) (w := w) (base := base) T
  refine T.K_law_wood.ok sc_law_wood (fun vs H Q E h => ?_) (fun cdv A outer s H vs Q E hr h => ?_)
  · obtain ⟨pen, sp, ns, k, rfl, _⟩ := h
    rfl
  obtain ⟨pen, sp, ns, k, rfl, pn, k0, k1, q⟩ := h
  have p62 : (2 : Int) ^ 62 = 4611686018427387904 := by decide
  obtain ⟨ct5, ch5, cu5⟩ := cutS (X := (cxOf CX0 P w K mg base ["_law_state", "_law_many", "_law_boughs_here", "_law_count"] "_law_wood" (defScope s_law_wood) a.f_law_wood cdv A outer s H E).nox) (st := (defBody s_law_wood).drop 5) (pss_one (ps_ret (pe_tup (pa_cons (pv 1) (pa_cons (pe_callTy call_tuple_of rfl T.m_tuple PyProof.Rows.boot_tuple (pa_cons (pv 2) pa_nil)) (pa_cons (pe_callTy call_tuple_of rfl T.m_tuple PyProof.Rows.boot_tuple (pa_cons (pe_lc (sc0 := defScope s_law_wood) (XN := ["_law_state", "_law_many", "_law_boughs_here", "_law_count"]) (N' := ["_law_k", "_law_state", "_law_many"]) (n := 1) (kp := [0, 1]) rfl (pi_range1 rfl T.m_range (pa_cons (pv 3) pa_nil)) rfl rfl (by decide +kernel) (fun _ _ _ _ _ => (pg_name (i := 0) (by show List.Nodup (["_law_k", "_law_state", "_law_many"] : List Str); decide +kernel) rfl (Or.inl rfl))) (fun _ _ _ _ _ => pts_nil) (fun _ _ _ _ _ => (pe_callD G_law_cross hr.lv rfl T.K_law_cross (pa_cons (pv 1) (pa_cons (pv 2) pa_nil))))) pa_nil)) pa_nil))))))
  have last : ∀ (m : Nat) (l : Addr) (bs : List PyData) (xs : List V) (n : Int) (k1 : Int) (H1 : Hp), SameX pen H H1 → H1 pen = some (.lst [.ref sp, .int k1]) → k ≤ k1 → k1 ≤ k + 95 → 1 ≤ m → m ≤ 9 → H1 l = some (.lst xs) → DnL H1 bs xs → GoodB m bs → bs.length ≤ 8 → bs.all (flatD 3) = true → 0 ≤ n → n ≤ 8 → ct5 { nx := fun _ H' => Q .non H', rt := Q } [some (.ref pen), some (.int (m : Int)), some (.ref l), some (.int n)] H1 := by
    intro m l bs xs n k1 H1 x1 hp1 k10 k11 m1 m9 hl1 dn gb b8 fb n0 n8
    refine cu5 _ _ _ ?_
    refine ⟨_, rfl, _, rfl, l, _, rfl, .inl ⟨SqL.of hl1, fun t1 ht1 => ?_⟩⟩
    have s2 := same_new ht1 (.tup xs)
    have g2 : L2.upd H1 t1 (.tup xs) t1 = some (.tup xs) := upd_same
    have hp2 := s2 _ _ hp1
    have x2 := x1.trans (Same.x (pen := pen) s2)
    have d2 := DnL.same s2 _ _ dn
    generalize L2.upd H1 t1 (.tup xs) = H2 at s2 g2 hp2 x2 d2 ⊢
    refine ⟨_, rfl, _, rfl, by rw [p62]; omega, by rw [p62]; omega, ?_⟩
    refine lc_range0 (k := n.toNat) (fun i ys σ H3 => (∃ v, σ = [v, some (.ref pen), some (.int (m : Int))]) ∧ SameX pen H2 H3 ∧ ∃ (kc : Int) (cs : List PyData), H3 pen = some (.lst [.ref sp, .int kc]) ∧ k1 ≤ kc ∧ kc ≤ k1 + 31 * i ∧ DnL H3 cs ys ∧ cs.length = i ∧ (∀ c ∈ cs, isTie m c = true ∧ SmallD c) ∧ cs.all (flatD 3) = true) ⟨⟨none, rfl⟩, SameX.refl _ _, k1, [], hp2, by omega, by omega, rfl, rfl, (fun _ z => nomatch z), rfl⟩ (fun i ys σ H3 hi pv => ?_) (fun i ys σ H3 hi pv => ?_) (fun ys σ H3 pv cl hcl => ?_)
    · obtain ⟨_, _, kc, cs, _, _, _, dc, ln, _⟩ := pv
      rw [← dc.length, ln]
      exact small (by omega)
    · obtain ⟨⟨v, rfl⟩, x3, kc, cs, hp3, kc0, kc1, dc, ln, okc, fc⟩ := pv
      refine ⟨_, rfl, _, rfl, pen, sp, ns, m, kc, rfl, pn.to (x2.trans x3) hp3, by omega, by omega, m1, m9, fun c v k' H4 x4 hp4 k40 k41 dv ti fd sd => ?_⟩
      refine ⟨⟨_, rfl⟩, x3.trans x4, k', cs ++ [c], hp4, by omega, by push_cast; omega, (DnL.tupS (SameX.tup hp3 x4) fc dc).append ⟨v, [], rfl, dv, rfl⟩, by rw [List.length_append, List.length_singleton, ln], fun b hb => ?_, ?_⟩
      · rcases List.mem_append.mp hb with z | z
        · exact okc b z
        · rw [List.mem_singleton.mp z]
          exact ⟨ti, sd⟩
      · rw [List.all_append, fc]
        simp [fd]
    obtain ⟨_, x3, kc, cs, hp3, kc0, kc1, dc, ln, okc, fc⟩ := pv
    have s4 := same_new hcl (.lst ys)
    have g4 : L2.upd H3 cl (.lst ys) cl = some (.lst ys) := upd_same
    have hp4 := s4 _ _ hp3
    have tS := tupS_trans (SameX.tup hp2 x3) (Same.tup s4)
    have dc4 := DnL.same s4 _ _ dc
    have x4 := (x2.trans x3).trans (Same.x (pen := pen) s4)
    generalize L2.upd H3 cl (.lst ys) = H4 at s4 g4 hp4 tS dc4 x4 ⊢
    refine ⟨cl, _, rfl, .inl ⟨SqL.of g4, fun t2 ht2 => ?_⟩⟩
    have s5 := same_new ht2 (.tup ys)
    refine ⟨small (by show 3 ≤ 1000; decide), fun wd hwd => ?_⟩
    have s6 := same_new hwd (.tup [.int (m : Int), .ref t1, .ref t2])
    have s56 := s5.trans s6
    exact q wd m bs cs kc _ (x4.trans (Same.x s56)) (s56 _ _ hp4) (by omega) (by omega) m1 m9 ⟨⟨xs, ys, ⟨t1, t2, upd_same, s56 _ _ (tS _ _ g2), s6 _ _ upd_same⟩, DnL.same s56 _ _ (DnL.tupS tS fb d2), DnL.same s56 _ _ dc4⟩, gb, fun c hc => (okc c hc).1, by omega, by omega, fb, fc, m1, m9⟩ (by omega) fun c hc => (okc c hc).2
  obtain ⟨ct2, ch2, cu2⟩ := cutS (X := (cxOf CX0 P w K mg base ["_law_state", "_law_many", "_law_boughs_here", "_law_count"] "_law_wood" (defScope s_law_wood) a.f_law_wood cdv A outer s H E).nox) (st := (defBody s_law_wood).drop 2) (pss_cons (ps_set (i := 2) sc_law_wood.nd rfl (Or.inl rfl) (pe_callD G_law_boughs hr.lv rfl T.K_law_boughs (pa_cons (pv 0) (pa_cons (pv 1) pa_nil))))
      (pss_cons (ps_set (i := 3) sc_law_wood.nd rfl (Or.inl rfl) (pe_callD G_law_take hr.lv rfl T.K_law_take (pa_cons (pv 0) (pa_cons pe_int pa_nil))))
      (pss_cons (ps_if (pt_cmpR op_eq (pe_callD G_law_take hr.lv rfl T.K_law_take (pa_cons (pv 0) (pa_cons pe_int pa_nil))) pe_int (nomark _)) (pss_one (ps_set (i := 3) sc_law_wood.nd rfl (Or.inl rfl) (pe_callD G_law_take hr.lv rfl T.K_law_take (pa_cons (pv 0) (pa_cons (pe_ix (ixL (K := K)) (pe_lst (pa_cons pe_int (pa_cons pe_int pa_nil))) (pe_callTy call_int1 rfl T.m_int PyProof.Rows.boot_int (pa_cons (pe_cmpR op_gt (pv 1) pe_int (nomark _)) pa_nil)) (fun _ _ => rfl)) pa_nil))))) pss_nil)
      ch5)))
  have mid : ∀ (m : Nat) (k1 : Int) (H1 : Hp), SameX pen H H1 → H1 pen = some (.lst [.ref sp, .int k1]) → k ≤ k1 → k1 ≤ k + 3 → 1 ≤ m → m ≤ 9 → ct2 { nx := fun _ H' => Q .non H', rt := Q } [some (.ref pen), some (.int (m : Int)), none, none] H1 := by
    intro m k1 H1 x1 hp1 k10 k11 m1 m9
    refine cu2 _ _ _ ?_
    refine ⟨_, rfl, _, rfl, pen, sp, ns, m, k1, rfl, pn.to x1 hp1, by omega, by omega, m1, m9, fun l bs xs k2 H2 x2 hp2 k20 k21 hl2 nl dn gb b8 fb => ?_⟩
    have nlp : l ≠ pen := fun z => by rw [z, hp1] at nl; cases nl
    refine ⟨_, rfl, pen, sp, ns, 4, k2, rfl, pn.to (x1.trans x2) hp2, by omega, by omega, by decide, fun c c0 c1 => ?_⟩
    have x3' := sameX_pen (pen := pen) (H := H2) (.lst [.ref sp, .int (k2 + 1)])
    have g3 : L2.upd H2 pen (.lst [.ref sp, .int (k2 + 1)]) pen = some (.lst [.ref sp, .int (k2 + 1)]) := upd_same
    have g3l : L2.upd H2 pen (.lst [.ref sp, .int (k2 + 1)]) l = some (.lst xs) := by rw [upd_ne nlp]; exact hl2
    have d3 := DnL.tupS (SameX.tup hp2 x3') fb dn
    generalize L2.upd H2 pen (.lst [.ref sp, .int (k2 + 1)]) = H3 at x3' g3 g3l d3 ⊢
    refine ⟨_, rfl, pen, sp, ns, 4, k2 + 1, rfl, pn.to ((x1.trans x2).trans x3') g3, by omega, by omega, by decide, fun e e0 e1 => ?_⟩
    have x4' := sameX_pen (pen := pen) (H := H3) (.lst [.ref sp, .int (k2 + 1 + 1)])
    have g4 : L2.upd H3 pen (.lst [.ref sp, .int (k2 + 1 + 1)]) pen = some (.lst [.ref sp, .int (k2 + 1 + 1)]) := upd_same
    have g4l : L2.upd H3 pen (.lst [.ref sp, .int (k2 + 1 + 1)]) l = some (.lst xs) := by rw [upd_ne nlp]; exact g3l
    have d4 := DnL.tupS (SameX.tup g3 x4') fb d3
    generalize L2.upd H3 pen (.lst [.ref sp, .int (k2 + 1 + 1)]) = H4 at x4' g4 g4l d4 ⊢
    have x4 := ((x1.trans x2).trans x3').trans x4'
    refine ⟨rfl, _, rfl, ?_⟩
    refine ite2 (fun _ => ?_) (fun _ => ?_)
    · refine ⟨_, rfl, small (by show 2 ≤ 1000; decide), fun fl hfl => ?_⟩
      have s5 := same_new hfl (.lst [.int 9, .int 7])
      have g5 : L2.upd H4 fl (.lst [.int 9, .int 7]) fl = some (.lst [.int 9, .int 7]) := upd_same
      have g5p := s5 _ _ g4
      have g5l := s5 _ _ g4l
      have d5 := DnL.same s5 _ _ d4
      have x5 := x4.trans (Same.x (pen := pen) s5)
      generalize L2.upd H4 fl (.lst [.int 9, .int 7]) = H5 at s5 g5 g5p g5l d5 x5 ⊢
      refine ⟨_, rfl, _, _, rfl, rfl, .inr ⟨_, rfl, ?_⟩⟩
      obtain ⟨top, hat, t0, t9⟩ : ∃ top : Int, atI [V.int 9, V.int 7] (if decide ((m : Int) > 6) = true then 1 else 0) = some (.int top) ∧ 0 < top ∧ top ≤ 9 := by
        split
        · exact ⟨_, rfl, by decide, by decide⟩
        · exact ⟨_, rfl, by decide, by decide⟩
      refine ⟨fl, _, _, _, rfl, rfl, SqL.of g5, hat, pen, sp, ns, top, k2 + 1 + 1, rfl, pn.to x5 g5p, by omega, by omega, t0, fun y y0 y1 => ?_⟩
      have x6' := sameX_pen (pen := pen) (H := H5) (.lst [.ref sp, .int (k2 + 1 + 1 + 1)])
      have g6 : L2.upd H5 pen (.lst [.ref sp, .int (k2 + 1 + 1 + 1)]) pen = some (.lst [.ref sp, .int (k2 + 1 + 1 + 1)]) := upd_same
      have g6l : L2.upd H5 pen (.lst [.ref sp, .int (k2 + 1 + 1 + 1)]) l = some (.lst xs) := by rw [upd_ne nlp]; exact g5l
      have d6 := DnL.tupS (SameX.tup g5p x6') fb d5
      generalize L2.upd H5 pen (.lst [.ref sp, .int (k2 + 1 + 1 + 1)]) = H6 at x6' g6 g6l d6 ⊢
      exact last m l bs xs y _ H6 (x5.trans x6') g6 (by omega) (by omega) m1 m9 g6l d6 gb b8 fb y0 (by omega)
    · exact last m l bs xs c _ H4 x4 g4 (by omega) (by omega) m1 m9 g4l d4 gb b8 fb c0 (by omega)
  refine ⟨_, (pss_cons (ps_set (i := 1) sc_law_wood.nd rfl (Or.inr rfl) (pe_op op_add pe_int (pe_callD G_law_take hr.lv rfl T.K_law_take (pa_cons (pv 0) (pa_cons pe_int pa_nil)))))
      (pss_cons (ps_if (pt_cmpR op_eq (pe_callD G_law_take hr.lv rfl T.K_law_take (pa_cons (pv 0) (pa_cons pe_int pa_nil))) pe_int (nomark _)) (pss_one (ps_set (i := 1) sc_law_wood.nd rfl (Or.inr rfl) (pe_op op_add pe_int (pe_callD G_law_take hr.lv rfl T.K_law_take (pa_cons (pv 0) (pa_cons pe_int pa_nil)))))) pss_nil)
      ch2)), ?_⟩
  refine ⟨_, rfl, pen, sp, ns, 6, k, rfl, pn, k0, by omega, by decide, fun c c0 c1 => ?_⟩
  refine ⟨_, _, rfl, rfl, ?_⟩
  have x1 := sameX_pen (pen := pen) (H := H) (.lst [.ref sp, .int (k + 1)])
  have h1 : L2.upd H pen (.lst [.ref sp, .int (k + 1)]) pen = some (.lst [.ref sp, .int (k + 1)]) := upd_same
  generalize L2.upd H pen (.lst [.ref sp, .int (k + 1)]) = H1 at x1 h1 ⊢
  refine ⟨_, rfl, pen, sp, ns, 8, k + 1, rfl, pn.to x1 h1, by omega, by omega, by decide, fun e e0 e1 => ?_⟩
  have x2 := x1.trans (sameX_pen (pen := pen) (H := H1) (.lst [.ref sp, .int (k + 1 + 1)]))
  have h2 : L2.upd H1 pen (.lst [.ref sp, .int (k + 1 + 1)]) pen = some (.lst [.ref sp, .int (k + 1 + 1)]) := upd_same
  generalize L2.upd H1 pen (.lst [.ref sp, .int (k + 1 + 1)]) = H2 at x2 h2 ⊢
  refine ⟨rfl, _, rfl, ?_⟩
  refine ite2 (fun _ => ?_) (fun _ => ?_)
  · refine ⟨_, rfl, pen, sp, ns, 3, k + 1 + 1, rfl, pn.to x2 h2, by omega, by omega, by decide, fun g g0 g1 => ?_⟩
    refine ⟨_, _, rfl, rfl, ?_⟩
    have x3 := x2.trans (sameX_pen (pen := pen) (H := H2) (.lst [.ref sp, .int (k + 1 + 1 + 1)]))
    have h3 : L2.upd H2 pen (.lst [.ref sp, .int (k + 1 + 1 + 1)]) pen = some (.lst [.ref sp, .int (k + 1 + 1 + 1)]) := upd_same
    have t := mid (7 + g).toNat _ _ x3 h3 (by omega) (by omega) (by omega) (by omega)
    rw [show (((7 + g).toNat : Nat) : Int) = 7 + g by omega] at t
    exact t
  · have t := mid (1 + c).toNat _ _ x2 h2 (by omega) (by omega) (by omega) (by omega)
    rw [show (((1 + c).toNat : Nat) : Int) = 1 + c by omega] at t
    exact t

end
section
variable {P : Program} {w : World} {K : PySem.W.Frag} {mg : Str → Option Value} {base : Heap} {a : Adr} {d : Fds}
theorem ok_law_has (T : Txt K mg a d) : FnOk P w K mg base CX0 1 a.f_law_has d.f_law_has ["_law_some", "_law_k"] spHasD := by
  refine T.K_law_has.ok sc_law_has (fun vs H Q E h => ?_) (fun cdv A outer s H vs Q E hr h => ?_)
  · obtain ⟨n, k, rfl, _⟩ := h
    rfl
  obtain ⟨n, k, rfl, k9, q⟩ := h
  have pk := pow_pos2 k
  refine ⟨_, (pss_one (ps_ret (pe_cmpR op_eq (pe_op op_mod (pe_op op_fdiv (pv 0) (pe_op op_shl pe_int (pv 1))) pe_int) pe_int (nomark _)))), ?_⟩
  refine ⟨_, rfl, _, rfl, _, _, rfl, rfl, ⟨by omega, by omega, by decide⟩, _, _, rfl, rfl, ?_, _, _, rfl, rfl, (by show (0 : Int) < 2; decide), rfl, ?_⟩
  · have p20 : 2 ^ k ≤ 2 ^ 20 := Nat.pow_le_pow_right (by decide) k9
    have e20 : (2 : Nat) ^ 20 = 1048576 := by decide
    show CDiv _ _
    unfold CDiv
    rw [shl1]
    omega
  · have e : decide ((fun i j : Int => V.int (i % j)) ((n : Int) / (1 * (2 : Int) ^ ((k : Nat) : Int).toNat)) 2 = V.int 1) = n.testBit k := by
      rw [shl1]
      exact bit_div n k
    rw [e]
    exact q

end
section
variable {P : Program} {w : World} {K : PySem.W.Frag} {mg : Str → Option Value} {base : Heap} {a : Adr} {d : Fds}
theorem ok_law_names (T : Txt K mg a d) : FnOk P w K mg base CX0 2 a.f_law_names d.f_law_names ["_law_state", "_law_many"] (spNamesD K) := by
  have G_law_take := ok_law_take (P := P) (w := w) (base := base) T
  refine T.K_law_names.ok sc_law_names (fun vs H Q E h => ?_) (fun cdv A outer s H vs Q E hr h => ?_)
  · obtain ⟨pen, sp, ns, m, k, rfl, _⟩ := h
    rfl
  obtain ⟨pen, sp, ns, m, k, rfl, pn, k0, k1, m1, m9, q⟩ := h
  have p62 : (2 : Int) ^ 62 = 4611686018427387904 := by decide
  obtain ⟨ct8, ch8, cu8⟩ := cutS (X := (cxOf CX0 P w K mg base ["_law_state", "_law_many", "_law_letters", "_law_turn", "_law_tail", "_law_names_here", "_law_way", "_law_whole", "_law_barred"] "_law_names" (defScope s_law_names) a.f_law_names cdv A outer s H E).nox) (st := (defBody s_law_names).drop 7) (PLi.pss (pli_cons (ps_setI (i := 8) sc_law_names.nd rfl (Or.inr rfl) (pei_lst (pai_cons (.of pe_str) (pai_cons (.of pe_str) (pai_cons (.of pe_str) (pai_cons (.of pe_str) (pai_cons (.of pe_str) (pai_cons (.of pe_str) (pai_cons (.of pe_str) pai_nil)))))))))
      (pli_cons (.of (ps_setLc (i := 5) sc_law_names.nd rfl rfl rfl (sc0 := defScope s_law_names) (XN := ["_law_state", "_law_many", "_law_letters", "_law_turn", "_law_tail", "_law_names_here", "_law_way", "_law_whole", "_law_barred"]) (N' := ["_law_name", "_law_barred"]) (n := 1) (kp := [8]) rfl (piL (K := K) (pv 5)) rfl rfl (by decide +kernel) (fun _ _ _ _ _ => (pg_name (i := 0) (by show List.Nodup (["_law_name", "_law_barred"] : List Str); decide +kernel) rfl (Or.inl rfl))) (fun _ _ _ _ _ => pts_nil) (fun _ _ _ _ _ => (pe_ix (ixL (K := K)) (pe_lst (pa_cons (pv 0) (pa_cons (pe_op op_add_str (pv 0) pe_str) pa_nil))) (pe_callTy call_int1 rfl T.m_int PyProof.Rows.boot_int (pa_cons (pe_cmpR (inS (K := K)) (pv 0) (pv 1) (by with_unfolding_all rfl)) pa_nil)) (fun _ _ => rfl)))))
      (pli_one (.of (ps_ret (pe_lc (sc0 := defScope s_law_names) (XN := ["_law_state", "_law_many", "_law_letters", "_law_turn", "_law_tail", "_law_names_here", "_law_way", "_law_whole", "_law_barred"]) (N' := ["_law_name"]) (n := 1) (kp := []) rfl (piL (K := K) (pv 5)) rfl rfl (by decide +kernel) (fun _ _ _ _ _ => (pg_name (i := 0) (by show List.Nodup (["_law_name"] : List Str); decide +kernel) rfl (Or.inl rfl))) (fun _ _ _ _ _ => pts_nil) (fun _ _ _ _ _ => (pe_ix (ixL (K := K)) (pe_lst (pa_cons (pv 0) (pa_cons pe_str pa_nil))) (pe_callTy call_int1 rfl T.m_int PyProof.Rows.boot_int (pa_cons (pe_cmpR op_eq (pv 0) pe_str (nomark _)) pa_nil)) (fun _ _ => rfl))))))))))
  have last : ∀ (v2 v3 v4 v6 v7 v8 : Option V) (kc : Int) (l : Addr) (bs : List Str) (H4 : Hp), SameX pen H H4 → H4 pen = some (.lst [.ref sp, .int kc]) → k ≤ kc → kc ≤ k + 30 → H4 l = some (.lst (strsL bs)) → bs.length = m → (∀ z ∈ bs, z.length ≤ 100) → Names (bs.map subF) → ct8 { nx := fun _ H' => Q .non H', rt := Q } [some (.ref pen), some (.int (m : Int)), v2, v3, v4, some (.ref l), v6, v7, v8] H4 := by
    intro v2 v3 v4 v6 v7 v8 kc l bs H4 x4 hp4 kc0 kc1 hl4 lb b100 nmb
    refine cu8 _ _ _ ?_
    refine ⟨small (by show 7 ≤ 1000; decide), fun kb hkb => ?_⟩
    have s5 := same_new hkb (.lst (strsL barred))
    have a5 : (L2.upd H4 kb (.lst (strsL barred))) kb = some (.lst (strsL barred)) := upd_same
    have l5 := s5 _ _ hl4
    have hp5 := s5 _ _ hp4
    have x5 := x4.trans (Same.x (pen := pen) s5)
    change Same H4 (L2.upd H4 kb (.lst [.str "may", .str "one", .str "must", .str "from", .str "bans", .str "most", .str "nothing"])) at s5
    change (L2.upd H4 kb (.lst [.str "may", .str "one", .str "must", .str "from", .str "bans", .str "most", .str "nothing"])) kb = _ at a5
    change (L2.upd H4 kb (.lst [.str "may", .str "one", .str "must", .str "from", .str "bans", .str "most", .str "nothing"])) l = _ at l5
    change (L2.upd H4 kb (.lst [.str "may", .str "one", .str "must", .str "from", .str "bans", .str "most", .str "nothing"])) pen = _ at hp5
    change SameX pen H (L2.upd H4 kb (.lst [.str "may", .str "one", .str "must", .str "from", .str "bans", .str "most", .str "nothing"])) at x5
    generalize L2.upd H4 kb (.lst [.str "may", .str "one", .str "must", .str "from", .str "bans", .str "most", .str "nothing"]) = H5 at s5 a5 l5 hp5 x5 ⊢
    have sb : ∀ c : List Str, (strsL c).length = c.length := fun c => by rw [strsL, List.length_map]
    refine ⟨_, rfl, l, rfl, ⟨_, SqL.of l5⟩, ?_⟩
    refine lc_list (K := K) (a := l) (xs := strsL bs) (fun i ys σ H2 => (∃ v, σ = [v, some (.ref kb)]) ∧ Same H5 H2 ∧ ys = strsL ((bs.take i).map subS)) ⟨⟨none, rfl⟩, Same.refl _, rfl⟩ (fun i ys σ H2 hi pv => ?_) (fun i ys σ H2 hi pv => ?_) (fun i x ys σ H2 hx pv => ?_) (fun ys σ H2 pv p hp => ?_)
    · obtain ⟨_, _, rfl⟩ := pv
      rw [sb, List.length_map, List.length_take]
      exact small (by omega)
    · exact SqL.of (pv.2.1 _ _ l5)
    · obtain ⟨⟨v, rfl⟩, sm, rfl⟩ := pv
      unfold strsL at hx
      rw [List.getElem?_map] at hx
      cases ek : bs[i]? with
      | none =>
        rw [ek] at hx
        cases hx
      | some z =>
        rw [ek] at hx
        cases hx
        have z1 := b100 z (List.mem_of_getElem? ek)
        refine ⟨_, rfl, _, rfl, z, "s", rfl, rfl, small (by show z.length + 1 ≤ 1000; omega), w2 _ _, fun p2 hp2 => ?_⟩
        have s2 := same_new hp2 (.lst [.str z, .str (z ++ "s")])
        refine ⟨_, rfl, _, rfl, kb, strsL barred, rfl, .inl (SqL.of (s2 _ _ (sm _ _ a5))), rfl, flat_strs _, .inr ⟨_, rfl, ?_⟩⟩
        rw [show (if false = true then !inV (.str z) (strsL barred) else inV (.str z) (strsL barred)) = barred.contains z from inV_strs z barred]
        refine ⟨p2, _, _, _, rfl, rfl, SqL.of upd_same, (?_ : _ = some (V.str (subS z))), ⟨_, rfl⟩, sm.trans s2, ?_⟩
        · unfold subS
          cases barred.contains z with
          | true => rfl
          | false => rfl
        · rw [List.take_succ, ek, List.map_append, strs_app]
          rfl
    · obtain ⟨_, sm, rfl⟩ := pv
      rw [sb, List.take_length]
      have s6 := sm.trans (same_new hp (.lst (strsL (bs.map subS))))
      have a6 : (L2.upd H2 p (.lst (strsL (bs.map subS)))) p = some (.lst (strsL (bs.map subS))) := upd_same
      generalize L2.upd H2 p (.lst (strsL (bs.map subS))) = H6 at s6 a6 ⊢
      have x6 := x5.trans (Same.x (pen := pen) s6)
      have hp6 := s6 _ _ hp5
      refine ⟨_, rfl, p, rfl, ⟨_, SqL.of a6⟩, ?_⟩
      refine lc_list (K := K) (a := p) (xs := strsL (bs.map subS)) (fun i ys σ H2 => (∃ v, σ = [v]) ∧ Same H6 H2 ∧ ys = strsL ((bs.take i).map subF)) ⟨⟨none, rfl⟩, Same.refl _, rfl⟩ (fun i ys σ H2 hi pv => ?_) (fun i ys σ H2 hi pv => ?_) (fun i x ys σ H2 hx pv => ?_) (fun ys σ H2 pv p9 hp9 => ?_)
      · obtain ⟨_, _, rfl⟩ := pv
        rw [sb, List.length_map, List.length_take]
        exact small (by omega)
      · exact SqL.of (pv.2.1 _ _ a6)
      · obtain ⟨⟨v, rfl⟩, sm, rfl⟩ := pv
        unfold strsL at hx
        rw [List.getElem?_map, List.getElem?_map] at hx
        cases ek : bs[i]? with
        | none =>
          rw [ek] at hx
          cases hx
        | some z =>
          rw [ek] at hx
          cases hx
          refine ⟨_, rfl, w2 _ _, fun p2 hp2 => ?_⟩
          have s2 := same_new hp2 (.lst [.str (subS z), .str ("seen" : Str)])
          refine ⟨_, rfl, rfl, .inr ⟨_, rfl, ?_⟩⟩
          refine ⟨p2, _, _, _, rfl, rfl, SqL.of upd_same, (?_ : _ = some (V.str (subF z))), ⟨_, rfl⟩, sm.trans s2, ?_⟩
          · rw [dec_strs]
            unfold subF subN
            by_cases e : subS z = "needs"
            · rw [decide_eq_true e, if_pos e]
              rfl
            · rw [decide_eq_false e, if_neg e]
              rfl
          · rw [List.take_succ, ek, List.map_append, strs_app]
            rfl
      · obtain ⟨_, sm, rfl⟩ := pv
        rw [sb, List.length_map, List.take_length]
        have s9 := sm.trans (same_new hp9 (.lst (strsL (bs.map subF))))
        exact q p9 _ kc _ (x6.trans (Same.x s9)) (s9 _ _ hp6) kc0 kc1 ((x6.trans (Same.x sm)).free ⟨_, sm _ _ hp6⟩ hp9) upd_same nmb (by rw [List.length_map, lb])
  obtain ⟨ct6, ch6, cu6⟩ := cutS (X := (cxOf CX0 P w K mg base ["_law_state", "_law_many", "_law_letters", "_law_turn", "_law_tail", "_law_names_here", "_law_way", "_law_whole", "_law_barred"] "_law_names" (defScope s_law_names) a.f_law_names cdv A outer s H E).nox) (st := (defBody s_law_names).drop 6) (PLi.pss (pli_cons (psi_if (pt_cmpR op_eq (pv 6) pe_int (nomark _)) (pli_one (ps_setI (i := 5) sc_law_names.nd rfl (Or.inl rfl) (pei_slice sl_list (pei_lst (pai_cons (.of pe_str) (pai_cons (.of pe_str) (pai_cons (.of pe_str) (pai_cons (.of pe_str) (pai_cons (.of pe_str) (pai_cons (.of pe_str) (pai_cons (.of pe_str) (pai_cons (.of pe_str) (pai_cons (.of pe_str) pai_nil)))))))))) po_none (po_some (pv 1))))) pss_nil)
      (.of ch8)))
  have l26 : (("abcdefghijklmnopqrstuvwxyz" : Str)).length ≤ sizeLine := by rw [sizeLine_eq]; decide
  have sb : ∀ c : List Str, (strsL c).length = c.length := fun c => by rw [strsL, List.length_map]
  have cutm : ∀ bs : List Str, cutV (strsL bs) none (some (m : Int)) = strsL (bs.take m) := fun bs => by
    unfold cutV strsL
    rw [HT.sIx_nat, List.map_take, List.length_map]
    show ((bs.map V.str).drop 0).take (min m bs.length - 0) = _
    rw [List.drop_zero, Nat.sub_zero]
    by_cases z : m ≤ bs.length
    · rw [Nat.min_eq_left z]
    · rw [Nat.min_eq_right (by omega), List.take_of_length_le (by rw [List.length_map]; omega), List.take_of_length_le (by rw [List.length_map]; omega)]
  have tail6 : ∀ (v2 v3 v4 v7 v8 : Option V) (way kc : Int) (l : Addr) (bs : List Str) (H4 : Hp), SameX pen H H4 → H4 pen = some (.lst [.ref sp, .int kc]) → k ≤ kc → kc ≤ k + 30 → H4 l = some (.lst (strsL bs)) → bs.length = m → (∀ z ∈ bs, z.length ≤ 100) → Names (bs.map subF) → ct6 { nx := fun _ H' => Q .non H', rt := Q } [some (.ref pen), some (.int (m : Int)), v2, v3, v4, some (.ref l), some (.int way), v7, v8] H4 := by
    intro v2 v3 v4 v7 v8 way kc l bs H4 x4 hp4 kc0 kc1 hl4 lb b100 nmb
    refine cu6 _ _ _ ?_
    refine ⟨_, rfl, rfl, _, rfl, ?_⟩
    refine ite2 (fun _ => ?_) (fun _ => ?_)
    · refine ⟨small (by show 9 ≤ 1000; decide), fun p2 hp2 => ?_⟩
      have s2 := same_new hp2 (.lst (strsL base1))
      refine ⟨_, rfl, (m : Int), rfl, p2, strsL base1, rfl, SqL.of upd_same, fun p3 hp3 => ?_⟩
      rw [cutm]
      have s3 := s2.trans (same_new hp3 (.lst (strsL (base1.take m))))
      obtain ⟨e1, e2⟩ := base1_ok m1 m9
      exact last _ _ _ _ _ _ kc p3 (base1.take m) _ (x4.trans (Same.x s3)) (s3 _ _ hp4) kc0 kc1 upd_same e2 (fun z hz => by
        have : ∀ z ∈ base1, z.length ≤ 100 := by decide
        exact this z (List.mem_of_mem_take hz)) e1
    · exact last _ _ _ _ _ _ kc l bs H4 x4 hp4 kc0 kc1 hl4 lb b100 nmb
  refine ⟨_, (PLi.pss (pli_cons (.of (ps_set (i := 2) sc_law_names.nd rfl (Or.inr rfl) pe_str))
      (pli_cons (.of (ps_set (i := 3) sc_law_names.nd rfl (Or.inr rfl) (pe_callD G_law_take hr.lv rfl T.K_law_take (pa_cons (pv 0) (pa_cons pe_int pa_nil)))))
      (pli_cons (.of (ps_set (i := 4) sc_law_names.nd rfl (Or.inr rfl) (pe_bmK (K := K) PySem.F.plainAttrs_str PySem.F.slot_str_join PySem.F.type_str_join (mt_joinK (K := K)) pe_str (pa_cons (pe_lc (sc0 := defScope s_law_names) (XN := ["_law_state", "_law_many", "_law_letters", "_law_turn", "_law_tail", "_law_names_here", "_law_way", "_law_whole", "_law_barred"]) (N' := ["_law_k", "_law_letters", "_law_state"]) (n := 1) (kp := [2, 0]) rfl (pi_range1 rfl T.m_range (pa_cons (pe_callD G_law_take hr.lv rfl T.K_law_take (pa_cons (pv 0) (pa_cons pe_int pa_nil))) pa_nil)) rfl rfl (by decide +kernel) (fun _ _ _ _ _ => (pg_name (i := 0) (by show List.Nodup (["_law_k", "_law_letters", "_law_state"] : List Str); decide +kernel) rfl (Or.inl rfl))) (fun _ _ _ _ _ => pts_nil) (fun _ _ _ _ _ => (pe_ix ix_str (pv 1) (pe_callD G_law_take hr.lv rfl T.K_law_take (pa_cons (pv 2) (pa_cons pe_int pa_nil))) (fun _ _ => rfl)))) pa_nil))))
      (pli_cons (.of (ps_setLc (i := 5) sc_law_names.nd rfl rfl rfl (sc0 := defScope s_law_names) (XN := ["_law_state", "_law_many", "_law_letters", "_law_turn", "_law_tail", "_law_names_here", "_law_way", "_law_whole", "_law_barred"]) (N' := ["_law_k", "_law_tail", "_law_letters", "_law_turn"]) (n := 1) (kp := [4, 2, 3]) rfl (pi_range1 rfl T.m_range (pa_cons (pv 1) pa_nil)) rfl rfl (by decide +kernel) (fun _ _ _ _ _ => (pg_name (i := 0) (by show List.Nodup (["_law_k", "_law_tail", "_law_letters", "_law_turn"] : List Str); decide +kernel) rfl (Or.inl rfl))) (fun _ _ _ _ _ => pts_nil) (fun _ _ _ _ _ => (pe_op op_add_str (pe_ix ix_str (pv 2) (pe_op op_mod (pe_op op_add (pv 3) (pe_op op_mul pe_int (pv 0))) pe_int) (fun _ _ => rfl)) (pv 1)))))
      (pli_cons (.of (ps_set (i := 6) sc_law_names.nd rfl (Or.inl rfl) (pe_callD G_law_take hr.lv rfl T.K_law_take (pa_cons (pv 0) (pa_cons pe_int pa_nil)))))
      (pli_cons (psi_if (pt_cmpR op_eq (pv 6) pe_int (nomark _)) (pli_cons (.of (ps_set (i := 7) sc_law_names.nd rfl (Or.inr rfl) (pe_op op_add_str (pe_op op_mulS (pe_ix ix_str (pv 2) (pv 3) (fun _ _ => rfl)) pe_int) (pe_op op_mulS (pe_ix ix_str (pv 2) (pe_op op_sub (pv 3) pe_int) (fun _ _ => rfl)) pe_int)))) (pli_cons (.of (ps_set (i := 5) sc_law_names.nd rfl (Or.inl rfl) (pe_op op_cat (pe_lc (sc0 := defScope s_law_names) (XN := ["_law_state", "_law_many", "_law_letters", "_law_turn", "_law_tail", "_law_names_here", "_law_way", "_law_whole", "_law_barred"]) (N' := ["_law_k", "_law_whole"]) (n := 1) (kp := [7]) rfl (pi_range1 rfl T.m_range (pa_cons pe_int pa_nil)) rfl rfl (by decide +kernel) (fun _ _ _ _ _ => (pg_name (i := 0) (by show List.Nodup (["_law_k", "_law_whole"] : List Str); decide +kernel) rfl (Or.inl rfl))) (fun _ _ _ _ _ => pts_nil) (fun _ _ _ _ _ => (pe_slice sl_str (pv 1) po_none (po_some (pe_op op_add pe_int (pv 0)))))) (pe_lst (pa_cons (pe_ix ix_str (pv 2) (pe_op op_sub (pv 3) pe_int) (fun _ _ => rfl)) pa_nil))))) (pli_one (.of (ps_set (i := 5) sc_law_names.nd rfl (Or.inl rfl) (pe_slice sl_list (pv 5) po_none (po_some (pv 1)))))))) pss_nil)
      (.of ch6)))))))), ?_⟩
  refine ⟨_, rfl, pen, sp, ns, 26, k, rfl, pn, by omega, by omega, by decide, fun turn t0 t1 => ?_⟩
  have x1 := sameX_pen (pen := pen) (H := H) (.lst [.ref sp, .int (k + 1)])
  have g1 : L2.upd H pen (.lst [.ref sp, .int (k + 1)]) pen = some (.lst [.ref sp, .int (k + 1)]) := upd_same
  generalize L2.upd H pen (.lst [.ref sp, .int (k + 1)]) = H1 at x1 g1 ⊢
  refine ⟨rfl, _, rfl, pen, sp, ns, 8, k + 1, rfl, pn.to x1 g1, by omega, by omega, by decide, fun n n0 n1 => ?_⟩
  have x2 := x1.trans (sameX_pen (pen := pen) (H := H1) (.lst [.ref sp, .int (k + 1 + 1)]))
  have g2 : L2.upd H1 pen (.lst [.ref sp, .int (k + 1 + 1)]) pen = some (.lst [.ref sp, .int (k + 1 + 1)]) := upd_same
  generalize L2.upd H1 pen (.lst [.ref sp, .int (k + 1 + 1)]) = H2 at x2 g2 ⊢
  refine ⟨_, rfl, by rw [p62]; omega, by rw [p62]; omega, ?_⟩
  refine lc_range0 (k := n.toNat) (fun i ys σ H3 => (∃ v, σ = [v, some (.str "abcdefghijklmnopqrstuvwxyz"), some (.ref pen)]) ∧ SameX pen H2 H3 ∧ ∃ (kc : Int) (ws : List Str), H3 pen = some (.lst [.ref sp, .int kc]) ∧ k + 2 ≤ kc ∧ kc ≤ k + 2 + i ∧ ys = strsL ws ∧ ws.length = i ∧ ∀ z ∈ ws, Low z ∧ z.length = 1) ⟨⟨none, rfl⟩, SameX.refl _ _, k + 1 + 1, [], g2, by omega, by omega, rfl, rfl, (fun _ z => nomatch z)⟩ (fun i ys σ H3 hi pv => ?_) (fun i ys σ H3 hi pv => ?_) (fun ys σ H3 pv cl hcl => ?_)
  · obtain ⟨_, _, kc, ws, _, _, _, rfl, ln, _⟩ := pv
    rw [sb, ln]
    exact small (by omega)
  · obtain ⟨⟨v, rfl⟩, x3, kc, ws, hp3, kc0, kc1, rfl, ln, lw⟩ := pv
    refine ⟨_, rfl, _, rfl, pen, sp, ns, 26, kc, rfl, pn.to (x2.trans x3) hp3, by omega, by omega, by decide, fun c c0 c1 => ?_⟩
    refine ⟨_, c, _, rfl, rfl, l26, let_at (by omega) c1, ⟨_, rfl⟩, x3.trans (sameX_pen _), kc + 1, ws ++ [letC c], upd_same, by omega, by push_cast; omega, ?_, by rw [List.length_append, ln]; rfl, fun z hz => ?_⟩
    · rw [strs_app]
      rfl
    · rcases List.mem_append.mp hz with e | e
      · exact lw z e
      · rw [List.mem_singleton.mp e]
        exact ⟨low_letC c, rfl⟩
  obtain ⟨_, x3', kc, ws, hp3, kc0, kc1, rfl, ln, lw⟩ := pv
  obtain ⟨lowt, lent⟩ := low_join lw
  have x3 := x2.trans x3'
  have s4 := same_new hcl (.lst (strsL ws))
  refine ⟨"", cl, ws, rfl, rfl, SqL.of upd_same, ?_, ?_⟩
  · have := sum_len (b := 1) (ws := ws) fun z hz => Nat.le_of_eq (lw z hz).2
    rw [show ("" : Str).length = 0 from rfl]
    omega
  have x4 := x3.trans (Same.x (pen := pen) s4)
  have g4 := s4 _ _ hp3
  generalize L2.upd H3 cl (.lst (strsL ws)) = H4 at x4 g4 ⊢
  generalize Str.join "" ws = tail at lowt lent ⊢
  refine ⟨_, rfl, _, rfl, by rw [p62]; omega, by rw [p62]; omega, ?_⟩
  rw [Int.toNat_natCast]
  have p64 : (2 : Int) ^ 64 = 18446744073709551616 := by decide
  refine lc_range0 (k := m) (fun i ys σ H5 => (∃ v, σ = [v, some (.str tail), some (.str "abcdefghijklmnopqrstuvwxyz"), some (.int turn)]) ∧ H5 = H4 ∧ ys = strsL (base2 turn tail i)) ⟨⟨none, rfl⟩, rfl, rfl⟩ (fun i ys σ H3 hi pv => ?_) (fun i ys σ H3 hi pv => ?_) (fun ys σ H3 pv nl hnl => ?_)
  · obtain ⟨_, _, rfl⟩ := pv
    rw [sb, base2, List.length_map, List.length_range]
    exact small (by omega)
  · obtain ⟨⟨v, rfl⟩, rfl, rfl⟩ := pv
    refine ⟨_, rfl, _, rfl, _, rfl, _, _, rfl, rfl, .inr ⟨by rw [p64]; omega, by rw [p64]; omega⟩, _, _, rfl, rfl, _, _, rfl, rfl, (by decide : (0 : Int) < 26), _, (turn + 3 * (i : Int)) % 26, _, rfl, rfl, l26, let_at (by omega) (by omega), _, rfl, _, _, rfl, rfl, small (by show 1 + tail.length ≤ 1000; omega), ⟨_, rfl⟩, rfl, ?_⟩
    unfold base2
    rw [List.range_succ, List.map_append, strs_app]
    rfl
  obtain ⟨_, rfl, rfl⟩ := pv
  obtain ⟨b2a, b2b⟩ := base2_ok t0 t1 lowt (by omega) m1 m9
  have s5 := same_new hnl (.lst (strsL (base2 turn tail m)))
  have a5 : (L2.upd H3 nl (.lst (strsL (base2 turn tail m)))) nl = some (.lst (strsL (base2 turn tail m))) := upd_same
  have x5 := x4.trans (Same.x (pen := pen) s5)
  have g5 := s5 _ _ g4
  have npl : nl ≠ pen := fun z => by rw [z, g4] at hnl; cases hnl
  generalize L2.upd H3 nl (.lst (strsL (base2 turn tail m))) = H5 at s5 a5 x5 g5 ⊢
  refine ⟨_, rfl, pen, sp, ns, 4, kc, rfl, pn.to x5 g5, by omega, by omega, by decide, fun way w0 w1 => ?_⟩
  have x6 := x5.trans (sameX_pen (pen := pen) (H := H5) (.lst [.ref sp, .int (kc + 1)]))
  have g6 : L2.upd H5 pen (.lst [.ref sp, .int (kc + 1)]) pen = some (.lst [.ref sp, .int (kc + 1)]) := upd_same
  have a6 : L2.upd H5 pen (.lst [.ref sp, .int (kc + 1)]) nl = some (.lst (strsL (base2 turn tail m))) := by
    rw [upd_ne npl]
    exact a5
  generalize L2.upd H5 pen (.lst [.ref sp, .int (kc + 1)]) = H6 at x6 g6 a6 ⊢
  refine ⟨_, rfl, rfl, _, rfl, ?_⟩
  refine ite2 (fun _ => ?_) (fun _ => ?_)
  · refine ⟨_, rfl, _, rfl, _, turn, _, rfl, rfl, l26, let_at (by omega) t1, letC turn, 3, rfl, rfl, by decide, by decide, (show 1 ≤ 1000 by decide), _, rfl, _, rfl, _, _, rfl, rfl, _, turn - 1, _, rfl, rfl, l26, let_at (by omega) (by omega), letC (turn - 1), 5, rfl, rfl, by decide, by decide, (show 1 ≤ 1000 by decide), _, _, rfl, rfl, ?_, ?_⟩
    · have z : ∀ d : Fin 26, (Txt.mul (letC (d.val : Int)) 3).length + (Txt.mul (letC ((d.val : Int) - 1)) 5).length ≤ 8 := by decide +kernel
      have := z ⟨turn.toNat, by omega⟩
      rw [show ((turn.toNat : Nat) : Int) = turn by omega] at this
      exact small (by omega)
    have wl : (Txt.mul (letC turn) 3 ++ Txt.mul (letC (turn - 1)) 5).length ≤ sizeLine := by
      have z : ∀ d : Fin 26, (Txt.mul (letC (d.val : Int)) 3).length + (Txt.mul (letC ((d.val : Int) - 1)) 5).length ≤ 8 := by decide +kernel
      have := z ⟨turn.toNat, by omega⟩
      rw [show ((turn.toNat : Nat) : Int) = turn by omega] at this
      rw [str_len_app]
      exact small (by omega)
    have b100 : ∀ z ∈ base0 turn, z.length ≤ 100 := by
      have z : ∀ d : Fin 26, ((base0 (d.val : Int)).all fun z => decide (z.length ≤ 100)) = true := by decide +kernel
      have := z ⟨turn.toNat, by omega⟩
      rw [show ((turn.toNat : Nat) : Int) = turn by omega, List.all_eq_true] at this
      exact fun z hz => of_decide_eq_true (this z hz)
    obtain ⟨b0a, b0b⟩ := base0_ok t0 t1 m1 m9
    obtain ⟨pre, epre⟩ : ∃ pre, pre = fun i : Nat => (List.range i).map fun k : Nat => StrLaws.sliceText (Txt.mul (letC turn) 3 ++ Txt.mul (letC (turn - 1)) 5) none (some (1 + (k : Int))) := ⟨_, rfl⟩
    have eb0 : base0 turn = pre 8 ++ [letC (turn - 2)] := by
      rw [epre]
      rfl
    have pren : ∀ i, pre (i + 1) = pre i ++ [StrLaws.sliceText (Txt.mul (letC turn) 3 ++ Txt.mul (letC (turn - 1)) 5) none (some (1 + (i : Int)))] := fun i => by
      rw [epre]
      show (List.range (i + 1)).map _ = _
      rw [List.range_succ, List.map_append]
      rfl
    have prel : ∀ i, (pre i).length = i := fun i => by
      rw [epre]
      show ((List.range i).map _).length = i
      rw [List.length_map, List.length_range]
    have pre0 : pre 0 = [] := by
      rw [epre]
      rfl
    clear epre
    generalize Txt.mul (letC turn) 3 ++ Txt.mul (letC (turn - 1)) 5 = wh at wl pren ⊢
    refine ⟨_, rfl, by rw [p62]; decide, by rw [p62]; decide, ?_⟩
    refine lc_range0 (k := 8) (fun i ys σ H7 => (∃ v, σ = [v, some (.str wh)]) ∧ H7 = H6 ∧ ys = strsL (pre i)) ⟨⟨none, rfl⟩, rfl, by rw [pre0]; rfl⟩ (fun i ys σ H7 hi pv => ?_) (fun i ys σ H7 hi pv => ?_) (fun ys σ H7 pv c1 hc1 => ?_)
    · obtain ⟨_, _, rfl⟩ := pv
      rw [sb, prel]
      exact small (by omega)
    · obtain ⟨⟨v, rfl⟩, rfl, rfl⟩ := pv
      refine ⟨_, rfl, _, rfl, _, _, rfl, rfl, _, rfl, wh, rfl, wl, ⟨_, rfl⟩, rfl, ?_⟩
      rw [pren, strs_app]
      rfl
    obtain ⟨_, rfl, rfl⟩ := pv
    refine ⟨_, rfl, _, rfl, _, _, rfl, rfl, _, turn - 2, _, rfl, rfl, l26, let_at (by omega) (by omega), Ow.w1 _, fun p2 hp2 => ?_⟩
    have s7 := same_new hc1 (.lst (strsL (pre 8)))
    have s8' := same_new hp2 (.lst (strsL [letC (turn - 2)]))
    have s8 := s7.trans s8'
    refine ⟨c1, p2, strsL (pre 8), strsL [letC (turn - 2)], rfl, rfl, s8' _ _ upd_same, upd_same, ?_, fun p3 hp3 => ?_⟩
    · rw [sb, sb, prel]
      exact small (by show 8 + 1 ≤ 1000; decide)
    rw [← strs_app, ← eb0]
    have s9 := s8.trans (same_new hp3 (.lst (strsL (base0 turn))))
    refine ⟨_, rfl, _, rfl, (m : Int), rfl, p3, strsL (base0 turn), rfl, SqL.of upd_same, fun p4 hp4 => ?_⟩
    rw [cutm]
    have s10 := s9.trans (same_new hp4 (.lst (strsL ((base0 turn).take m))))
    exact tail6 _ _ _ _ _ way (kc + 1) p4 _ _ (x6.trans (Same.x s10)) (s10 _ _ g6) (by omega) (by omega) upd_same b0b (fun z hz => b100 z (List.mem_of_mem_take hz)) b0a
  · exact tail6 _ _ _ _ _ way (kc + 1) nl _ H6 x6 g6 (by omega) (by omega) a6 b2b (fun z hz => by
      obtain ⟨j, _, rfl⟩ := List.mem_map.mp hz
      rw [str_len_app, letC_len]
      omega) b2a

end
section
variable {P : Program} {w : World} {K : PySem.W.Frag} {mg : Str → Option Value} {base : Heap} {a : Adr} {d : Fds}
theorem ok_law_figures (T : Txt K mg a d) : FnOk P w K mg base CX0 1 a.f_law_figures d.f_law_figures ["_law_number"] spFigures := by
  refine T.K_law_figures.ok sc_law_figures (fun vs H Q E h => ?_) (fun cdv A outer s H vs Q E hr h => ?_)
  · obtain ⟨n, rfl, _⟩ := h
    rfl
  obtain ⟨n, rfl, n60, q⟩ := h
  refine ⟨_, (pss_cons (ps_set (i := 1) sc_law_figures.nd rfl (Or.inl rfl) pe_str)
      (pss_cons (ps_set (i := 2) sc_law_figures.nd rfl (Or.inl rfl) (pe_callB call_absT rfl T.m_abs PyProof.Rows.boot_abs (pa_cons (pv 0) pa_nil)))
      (pss_cons (ps_while PassesOwn.never (PW.pt (pw_or (pt_cmpR op_gt (pv 2) pe_int (nomark _)) (pw_or1 (pt_cmpR op_eq (pv 1) pe_str (nomark _))))) (pss_cons (ps_set (i := 1) sc_law_figures.nd rfl (Or.inl rfl) (pe_op op_add_str (pe_ix ix_str pe_str (pe_op op_mod (pv 2) pe_int) (fun _ _ => rfl)) (pv 1)))
      (pss_one (ps_set (i := 2) sc_law_figures.nd rfl (Or.inl rfl) (pe_op op_fdiv (pv 2) pe_int)))))
      (pss_one (ps_ret (pe_op op_add_str (pe_ix (ixL (K := K)) (pe_lst (pa_cons pe_str (pa_cons pe_str pa_nil))) (pe_callTy call_int1 rfl T.m_int PyProof.Rows.boot_int (pa_cons (pe_cmpR op_lt (pv 0) pe_int (nomark _)) pa_nil)) (fun _ _ => rfl)) (pv 1))))))), ?_⟩
  refine ⟨_, rfl, n, rfl, ?_⟩
  rw [show (if n < 0 then -n else n) = ((n.natAbs : Nat) : Int) from by split <;> omega]
  refine while_by (fun σ H2 => ∃ (r : Nat) (cs : List Nat), σ = [some (.int n), some (.str (ofL cs)), some (.int (r : Int))] ∧ H2 = H ∧ Wr n.natAbs r cs) (fun σ _ => match σ with | [_, some (.str z), some (.int r)] => r.toNat + (if z.cps.size = 0 then 1 else 0) | _ => 0) ⟨n.natAbs, [], rfl, rfl, .inl ⟨rfl, rfl⟩⟩ ?_ ?_
  · rintro σ H2 ⟨r, cs, rfl, rfl, wr⟩
    refine ⟨_, rfl, _, _, rfl, rfl, _, rfl, ?_⟩
    refine iteOr (b2 := decide (V.str (ofL cs) = V.str "")) (fun k => ⟨_, rfl, rfl, _, rfl, k⟩) ?_
    rw [ofL_nil]
    have cl := wr.len n60
    have se : ∀ ds : List Nat, (ofL ds).cps.size = ds.length := fun ds => ofL_len ds
    refine ite2 (fun c => ?_) (fun c => ?_)
    · have c' : 0 < r ∨ cs = [] := by
        rw [Bool.or_eq_true] at c
        exact c.imp (fun z => by have := of_decide_eq_true z; omega) of_decide_eq_true
      refine ⟨_, rfl, _, _, rfl, rfl, (by show (0 : Int) < 10; decide), _, ((r % 10 : Nat) : Int), 48 + r % 10, rfl, congrArg V.int (Int.natCast_emod r 10).symm, (by rw [sizeLine_eq]; decide), fig_at (Nat.mod_lt r (by decide)), _, rfl, _, _, rfl, rfl, ?_, ?_⟩
      · show 1 + (ofL cs).length ≤ _
        rw [ofL_len]
        exact small (by omega)
      refine ⟨_, rfl, _, _, rfl, rfl, ⟨by decide, by decide⟩, ?_⟩
      refine ⟨⟨r / 10, (48 + r % 10) :: cs, ?_, rfl, wr.step c'⟩, ?_⟩
      · rw [← ofL_cons, Int.natCast_ediv]
        rfl
      · show ((r : Int) / 10).toNat + (if ((⟨#[48 + r % 10]⟩ : Str) ++ ofL cs).cps.size = 0 then 1 else 0) < ((r : Int)).toNat + (if (ofL cs).cps.size = 0 then 1 else 0)
        rw [ofL_cons, se, se, if_neg (by rw [List.length_cons]; omega)]
        rcases c' with c' | c'
        · have : ((r : Int) / 10).toNat < ((r : Int)).toNat := by omega
          omega
        · rw [c', if_pos List.length_nil]
          omega
    · have c' : cs = dgs n.natAbs := wr.fin fun z => c (by
        rw [Bool.or_eq_true]
        exact z.imp (fun y => decide_eq_true (by omega)) decide_eq_true)
      have e := numT_dgs n
      by_cases h : n < 0
      · rw [if_pos h, ← c'] at e
        refine ⟨w2 _ _, fun p hp => ⟨_, rfl, _, _, rfl, rfl, .inr ⟨_, rfl, p, _, _, .str "-", rfl, rfl, SqL.of upd_same, ?_, _, rfl, "-", _, rfl, rfl, ?_, ?_⟩⟩⟩
        · rw [decide_eq_true h]
          exact at1
        · show 1 + (ofL cs).length ≤ _
          rw [ofL_len]
          exact small (by omega)
        · rw [show (("-" : Str) ++ ofL cs) = numT n from by rw [e]; exact ofL_cons 45 cs]
          exact q _ (same_new hp _)
      · rw [if_neg h, ← c'] at e
        refine ⟨w2 _ _, fun p hp => ⟨_, rfl, _, _, rfl, rfl, .inr ⟨_, rfl, p, _, _, .str "", rfl, rfl, SqL.of upd_same, ?_, _, rfl, "", _, rfl, rfl, ?_, ?_⟩⟩⟩
        · rw [decide_eq_false h]
          exact at0
        · show 0 + (ofL cs).length ≤ _
          rw [ofL_len]
          exact small (by omega)
        · rw [show (("" : Str) ++ ofL cs) = numT n from by rw [e]; exact ofL_app [] cs]
          exact q _ (same_new hp _)
  · rintro σ H2 Q1 Q2 hQ ⟨x, hx, i, j, e1, e2, k, e3, h⟩
    refine ⟨x, hx, i, j, e1, e2, k, e3, ?_⟩
    by_cases c : k = true
    · subst c
      exact hQ _ _ h
    · rw [Bool.eq_false_iff.mpr c] at h ⊢
      obtain ⟨x2, hx2, sc, k2, e4, h⟩ := h
      exact ⟨x2, hx2, sc, k2, e4, hQ _ _ h⟩

end
section
variable {P : Program} {w : World} {K : PySem.W.Frag} {mg : Str → Option Value} {base : Heap} {a : Adr} {d : Fds}
theorem ok_law_bough_words (T : Txt K mg a d) : FnOk P w K mg base CX0 2 a.f_law_bough_words d.f_law_bough_words ["_law_bough_here"] spLawBoughW := by
  have G_law_figures := ok_law_figures (P := P) (w := w) (base := base) T
  refine T.K_law_bough_words.ok sc_law_bough_words (fun vs H Q E h => ?_) (fun cdv A outer s H vs Q E hr h => ?_)
  · obtain ⟨v, u, lo, hi, ks, rfl, _⟩ := h
    rfl
  obtain ⟨v, u, lo, hi, ks, rfl, hd, l1, l2, k9, q⟩ := h
  obtain ⟨pb, zs, rfl, hpb, f1, g1, rfl, rfl, f2, g2, rfl, rfl, f3, g3, rfl, rfl, f4, g4, rfl, ⟨pk, zk, rfl, hpk, hzk⟩, rfl⟩ := hd
  have zk' : zk = natsL ks := nats_of hzk
  subst zk'
  have nk : (natsL ks).length = ks.length := by rw [natsL, List.length_map]
  have w4 : ∀ x y z u : V, ([x, y, z, u] : List V).length ≤ sizeLine := fun x y z u => by rw [sizeLine_eq]; show 4 ≤ _; decide
  have fin : ∀ (ws : List Str), boundW lo hi ks.length = ws → ∀ p H1, Same H H1 → H1 p = none → Q (.ref p) (upd H1 p (.lst (ws.map V.str))) := fun ws e p H1 s1 hp => by
    refine q p _ (s1.trans (same_new hp _)) (s1.free hp) ?_
    rw [e]
    exact upd_same
  refine ⟨_, (pss_cons (ps_asg (pv 0) (pgT (K := K) (n := 4) rfl (pgs_cons (pg_name (i := 1) sc_law_bough_words.nd rfl (Or.inl rfl)) (pgs_cons (pg_name (i := 2) sc_law_bough_words.nd rfl (Or.inl rfl)) (pgs_cons (pg_name (i := 3) sc_law_bough_words.nd rfl (Or.inl rfl)) (pgs_cons (pg_name (i := 4) sc_law_bough_words.nd rfl (Or.inl rfl)) pgs_nil))))))
      (pss_cons (ps_if (pt_cmpR op_eq (pv 2) (pe_callB (lenS (K := K)) rfl T.m_len PySem.boot_len (pa_cons (pv 4) pa_nil)) (nomark _)) (pss_one (ps_ret (pe_lst (pa_cons pe_str pa_nil)))) pss_nil)
      (pss_cons (ps_if (PW.pt (pw_and (pt_cmpR op_eq (pv 2) pe_int (nomark _)) (pw_and1 (pt_cmpR op_eq (pv 3) (pe_callB (lenS (K := K)) rfl T.m_len PySem.boot_len (pa_cons (pv 4) pa_nil)) (nomark _))))) (pss_one (ps_ret (pe_lst (pa_cons pe_str pa_nil)))) pss_nil)
      (pss_cons (ps_if (PW.pt (pw_and (pt_cmpR op_eq (pv 2) pe_int (nomark _)) (pw_and1 (pt_cmpR op_eq (pv 3) pe_int (nomark _))))) (pss_one (ps_ret (pe_lst (pa_cons pe_str pa_nil)))) pss_nil)
      (pss_one (ps_ret (pe_lst (pa_cons pe_str (pa_cons (pe_callD G_law_figures hr.lv rfl T.K_law_figures (pa_cons (pv 2) pa_nil)) (pa_cons pe_str (pa_cons (pe_callD G_law_figures hr.lv rfl T.K_law_figures (pa_cons (pv 3) pa_nil)) pa_nil))))))))))), ?_⟩
  refine ⟨_, rfl, pb, _, rfl, sqT hpb, rfl, _, _, rfl, _, _, rfl, _, _, rfl, _, _, rfl, rfl, ?_⟩
  refine ⟨_, rfl, _, rfl, pk, _, rfl, .inr (sqT hpk), rfl, _, rfl, ?_⟩
  rw [nk, nat_eq]
  refine ite2 (fun c => ?_) (fun c => ?_)
  · have c' := of_decide_eq_true c
    exact ⟨w1 _, fun p hp => fin ["must"] (by unfold boundW; rw [if_pos (by omega)]) p H (Same.refl H) hp⟩
  have n1 : ¬ (lo = ks.length ∧ hi = ks.length) := fun z => c (decide_eq_true z.1)
  refine ⟨_, rfl, rfl, _, rfl, ?_⟩
  refine iteAnd (b2 := decide (V.int (hi : Int) = V.int (((natsL ks).length : Nat) : Int))) (fun k => ⟨_, rfl, _, rfl, pk, _, rfl, .inr (sqT hpk), rfl, _, rfl, k⟩) ?_
  rw [nk]
  refine ite2 (fun c => ?_) (fun c => ?_)
  · have c' := (nat_and lo 0 hi ks.length).symm.trans c
    exact ⟨w1 _, fun p hp => fin ["may"] (by unfold boundW; rw [if_neg n1, if_pos (of_decide_eq_true c')]) p H (Same.refl H) hp⟩
  have n2 : ¬ (lo = 0 ∧ hi = ks.length) := fun z => c ((nat_and lo 0 hi ks.length).trans (decide_eq_true z))
  refine ⟨_, rfl, rfl, _, rfl, ?_⟩
  refine iteAnd (b2 := decide (V.int (hi : Int) = V.int 1)) (fun k => ⟨_, rfl, rfl, _, rfl, k⟩) ?_
  refine ite2 (fun c => ?_) (fun c => ?_)
  · have c' := (nat_and lo 1 hi 1).symm.trans c
    exact ⟨w1 _, fun p hp => fin ["one"] (by unfold boundW; rw [if_neg n1, if_neg n2, if_pos (of_decide_eq_true c')]) p H (Same.refl H) hp⟩
  have n3 : ¬ (lo = 1 ∧ hi = 1) := fun z => c ((nat_and lo 1 hi 1).trans (decide_eq_true z))
  exact ⟨_, rfl, lo, rfl, abs_small (by omega), fun H1 s1 => ⟨_, rfl, hi, rfl, abs_small (by omega), fun H2 s2 => ⟨w4 _ _ _ _, fun p hp => fin ["from", numT lo, "to", numT hi] (by unfold boundW; rw [if_neg n1, if_neg n2, if_neg n3]) p H2 (s1.trans s2) hp⟩⟩⟩

end
section
variable {P : Program} {w : World} {K : PySem.W.Frag} {mg : Str → Option Value} {base : Heap} {a : Adr} {d : Fds}
theorem ok_law_lines (T : Txt K mg a d) : FnOk P w K mg base CX0 3 a.f_law_lines d.f_law_lines ["_law_names_here", "_law_wood_here"] spLawLines := by
  have G_law_bough_words := ok_law_bough_words (P := P) (w := w) (base := base) T
  have G_law_figures := ok_law_figures (P := P) (w := w) (base := base) T
  refine T.K_law_lines.ok sc_law_lines (fun vs H Q E h => ?_) (fun cdv A outer s H vs Q E hr h => ?_)
  · obtain ⟨l, wd, tb, tc, ns, L, C, rfl, _⟩ := h
    rfl
  obtain ⟨l, wd, tb, tc, ns, L, C, rfl, hl, W, hhi, n8, sml, q⟩ := h
  have m9 := W.m9
  have m1 := W.m1
  have nsn : ns ≠ [] := fun z => by rw [z] at m1; exact absurd m1 (by decide)
  have sw := short_join (short_ware m9 n8)
  have snl : ShortL ns := ⟨by omega, fun z hz => by have := n8 z hz; omega⟩
  have sn := short_join snl
  refine ⟨_, (pss_cons (ps_set (i := 2) sc_law_lines.nd rfl (Or.inl rfl) (pe_lst (pa_cons (pe_op op_add_str pe_str (pe_bmK (K := K) PySem.F.plainAttrs_str PySem.F.slot_str_join PySem.F.type_str_join (mt_joinK (K := K)) pe_str (pa_cons (pv 0) pa_nil))) pa_nil)))
      (pss_cons (ps_for PassesOwn.never rfl (piT (K := K) (pe_ix (ixT (K := K)) (pv 1) pe_int (fun _ _ => rfl))) (pg_name (i := 3) sc_law_lines.nd rfl (Or.inl rfl)) (pss_cons (ps_set (i := 4) sc_law_lines.nd rfl (Or.inl rfl) (pe_op op_cat (pe_callD G_law_bough_words hr.lv rfl T.K_law_bough_words (pa_cons (pv 3) pa_nil)) (pe_lc (sc0 := defScope s_law_lines) (XN := ["_law_names_here", "_law_wood_here", "_law_lines_here", "_law_bough_here", "_law_words", "_law_tie", "_law_k", "_law_number"]) (N' := ["_law_k", "_law_names_here"]) (n := 1) (kp := [0]) rfl (piT (K := K) (pe_ix (ixT (K := K)) (pv 3) pe_int (fun _ _ => rfl))) rfl rfl (by decide +kernel) (fun _ _ _ _ _ => (pg_name (i := 0) (by show List.Nodup (["_law_k", "_law_names_here"] : List Str); decide +kernel) rfl (Or.inl rfl))) (fun _ _ _ _ _ => pts_nil) (fun _ _ _ _ _ => (pe_ix (ixL (K := K)) (pv 1) (pv 0) (fun _ _ => rfl))))))
      (pss_one (ps_expr (pe_bmK (K := K) PySem.F.plainAttrs_list PySem.F.slot_list_append PySem.F.type_list_append mt_append (pv 2) (pa_cons (pe_bmK (K := K) PySem.F.plainAttrs_str PySem.F.slot_str_join PySem.F.type_str_join (mt_joinK (K := K)) pe_str (pa_cons (pe_op op_cat (pe_lst (pa_cons (pe_ix (ixL (K := K)) (pv 0) (pe_ix (ixT (K := K)) (pv 3) pe_int (fun _ _ => rfl)) (fun _ _ => rfl)) pa_nil)) (pv 4)) pa_nil)) pa_nil))))))
      (pss_cons (ps_for PassesOwn.never rfl (piT (K := K) (pe_ix (ixT (K := K)) (pv 1) pe_int (fun _ _ => rfl))) (pg_name (i := 5) sc_law_lines.nd rfl (Or.inl rfl)) (pss_cons (ps_set (i := 4) sc_law_lines.nd rfl (Or.inl rfl) (pe_lst (pa_cons (pe_ix (ixT (K := K)) (pv 5) pe_int (fun _ _ => rfl)) (pa_cons (pe_callD G_law_figures hr.lv rfl T.K_law_figures (pa_cons (pe_ix (ixT (K := K)) (pv 5) pe_int (fun _ _ => rfl)) pa_nil)) (pa_cons pe_str pa_nil)))))
      (pss_cons (ps_if (pt_cmpR op_eq (pe_ix (ixT (K := K)) (pv 5) pe_int (fun _ _ => rfl)) pe_str (nomark _)) (pss_one (ps_for PassesOwn.never rfl (piT (K := K) (pe_ix (ixT (K := K)) (pv 5) pe_int (fun _ _ => rfl))) (pgT (K := K) (n := 2) rfl (pgs_cons (pg_name (i := 6) sc_law_lines.nd rfl (Or.inl rfl)) (pgs_cons (pg_name (i := 7) sc_law_lines.nd rfl (Or.inl rfl)) pgs_nil))) (pss_one (ps_set (i := 4) sc_law_lines.nd rfl (Or.inl rfl) (pe_op op_cat (pv 4) (pe_lst (pa_cons (pe_callD G_law_figures hr.lv rfl T.K_law_figures (pa_cons (pv 7) pa_nil)) (pa_cons (pe_ix (ixL (K := K)) (pv 0) (pv 6) (fun _ _ => rfl)) pa_nil)))))))) (pss_one (ps_set (i := 4) sc_law_lines.nd rfl (Or.inl rfl) (pe_lst (pa_cons (pe_ix (ixL (K := K)) (pv 0) (pe_ix (ixT (K := K)) (pv 5) pe_int (fun _ _ => rfl)) (fun _ _ => rfl)) (pa_cons (pe_ix (ixT (K := K)) (pv 5) pe_int (fun _ _ => rfl)) (pa_cons (pe_ix (ixL (K := K)) (pv 0) (pe_ix (ixT (K := K)) (pv 5) pe_int (fun _ _ => rfl)) (fun _ _ => rfl)) pa_nil)))))))
      (pss_one (ps_expr (pe_bmK (K := K) PySem.F.plainAttrs_list PySem.F.slot_list_append PySem.F.type_list_append mt_append (pv 2) (pa_cons (pe_bmK (K := K) PySem.F.plainAttrs_str PySem.F.slot_str_join PySem.F.type_str_join (mt_joinK (K := K)) pe_str (pa_cons (pv 4) pa_nil)) pa_nil)))))))
      (pss_one (ps_ret (pe_bmK (K := K) PySem.F.plainAttrs_str PySem.F.slot_str_join PySem.F.type_str_join (mt_joinK (K := K)) pe_str (pa_cons (pv 2) pa_nil))))))), ?_⟩
  refine ⟨rfl, _, rfl, " ", l, ns, rfl, rfl, SqL.of hl, sn.1, _, _, rfl, rfl, ?_, w1 _, fun kl hkl => ?_⟩
  · have e : ((("ware ") : Str)).length = 5 := rfl
    rw [e]
    exact Nat.le_trans (show 5 + _ ≤ 1000000 by have := sn.2; omega) (by rw [sizeLine_eq]; decide)
  rw [ware_join nsn]
  have s1 := same_new hkl (.lst (strsL (joinedB ns [])))
  obtain ⟨xs, ht, hx⟩ := W.bs
  obtain ⟨ys, htc, hy⟩ := W.cs
  have lx := hx.length
  have ly := hy.length
  rw [List.length_map, List.length_map] at lx
  rw [List.length_map] at ly
  have fb := W.fewb
  have fc := W.fewc
  refine ⟨_, rfl, wd, _, _, _, rfl, rfl, sqT (s1 _ _ W.at_), at1, tb, rfl, ⟨xs, sqT (s1 _ _ ht)⟩, ?_⟩
  refine for_tup (K := K) (a := tb) (xs := xs) (fun i σ H2 => (∃ v3 v4 v5 v6 v7, σ = [some (.ref l), some (.ref wd), some (.ref kl), v3, v4, v5, v6, v7]) ∧ Same H H2 ∧ H2 kl = some (.lst (strsL (joinedB ns (L.take i))))) ⟨⟨none, none, none, none, none, rfl⟩, s1, upd_same⟩ (fun i σ H2 _ z => sqT (z.2.1 _ _ ht)) ?_ ?_
  · rintro i x σ H2 hxi ⟨⟨v3, v4, v5, v6, v7, rfl⟩, sm, r1⟩
    obtain ⟨e, he, hd0⟩ := hx.get hxi
    rw [List.map_map, List.getElem?_map] at he
    cases eb : L[i]? with
    | none =>
      rw [eb] at he
      cases he
    | some b =>
      rw [eb] at he
      cases he
      have hd : Dn H (Tie.bough b.u b.lo b.hi b.ks).toD x := hd0
      obtain ⟨pb, zs, rfl, hpb, f1, g1, rfl, rfl, f2, g2, rfl, rfl, f3, g3, rfl, rfl, f4, g4, rfl, ⟨pk, zk, rfl, hpk, hzk⟩, rfl⟩ := id hd
      have ok := W.okb b (List.mem_of_getElem? eb)
      have hik := hhi b (List.mem_of_getElem? eb)
      have zk' : zk = natsL b.ks := nats_of hzk
      subst zk'
      obtain ⟨lo, elo⟩ : ∃ n : Nat, b.lo = (n : Int) := ⟨b.lo.toNat, (Int.toNat_of_nonneg ok.lo0).symm⟩
      obtain ⟨hi, ehi⟩ : ∃ n : Nat, b.hi = (n : Int) := ⟨b.hi.toNat, (Int.toNat_of_nonneg (Int.le_trans ok.lo0 ok.lohi)).symm⟩
      have lh := ok.lohi
      have k9 := ok.few
      rw [elo, ehi] at hd
      have nk : (natsL b.ks).length = b.ks.length := by rw [natsL, List.length_map]
      obtain ⟨sb4, _⟩ := short_bound (lo := lo) (hi := hi) (m := b.ks.length) (by omega) (by omega)
      refine ⟨_, rfl, .ref pb, b.u, lo, hi, b.ks, rfl, Dn.same sm _ _ hd, by omega, by omega, by omega, fun a1 H3 t3 na1 c3 => ?_⟩
      have m3 := sm.trans t3
      refine ⟨_, rfl, pb, _, _, _, rfl, rfl, sqT (m3 _ _ hpb), at3, pk, rfl, ⟨_, sqT (m3 _ _ hpk)⟩, ?_⟩
      refine lc_tup (K := K) (a := pk) (xs := natsL b.ks) (fun j zs σ H5 => (∃ v, σ = [v, some (.ref l)]) ∧ H5 = H3 ∧ zs = strsL ((b.ks.take j).map (nameAt ns))) ⟨⟨none, rfl⟩, rfl, rfl⟩ (fun j zs σ H5 hj pv => ?_) (fun j zs σ H5 hj pv => ?_) (fun j x zs σ H5 hxj pv => ?_) (fun zs σ H5 pv a2 ha2 => ?_)
      · obtain ⟨_, _, rfl⟩ := pv
        rw [strsL, List.length_map, List.length_map, List.length_take]
        exact small (by omega)
      · obtain ⟨_, rfl, _⟩ := pv
        exact sqT (m3 _ _ hpk)
      · obtain ⟨⟨v, rfl⟩, rfl, rfl⟩ := pv
        unfold natsL at hxj
        rw [List.getElem?_map] at hxj
        cases ek : b.ks[j]? with
        | none =>
          rw [ek] at hxj
          cases hxj
        | some k =>
          rw [ek] at hxj
          cases hxj
          refine ⟨_, rfl, _, rfl, l, _, _, _, rfl, rfl, SqL.of (m3 _ _ hl), atI_nat (name_get (ok.up k (List.mem_of_getElem? ek)).2), ⟨_, rfl⟩, rfl, ?_⟩
          rw [List.take_succ, ek, List.map_append, strs_app]
          rfl
      · obtain ⟨_, rfl, rfl⟩ := pv
        rw [nk, List.take_length]
        have t4 := t3.trans (same_new ha2 (.lst (strsL (b.ks.map (nameAt ns)))))
        refine ⟨a1, a2, _, _, rfl, rfl, (same_new ha2 _) _ _ c3, upd_same, ?_, fun a3 ha3 => ?_⟩
        · rw [strsL, strsL, List.length_map, List.length_map, List.length_map]
          exact small (by omega)
        rw [← strs_app]
        have t5 := t4.trans (same_new ha3 (.lst (strsL (boundW lo hi b.ks.length ++ b.ks.map (nameAt ns)))))
        have r5 := t5 _ _ r1
        obtain ⟨H5', hH5⟩ : ∃ H5', H5' = upd (upd H5 a2 (.lst (strsL (b.ks.map (nameAt ns))))) a3 (.lst (strsL (boundW lo hi b.ks.length ++ b.ks.map (nameAt ns)))) := ⟨_, rfl⟩
        have c5 : H5' a3 = some (.lst (strsL (boundW lo hi b.ks.length ++ b.ks.map (nameAt ns)))) := by
          rw [hH5]
          exact upd_same
        rw [← hH5] at t5 r5 ⊢
        have m5 := sm.trans t5
        have sbw : ShortL (boughW ns b.u lo hi b.ks) := short_bough n8 (by omega) (by omega) (by omega)
        have sj := short_join sbw
        refine ⟨_, rfl, .inl ⟨rfl, _, SqL.of r5⟩, rfl, _, rfl, _, rfl, pb, _, _, _, rfl, rfl, sqT (m5 _ _ hpb), at0, l, _, _, _, rfl, rfl, SqL.of (m5 _ _ hl), atI_nat (name_get ok.um), w1 _, fun a4 ha4 => ?_⟩
        have t6 := t5.trans (same_new ha4 (.lst [V.str (nameAt ns b.u)]))
        refine ⟨_, rfl, a4, a3, _, _, rfl, rfl, upd_same, (same_new ha4 _) _ _ c5, ?_, fun a5 ha5 => ?_⟩
        · rw [strsL, List.length_map, List.length_append, List.length_map]
          exact small (by show 1 + _ ≤ 1000; omega)
        have t7 := t6.trans (same_new ha5 (.lst ([V.str (nameAt ns b.u)] ++ strsL (boundW lo hi b.ks.length ++ b.ks.map (nameAt ns)))))
        have r7 := t7 _ _ r1
        refine ⟨" ", a5, boughW ns b.u lo hi b.ks, rfl, rfl, SqL.of upd_same, sj.1, kl, _, _, rfl, rfl, r7, ?_, ⟨_, _, _, _, _, rfl⟩, Wd.Same.put (sm.trans t7) hkl r7, ?_⟩
        · rw [strsL, List.length_map, joinedB, linesB, List.length_map, List.length_cons, List.length_map, List.length_take]
          exact Nat.lt_of_le_of_lt (show _ ≤ 21 by omega) (by rw [sizeLine_eq]; decide)
        · rw [upd_same]
          unfold joinedB linesB
          rw [List.take_succ, eb, List.map_append, List.map_cons, List.map_cons, List.map_append, show (Option.toList (some b)).map (fun b : Bg => boughW ns b.u b.lo.toNat b.hi.toNat b.ks) = [boughW ns b.u lo hi b.ks] from by rw [Option.toList_some, List.map_cons, elo, ehi]; rfl, ← List.cons_append, strs_app]
          rfl
  · rintro σ H2 ⟨⟨v3, v4, v5, v6, v7, rfl⟩, sm, hk0⟩
    rw [← lx, List.take_length] at hk0
    have w3 : ∀ x y z : V, ([x, y, z] : List V).length ≤ sizeLine := fun x y z => by rw [sizeLine_eq]; show 3 ≤ _; decide
    have jl : (joinedB ns L).length ≤ 21 := by
      rw [joinedB, linesB, List.length_map, List.length_cons, List.length_map]
      omega
    refine ⟨_, rfl, wd, _, _, _, rfl, rfl, sqT (sm _ _ W.at_), at2, tc, rfl, ⟨ys, sqT (sm _ _ htc)⟩, ?_⟩
    refine for_tup (K := K) (a := tc) (xs := ys) (fun i σ H2 => (∃ v3 v4 v5 v6 v7, σ = [some (.ref l), some (.ref wd), some (.ref kl), v3, v4, v5, v6, v7]) ∧ Same H H2 ∧ H2 kl = some (.lst (strsL (joinedB ns L ++ (C.take i).map fun t => Str.join " " (tieW ns t))))) ⟨⟨_, _, _, _, _, rfl⟩, sm, by rw [List.take_zero, List.map_nil, List.append_nil]; exact hk0⟩ (fun i σ H2 _ z => sqT (z.2.1 _ _ htc)) ?_ ?_
    · rintro i x σ H3 hxi ⟨⟨u3, u4, u5, u6, u7, rfl⟩, sm3, r1⟩
      obtain ⟨e, he, hd⟩ := hy.get hxi
      rw [List.getElem?_map] at he
      cases eb : C[i]? with
      | none =>
        rw [eb] at he
        cases he
      | some c =>
        rw [eb] at he
        cases he
        have mc := List.mem_of_getElem? eb
        have stw := short_join (short_tie n8 (sml c mc))
        have sz : (strsL (joinedB ns L ++ (C.take i).map fun t => Str.join " " (tieW ns t))).length < sizeLine := by
          rw [strsL, List.length_map, List.length_append, List.length_map, List.length_take]
          exact Nat.lt_of_le_of_lt (show _ ≤ 41 by omega) (by rw [sizeLine_eq]; decide)
        cases c with
        | bough u lo hi ks => exact absurd rfl (W.nb _ mc u lo hi ks)
        | needs x y =>
          obtain ⟨p, xs', rfl, hp, hx'⟩ := hd
          obtain ⟨e1, q1, rfl, rfl, e2, q2, rfl, rfl, e3, q3, rfl, rfl, rfl⟩ := hx'
          have smc : x < ns.length ∧ y < ns.length := sml _ mc
          refine ⟨_, rfl, p, _, _, _, rfl, rfl, sqT (sm3 _ _ hp), at0, _, rfl, p, _, _, _, rfl, rfl, sqT (sm3 _ _ hp), at1, (x : Int), rfl, abs_small (by omega), fun H4 s4 => ⟨w3 _ _ _, fun a1 ha1 => ?_⟩⟩
          have m4 := sm3.trans (s4.trans (same_new ha1 (.lst [V.str "needs", V.str (numT x), V.str "of"])))
          have r4 := (s4.trans (same_new ha1 (.lst [V.str "needs", V.str (numT x), V.str "of"]))) _ _ r1
          refine ⟨_, rfl, p, _, _, _, rfl, rfl, sqT (m4 _ _ hp), at0, rfl, _, rfl, iteBN (by decide +kernel) ?_⟩
          refine ⟨_, rfl, _, rfl, p, _, _, _, rfl, rfl, sqT (m4 _ _ hp), at1, l, _, _, _, rfl, rfl, SqL.of (m4 _ _ hl), atI_nat (name_get smc.1), _, rfl, p, _, _, _, rfl, rfl, sqT (m4 _ _ hp), at0, _, rfl, _, rfl, p, _, _, _, rfl, rfl, sqT (m4 _ _ hp), at2, l, _, _, _, rfl, rfl, SqL.of (m4 _ _ hl), atI_nat (name_get smc.2), w3 _ _ _, fun a2 ha2 => ?_⟩
          have m5 := m4.trans (same_new ha2 (.lst (strsL (tieW ns (.needs x y)))))
          have r5 := (same_new ha2 (.lst (strsL (tieW ns (.needs x y))))) _ _ r4
          refine ⟨_, rfl, .inl ⟨rfl, _, SqL.of r5⟩, rfl, _, rfl, " ", a2, tieW ns (.needs x y), rfl, rfl, SqL.of upd_same, stw.1, kl, _, _, rfl, rfl, r5, sz, ⟨_, _, _, _, _, rfl⟩, Wd.Same.put m5 hkl r5, ?_⟩
          rw [upd_same, List.take_succ, eb, List.map_append, ← List.append_assoc, strs_app (joinedB ns L ++ List.map _ (C.take i)) _]
          rfl
        | bans x y =>
          obtain ⟨p, xs', rfl, hp, hx'⟩ := hd
          obtain ⟨e1, q1, rfl, rfl, e2, q2, rfl, rfl, e3, q3, rfl, rfl, rfl⟩ := hx'
          have smc : x < ns.length ∧ y < ns.length := sml _ mc
          refine ⟨_, rfl, p, _, _, _, rfl, rfl, sqT (sm3 _ _ hp), at0, _, rfl, p, _, _, _, rfl, rfl, sqT (sm3 _ _ hp), at1, (x : Int), rfl, abs_small (by omega), fun H4 s4 => ⟨w3 _ _ _, fun a1 ha1 => ?_⟩⟩
          have m4 := sm3.trans (s4.trans (same_new ha1 (.lst [V.str "bans", V.str (numT x), V.str "of"])))
          have r4 := (s4.trans (same_new ha1 (.lst [V.str "bans", V.str (numT x), V.str "of"]))) _ _ r1
          refine ⟨_, rfl, p, _, _, _, rfl, rfl, sqT (m4 _ _ hp), at0, rfl, _, rfl, iteBN (by decide +kernel) ?_⟩
          refine ⟨_, rfl, _, rfl, p, _, _, _, rfl, rfl, sqT (m4 _ _ hp), at1, l, _, _, _, rfl, rfl, SqL.of (m4 _ _ hl), atI_nat (name_get smc.1), _, rfl, p, _, _, _, rfl, rfl, sqT (m4 _ _ hp), at0, _, rfl, _, rfl, p, _, _, _, rfl, rfl, sqT (m4 _ _ hp), at2, l, _, _, _, rfl, rfl, SqL.of (m4 _ _ hl), atI_nat (name_get smc.2), w3 _ _ _, fun a2 ha2 => ?_⟩
          have m5 := m4.trans (same_new ha2 (.lst (strsL (tieW ns (.bans x y)))))
          have r5 := (same_new ha2 (.lst (strsL (tieW ns (.bans x y))))) _ _ r4
          refine ⟨_, rfl, .inl ⟨rfl, _, SqL.of r5⟩, rfl, _, rfl, " ", a2, tieW ns (.bans x y), rfl, rfl, SqL.of upd_same, stw.1, kl, _, _, rfl, rfl, r5, sz, ⟨_, _, _, _, _, rfl⟩, Wd.Same.put m5 hkl r5, ?_⟩
          rw [upd_same, List.take_succ, eb, List.map_append, ← List.append_assoc, strs_app (joinedB ns L ++ List.map _ (C.take i)) _]
          rfl
        | most top ps =>
          obtain ⟨p, xs', rfl, hp, hx'⟩ := hd
          obtain ⟨e1, q1, rfl, rfl, e2, q2, rfl, rfl, e3, q3, rfl, ⟨pt, zs, rfl, hpt, hz⟩, rfl⟩ := hx'
          obtain ⟨t60, l9, each⟩ : top.natAbs < 10 ^ 60 ∧ ps.length ≤ 9 ∧ ∀ p ∈ ps, p.1 < ns.length ∧ p.2.natAbs < 10 ^ 60 := sml _ mc
          refine ⟨_, rfl, p, _, _, _, rfl, rfl, sqT (sm3 _ _ hp), at0, _, rfl, p, _, _, _, rfl, rfl, sqT (sm3 _ _ hp), at1, top, rfl, t60, fun H4 s4 => ⟨w3 _ _ _, fun a1 ha1 => ?_⟩⟩
          have m4 := sm3.trans (s4.trans (same_new ha1 (.lst (strsL ["most", numT top, "of"]))))
          have r4 := (s4.trans (same_new ha1 (.lst (strsL ["most", numT top, "of"])))) _ _ r1
          refine ⟨_, rfl, p, _, _, _, rfl, rfl, sqT (m4 _ _ hp), at0, rfl, _, rfl, iteB (decide_eq_true rfl) ?_⟩
          refine ⟨_, rfl, p, _, _, _, rfl, rfl, sqT (m4 _ _ hp), at2, pt, rfl, ⟨zs, sqT (m4 _ _ hpt)⟩, ?_⟩
          refine for_tup (K := K) (a := pt) (xs := zs) (fun j σ H6 => (∃ aw g6 g7, σ = [some (.ref l), some (.ref wd), some (.ref kl), u3, some (.ref aw), some (.ref p), g6, g7] ∧ H6 aw = some (.lst (strsL ((["most", numT top, "of"] : List Str) ++ (ps.take j).flatMap fun p => [numT p.2, nameAt ns p.1])))) ∧ Same H H6 ∧ H6 kl = some (.lst (strsL (joinedB ns L ++ (C.take i).map fun t => Str.join " " (tieW ns t))))) ⟨⟨a1, u6, u7, rfl, by rw [List.take_zero, List.flatMap_nil, List.append_nil]; exact upd_same⟩, m4, r4⟩ (fun j σ H6 _ z => sqT (z.2.1 _ _ hpt)) ?_ ?_
          · rintro j x σ H6 hxj ⟨⟨aw, g6, g7, rfl, haw⟩, m6, r6⟩
            obtain ⟨e, he, hd⟩ := hz.get hxj
            rw [List.getElem?_map] at he
            cases ep : ps[j]? with
            | none =>
              rw [ep] at he
              cases he
            | some pr =>
              rw [ep] at he
              cases he
              obtain ⟨pp, zz, rfl, hpp, f1, g1, rfl, rfl, f2, g2, rfl, rfl, rfl⟩ := hd
              obtain ⟨k1, k2⟩ := each pr (List.mem_of_getElem? ep)
              refine ⟨pp, _, rfl, sqT (m6 _ _ hpp), rfl, _, _, rfl, _, _, rfl, rfl, ?_⟩
              refine ⟨_, rfl, _, rfl, pr.2, rfl, k2, fun H7 s7 => ⟨_, rfl, _, rfl, l, _, _, _, rfl, rfl, SqL.of ((m6.trans s7) _ _ hl), atI_nat (name_get k1), w2 _ _, fun b hb => ?_⟩⟩
              have t8 := s7.trans (same_new hb (.lst (strsL [numT pr.2, nameAt ns pr.1])))
              refine ⟨aw, b, _, _, rfl, rfl, t8 _ _ haw, upd_same, ?_, fun aw' haw' => ?_⟩
              · have f2 : ((ps.take j).flatMap fun p => [numT p.2, nameAt ns p.1]).length ≤ 2 * 9 := flat2_len _ (by rw [List.length_take]; omega)
                rw [strsL, List.length_map, List.length_append]
                exact small (by show 3 + _ + 2 ≤ 1000; omega)
              have t9 := t8.trans (same_new haw' (.lst (strsL ((["most", numT top, "of"] : List Str) ++ (ps.take j).flatMap fun p => [numT p.2, nameAt ns p.1]) ++ [V.str (numT pr.2), V.str (nameAt ns pr.1)])))
              refine ⟨⟨aw', _, _, rfl, ?_⟩, m6.trans t9, t9 _ _ r6⟩
              rw [upd_same, flatMap_take ep, ← List.append_assoc, strs_app _ [numT pr.2, nameAt ns pr.1]]
              rfl
          · rintro σ H6 ⟨⟨aw, g6, g7, rfl, haw⟩, m6, r6⟩
            rw [← hz.length, List.length_map, List.take_length] at haw
            refine ⟨_, rfl, .inl ⟨rfl, _, SqL.of r6⟩, rfl, _, rfl, " ", aw, tieW ns (.most top ps), rfl, rfl, SqL.of haw, stw.1, kl, _, _, rfl, rfl, r6, sz, ⟨_, _, _, _, _, rfl⟩, Wd.Same.put m6 hkl r6, ?_⟩
            rw [upd_same, List.take_succ, eb, List.map_append, ← List.append_assoc, strs_app (joinedB ns L ++ List.map _ (C.take i)) _]
            rfl
    · rintro σ H3 ⟨⟨u3, u4, u5, u6, u7, rfl⟩, sm3, r1⟩
      rw [← ly, List.take_length] at r1
      have et : joinedB ns L ++ C.map (fun t => Str.join " " (tieW ns t)) = (linesOf ns L C).map (Str.join " ") := by
        unfold joinedB linesOf
        rw [List.map_append, List.map_map]
        rfl
      rw [et] at r1
      have ll : (linesOf ns L C).length ≤ 41 := by
        rw [linesOf, linesB, List.length_append, List.length_cons, List.length_map, List.length_map]
        omega
      have hs := sum_len (b := 2000) (ws := (linesOf ns L C).map (Str.join " ")) fun z hz => by
        obtain ⟨ws, hw, rfl⟩ := List.mem_map.mp hz
        refine (short_join ?_).2
        rcases List.mem_append.mp hw with y | y
        · rcases List.mem_cons.mp y with y | y
          · rw [y]
            exact short_ware m9 n8
          · obtain ⟨b, hb, rfl⟩ := List.mem_map.mp y
            have ok := W.okb b hb
            have k9 := ok.few
            have := hhi b hb
            have := ok.lohi
            exact short_bough n8 (by omega) (by omega) (by omega)
        · obtain ⟨c, hc, rfl⟩ := List.mem_map.mp y
          exact short_tie n8 (sml c hc)
      rw [List.length_map] at hs
      refine ⟨rfl, _, rfl, "\n", kl, _, rfl, rfl, SqL.of r1, ?_, q _ sm3⟩
      rw [List.length_map, show (("\n") : Str).length = 1 from rfl]
      omega

end
section
variable {P : Program} {w : World} {K : PySem.W.Frag} {mg : Str → Option Value} {base : Heap} {a : Adr} {d : Fds}
theorem kind_step (T : Txt K mg a d) (f : Nat) (G_law_kind : FnOk P w K mg base CX0 (f + 1) a.f_law_kind d.f_law_kind ["_law_found", "_law_due"] (spKind f)) : FnOk P w K mg base CX0 (f + 2) a.f_law_kind d.f_law_kind ["_law_found", "_law_due"] (spKind (f + 1)) := by
  refine T.K_law_kind.ok sc_law_kind (fun vs H Q E h => ?_) (fun cdv A outer s H vs Q E hr h => ?_)
  · obtain ⟨d, x, y, rfl, _⟩ := h
    rfl
  obtain ⟨dt, x, y, rfl, dx, dy, nst, q⟩ := h
  have p62 : (2 : Int) ^ 62 = 4611686018427387904 := by decide
  refine ⟨_, (pss_cons (ps_if (pt_val (pe_callB (isiK (K := K)) rfl T.m_isinstance PyProof.Rows.boot_isinstance (pa_cons (pv 1) (pa_cons (pe_bltn (v := .ty "tuple") rfl T.m_tuple PyProof.Rows.boot_tuple rfl) pa_nil)))) (pss_cons (ps_if (PW.pt (pw_or (pt_not (pt_val (pe_callB (isiK (K := K)) rfl T.m_isinstance PyProof.Rows.boot_isinstance (pa_cons (pv 0) (pa_cons (pe_bltn (v := .ty "tuple") rfl T.m_tuple PyProof.Rows.boot_tuple rfl) pa_nil))))) (pw_or1 (pt_cmpR op_ne (pe_callB (lenS (K := K)) rfl T.m_len PySem.boot_len (pa_cons (pv 0) pa_nil)) (pe_callB (lenS (K := K)) rfl T.m_len PySem.boot_len (pa_cons (pv 1) pa_nil)) (nomark _))))) (pss_one (ps_ret pe_bl)) pss_nil)
      (pss_one (ps_ret (pe_callB (call_all_bl rfl) rfl T.m_all PyProof.Rows.boot_all (pa_cons (pe_lc (sc0 := defScope s_law_kind) (XN := ["_law_found", "_law_due"]) (N' := ["_law_k", "_law_found", "_law_due"]) (n := 1) (kp := [0, 1]) rfl (pi_range1 rfl T.m_range (pa_cons (pe_callB (lenS (K := K)) rfl T.m_len PySem.boot_len (pa_cons (pv 1) pa_nil)) pa_nil)) rfl rfl (by decide +kernel) (fun _ _ _ _ _ => (pg_name (i := 0) (by show List.Nodup (["_law_k", "_law_found", "_law_due"] : List Str); decide +kernel) rfl (Or.inl rfl))) (fun _ _ _ _ _ => pts_nil) (fun _ _ _ _ _ => (pe_callD G_law_kind hr.lv rfl T.K_law_kind (pa_cons (pe_ix (ixT (K := K)) (pv 1) (pv 0) (fun _ _ => rfl)) (pa_cons (pe_ix (ixT (K := K)) (pv 2) (pv 0) (fun _ _ => rfl)) pa_nil))))) pa_nil))))) pss_nil)
      (pss_cons (ps_if (pt_val (pe_callB (isiK (K := K)) rfl T.m_isinstance PyProof.Rows.boot_isinstance (pa_cons (pv 1) (pa_cons (pe_bltn (v := .ty "str") rfl T.m_str PyProof.Rows.boot_str rfl) pa_nil)))) (pss_one (ps_ret (pe_and (pe_callB (isiK (K := K)) rfl T.m_isinstance PyProof.Rows.boot_isinstance (pa_cons (pv 0) (pa_cons (pe_bltn (v := .ty "str") rfl T.m_str PyProof.Rows.boot_str rfl) pa_nil))) (pe_one (pe_cmpR op_eq (pv 0) (pv 1) (nomark _)))))) pss_nil)
      (pss_one (ps_ret (pe_and (pe_callB (isiK (K := K)) rfl T.m_isinstance PyProof.Rows.boot_isinstance (pa_cons (pv 0) (pa_cons (pe_bltn (v := .ty "int") rfl T.m_int PyProof.Rows.boot_int rfl) pa_nil))) (pe_and (pe_not (pe_callB (isiK (K := K)) rfl T.m_isinstance PyProof.Rows.boot_isinstance (pa_cons (pv 0) (pa_cons (pe_bltn (v := .ty "bool") rfl T.m_bool PyProof.Rows.boot_bool rfl) pa_nil)))) (pe_one (pe_cmpR op_eq (pv 0) (pv 1) (nomark _))))))))), ?_⟩
  cases dt with
  | int n =>
    cases dx
    cases dy
    refine ⟨_, rfl, _, _, _, _, rfl, .int _, isi_int_tuple, _, rfl, iteF ?_⟩
    refine ⟨_, rfl, _, _, _, _, rfl, .int _, isi_int_str, _, rfl, iteF ?_⟩
    refine ⟨_, rfl, _, _, _, _, rfl, .int _, isi_int_int, _, rfl, iteT ⟨_, rfl, _, _, _, _, rfl, .int _, isi_int_bool, _, rfl, _, rfl, iteT ⟨_, rfl, _, rfl, rfl, ?_⟩⟩⟩
    rw [decide_eq_true rfl]
    exact q H (Same.refl _)
  | str z => 
    cases dx
    cases dy
    refine ⟨_, rfl, _, _, _, _, rfl, .str _, isi_str_tuple, _, rfl, iteF ?_⟩
    refine ⟨_, rfl, _, _, _, _, rfl, .str _, isi_str_str, _, rfl, iteT ?_⟩
    refine ⟨_, rfl, _, _, _, _, rfl, .str _, isi_str_str, _, rfl, iteT ⟨_, rfl, _, rfl, rfl, ?_⟩⟩
    rw [decide_eq_true rfl]
    exact q H (Same.refl _)
  | tuple ds =>
    obtain ⟨pa, xs, rfl, ha, da⟩ := dx
    obtain ⟨pb, ys, rfl, hb, db⟩ := dy
    obtain ⟨nl, each⟩ := nst
    have lx := da.length
    have ly := db.length
    refine ⟨_, rfl, _, _, _, _, rfl, .tup hb, isi_tuple_tuple, _, rfl, iteT ?_⟩
    refine ⟨_, rfl, _, _, _, _, rfl, .tup ha, isi_tuple_tuple, _, rfl, iteF ?_⟩
    refine ⟨_, rfl, pa, _, rfl, .inr (sqT ha), _, rfl, pb, _, rfl, .inr (sqT hb), rfl, _, rfl, ?_⟩
    rw [← lx, ← ly, decide_eq_true rfl]
    refine iteF ?_
    refine ⟨_, rfl, pb, _, rfl, .inr (sqT hb), _, rfl, by rw [p62]; omega, by rw [p62]; omega, ?_⟩
    rw [Int.toNat_natCast, ← ly]
    refine lc_range0 (k := ds.length) (fun i zs σ H2 => (∃ v, σ = [v, some (.ref pa), some (.ref pb)]) ∧ Same H H2 ∧ zs = (List.replicate i true).map V.bl) ⟨⟨none, rfl⟩, Same.refl _, rfl⟩ (fun i zs σ H2 hi pv => ?_) (fun i zs σ H2 hi pv => ?_) (fun zs σ H2 pv cl hcl => ?_)
    · obtain ⟨_, _, rfl⟩ := pv
      rw [List.length_map, List.length_replicate]
      exact small (by omega)
    · obtain ⟨⟨v, rfl⟩, sm, rfl⟩ := pv
      have ex : xs[i]? = some xs[i] := List.getElem?_eq_getElem (by omega)
      have ey : ys[i]? = some ys[i] := List.getElem?_eq_getElem (by omega)
      obtain ⟨e1, f1, d1⟩ := da.get ex
      obtain ⟨e2, f2, d2⟩ := db.get ey
      rw [f1] at f2
      cases f2
      refine ⟨_, rfl, _, rfl, pa, _, _, _, rfl, rfl, sqT (sm _ _ ha), atI_nat ex, _, rfl, _, rfl, pb, _, _, _, rfl, rfl, sqT (sm _ _ hb), atI_nat ey, e1, _, _, rfl, Dn.same sm _ _ d1, Dn.same sm _ _ d2, each e1 (List.mem_of_getElem? f1), fun H3 s3 => ⟨⟨_, rfl⟩, sm.trans s3, ?_⟩⟩
      rw [List.replicate_succ', List.map_append]
      rfl
    · obtain ⟨_, sm, rfl⟩ := pv
      refine ⟨cl, List.replicate ds.length true, rfl, SqL.of upd_same, ?_⟩
      rw [show (List.replicate ds.length true).all id = true from by
        rw [List.all_eq_true]
        intro b hb
        exact (List.mem_replicate.mp hb).2]
      exact q _ (sm.trans (same_new hcl _))
  | _ => exact nst.elim
theorem ok_law_kind (T : Txt K mg a d) : ∀ f : Nat, FnOk P w K mg base CX0 (f + 1) a.f_law_kind d.f_law_kind ["_law_found", "_law_due"] (spKind f)
  | 0 => ⟨fun _ _ _ _ h => by obtain ⟨_, _, _, _, _, _, z, _⟩ := h; exact z.elim, fun _ _ _ _ _ _ _ _ _ _ _ _ _ h => by obtain ⟨_, _, _, _, _, _, z, _⟩ := h; exact z.elim⟩
  | f + 1 => kind_step T f (ok_law_kind T f)

end
section
variable {P : Program} {w : World} {K : PySem.W.Frag} {mg : Str → Option Value} {base : Heap} {a : Adr} {d : Fds}
theorem ok_law_right (T : Txt K mg a d) : FnOk P w K mg base CX0 9 a.f_law_right d.f_law_right ["_law_text", "_law_names_here", "_law_wood_here"] spRight := by
  have G_read := ok_read (P := P) (w := w) (base := base) T
  have G_law_kind := ok_law_kind (P := P) (w := w) (base := base) T 6
  have G_shown := ok_shown (P := P) (w := w) (base := base) T
  refine T.K_law_right.ok sc_law_right (fun vs H Q E h => ?_) (fun cdv A outer s H vs Q E hr h => ?_)
  · obtain ⟨ln, wd, tb, tc, ns, L, C, rfl, _⟩ := h
    rfl
  obtain ⟨ln, wd, tb, tc, ns, L, C, rfl, LN, hln, W, q⟩ := h
  have n9 := LN.nm.few
  have pl := names_plainL LN.nm
  refine ⟨_, (pss_cons (ps_set (i := 3) sc_law_right.nd rfl (Or.inl rfl) (pe_callD G_read hr.lv rfl T.K_read (pa_cons (pv 0) pa_nil)))
      (pss_cons (ps_if (PW.pt (pw_or (pt_not (pt_val (pe_callB (isiK (K := K)) rfl T.m_isinstance PyProof.Rows.boot_isinstance (pa_cons (pv 3) (pa_cons (pe_bltn (v := .ty "tuple") rfl T.m_tuple PyProof.Rows.boot_tuple rfl) pa_nil))))) (pw_or (pt_cmpR op_ne (pe_callB (lenS (K := K)) rfl T.m_len PySem.boot_len (pa_cons (pv 3) pa_nil)) pe_int (nomark _)) (pw_or1 (pt_not (pt_val (pe_callB (isiK (K := K)) rfl T.m_isinstance PyProof.Rows.boot_isinstance (pa_cons (pe_ix (ixT (K := K)) (pv 3) pe_int (fun _ _ => rfl)) (pa_cons (pe_bltn (v := .ty "list") rfl T.m_list PyProof.Rows.boot_list rfl) pa_nil))))))))) (pss_one (ps_ret pe_bl)) pss_nil)
      (pss_cons (ps_if (PW.pt (pw_or (pt_cmpR (op_ne_strs hr.units) (pe_ix (ixT (K := K)) (pv 3) pe_int (fun _ _ => rfl)) (pv 1) (nomark _)) (pw_or1 (pt_not (pt_val (pe_callD G_law_kind hr.lv rfl T.K_law_kind (pa_cons (pe_ix (ixT (K := K)) (pv 3) pe_int (fun _ _ => rfl)) (pa_cons (pv 2) pa_nil)))))))) (pss_one (ps_ret pe_bl)) pss_nil)
      (pss_cons (ps_set (i := 4) sc_law_right.nd rfl (Or.inl rfl) (pe_callD G_shown hr.lv rfl T.K_shown (pa_cons (pe_ix (ixT (K := K)) (pv 3) pe_int (fun _ _ => rfl)) (pa_cons (pe_ix (ixT (K := K)) (pv 3) pe_int (fun _ _ => rfl)) pa_nil))))
      (pss_cons (ps_expr (pe_bmK (K := K) PySem.F.plainAttrs_list PySem.F.slot_list_append PySem.F.type_list_append mt_append (pe_ix (ixT (K := K)) (pv 3) pe_int (fun _ _ => rfl)) (pa_cons pe_str pa_nil)))
      (pss_one (ps_ret (pe_cmpR op_eq (pv 4) (pv 0) (nomark _))))))))), ?_⟩
  refine ⟨_, rfl, ns, L, C, rfl, LN, fun p pn wd' tb' tc' H1 s1 fpn hp hpn W1 => ?_⟩
  refine ⟨_, rfl, _, _, _, _, rfl, .tup hp, isi_tuple_tuple, _, rfl, iteF ?_⟩
  refine ⟨_, rfl, p, _, rfl, .inr (sqT hp), rfl, _, rfl, iteF ?_⟩
  refine ⟨_, rfl, p, _, _, _, rfl, rfl, sqT hp, at0, _, _, _, _, rfl, .lst hpn, isi_list_list, _, rfl, iteF ?_⟩
  refine ⟨_, rfl, p, _, _, _, rfl, rfl, sqT hp, at0, _, rfl, pn, ln, ns, ns, rfl, rfl, hpn, s1 _ _ hln, pl, pl, _, rfl, ?_⟩
  rw [decide_eq_true rfl]
  refine iteF ?_
  refine ⟨_, rfl, p, _, _, _, rfl, rfl, sqT hp, at1, _, rfl, woodDt ns.length L C, _, _, rfl, W1.dn, Dn.same s1 _ _ W.dn, nest_wood W, fun H2 s2 => ⟨_, rfl, iteF ?_⟩⟩
  have hp2 := s2 _ _ hp
  have hpn2 := s2 _ _ hpn
  refine ⟨_, rfl, p, _, _, _, rfl, rfl, sqT hp2, at0, _, rfl, p, _, _, _, rfl, rfl, sqT hp2, at1, pn, wd', tb', tc', ns, L, C, rfl, hpn2, W1.same s2, fun b hb => ?_, LN.n8, LN.sm, fun H3 s3 => ?_⟩
  · have := (LN.okb b hb).hik
    have := (LN.okb b hb).few
    omega
  have hp3 := s3 _ _ hp2
  have hpn3 := s3 _ _ hpn2
  have el : (strsL ns).length = ns.length := by rw [strsL, List.length_map]
  refine ⟨_, rfl, p, _, _, _, rfl, rfl, sqT hp3, at0, .inl ⟨rfl, _, SqL.of hpn3⟩, pn, strsL ns, _, rfl, rfl, hpn3, Nat.lt_of_le_of_lt (show (strsL ns).length ≤ 9 by omega) (by rw [sizeLine_eq]; decide), ?_⟩
  refine ⟨_, rfl, _, rfl, rfl, ?_⟩
  rw [decide_eq_true rfl]
  exact q _ (Wd.Same.put (s1.trans (s2.trans s3)) fpn hpn3)

end
section
variable {P : Program} {w : World} {K : PySem.W.Frag} {mg : Str → Option Value} {base : Heap} {a : Adr} {d : Fds}
theorem ok_law (T : Txt K mg a d) : FnOk P w K mg base CX0 12 a.f_law d.f_law ["_law_script"] (spLaw K) := by
  have G_law_take := ok_law_take (P := P) (w := w) (base := base) T
  have G_law_wood := ok_law_wood (P := P) (w := w) (base := base) T
  have G_law_names := ok_law_names (P := P) (w := w) (base := base) T
  have G_law_lines := ok_law_lines (P := P) (w := w) (base := base) T
  have G_shown := ok_shown (P := P) (w := w) (base := base) T
  have G_law_has := ok_law_has (P := P) (w := w) (base := base) T
  have G_show_set := ok_show_set (P := P) (w := w) (base := base) T
  have G_law_right := ok_law_right (P := P) (w := w) (base := base) T
  refine T.K_law.ok sc_law (fun vs H Q E h => ?_) (fun cdv A outer s H vs Q E hr h => ?_)
  · obtain ⟨p, ns, rfl, _⟩ := h
    rfl
  obtain ⟨sp, ns, rfl, hS, hl, q⟩ := h
  have p62 : (2 : Int) ^ 62 = 4611686018427387904 := by decide
  refine ⟨_, (pss_cons (ps_set (i := 1) sc_law.nd rfl (Or.inl rfl) (pe_lst (pa_cons (pv 0) (pa_cons pe_int pa_nil))))
      (pss_cons (ps_set (i := 2) sc_law.nd rfl (Or.inl rfl) (pe_callD G_law_wood hr.lv rfl T.K_law_wood (pa_cons (pv 1) pa_nil)))
      (pss_cons (ps_set (i := 3) sc_law.nd rfl (Or.inr rfl) (pe_callD G_law_names hr.lv rfl T.K_law_names (pa_cons (pv 1) (pa_cons (pe_ix (ixT (K := K)) (pv 2) pe_int (fun _ _ => rfl)) pa_nil))))
      (pss_cons (ps_set (i := 4) sc_law.nd rfl (Or.inl rfl) (pe_callTy call_list_of rfl T.m_list PyProof.Rows.boot_list (pa_cons (pv 3) pa_nil)))
      (pss_cons (ps_set (i := 5) sc_law.nd rfl (Or.inl rfl) (pe_callD G_law_lines hr.lv rfl T.K_law_lines (pa_cons (pv 3) (pa_cons (pv 2) pa_nil))))
      (pss_cons (ps_set (i := 6) sc_law.nd rfl (Or.inl rfl) (pe_callD G_shown hr.lv rfl T.K_shown (pa_cons (pv 4) (pa_cons (pv 2) pa_nil))))
      (pss_cons (ps_if (PW.pt (pw_or (pt_not (pt_val (pe_callB (isiK (K := K)) rfl T.m_isinstance PyProof.Rows.boot_isinstance (pa_cons (pv 6) (pa_cons (pe_bltn (v := .ty "str") rfl T.m_str PyProof.Rows.boot_str rfl) pa_nil))))) (pw_or (pt_cmpR op_ne (pv 6) (pv 5) (nomark _)) (pw_or1 (pt_cmpR (op_ne_strs hr.units) (pv 4) (pv 3) (nomark _)))))) (pss_one (ps_ret pe_bl)) pss_nil)
      (pss_cons (ps_for PassesOwn.never rfl (piL (K := K) (pe_lst (pa_cons pe_int (pa_cons pe_int (pa_cons (pe_op op_sub (pe_op op_shl pe_int (pe_ix (ixT (K := K)) (pv 2) pe_int (fun _ _ => rfl))) pe_int) (pa_cons (pe_callD G_law_take hr.lv rfl T.K_law_take (pa_cons (pv 1) (pa_cons (pe_op op_shl pe_int (pe_ix (ixT (K := K)) (pv 2) pe_int (fun _ _ => rfl))) pa_nil))) pa_nil)))))) (pg_name (i := 7) sc_law.nd rfl (Or.inr rfl)) (pss_cons (ps_setLc (i := 8) sc_law.nd rfl rfl rfl (sc0 := defScope s_law) (XN := ["_law_script", "_law_state", "_law_wood_here", "_law_names_here", "_law_handed", "_law_text", "_law_found", "_law_some", "_law_words", "_law_again"]) (N' := ["_law_k", "_law_names_here", "_law_some"]) (n := 1) (kp := [3, 7]) rfl (pi_range1 rfl T.m_range (pa_cons (pe_ix (ixT (K := K)) (pv 2) pe_int (fun _ _ => rfl)) pa_nil)) rfl rfl (by decide +kernel) (fun _ _ _ _ _ => (pg_name (i := 0) (by show List.Nodup (["_law_k", "_law_names_here", "_law_some"] : List Str); decide +kernel) rfl (Or.inl rfl))) (fun _ _ _ _ _ => (pts_one (pt_val (pe_callD G_law_has hr.lv rfl T.K_law_has (pa_cons (pv 2) (pa_cons (pv 0) pa_nil)))))) (fun _ _ _ _ _ => (pe_ix (ixL (K := K)) (pv 1) (pv 0) (fun _ _ => rfl))))
      (pss_one (ps_if (pt_cmpR op_ne (pe_callD G_show_set hr.lv rfl T.K_show_set (pa_cons (pv 4) (pa_cons (pv 7) pa_nil))) (pe_bmK (K := K) PySem.F.plainAttrs_str PySem.F.slot_str_join PySem.F.type_str_join (mt_joinK (K := K)) pe_str (pa_cons (pv 8) pa_nil)) (nomark _)) (pss_one (ps_ret pe_bl)) pss_nil))))
      (pss_cons (ps_for PassesOwn.never rfl (pi_range1 rfl T.m_range (pa_cons pe_int pa_nil)) (pg_name (i := 9) sc_law.nd rfl (Or.inl rfl)) (pss_one (ps_if (pt_not (pt_val (pe_callD G_law_right hr.lv rfl T.K_law_right (pa_cons (pv 5) (pa_cons (pv 3) (pa_cons (pv 2) pa_nil)))))) (pss_one (ps_ret pe_bl)) pss_nil)))
      (pss_one (ps_ret (pe_cmpR (op_eq_strs hr.units) (pv 4) (pv 3) (nomark _))))))))))))), ?_⟩
  refine ⟨_, rfl, small (by show 2 ≤ 1000; decide), fun pen hpen => ?_⟩
  have pn := pen_new hS hl hpen
  generalize L2.upd H pen (.lst [.ref sp, .int 0]) = H1 at pn ⊢
  refine ⟨_, rfl, pen, sp, ns, 0, rfl, pn, by decide, by decide, fun wd m bs cs k2 H2 x2 hp2 k20 k21 m1 m9 W2 c8 sd => ?_⟩
  obtain ⟨xs0, ys0, ⟨tb0, tc0, hwd2, _, _⟩, _, _⟩ := W2.ex
  refine ⟨_, rfl, _, rfl, wd, _, _, _, rfl, rfl, sqT hwd2, at0, pen, sp, ns, m, k2, rfl, pn.to x2 hp2, by omega, by omega, m1, m9, fun ln nm k3 H3 x3 hp3 k30 k31 fln hln N lnm => ?_⟩
  subst lnm
  have W3 := W2.tupS (SameX.tup hp2 x3)
  obtain ⟨tb, tc, L, C, W, LN⟩ := lined_of W3 c8 sd N
  have n9 := N.few
  have pl := names_plainL N
  refine ⟨_, rfl, ln, _, rfl, .inl (SqL.of hln), fun lh hlh => ?_⟩
  have s4' := same_new hlh (.lst (strsL nm))
  have hlh4 : (L2.upd H3 lh (.lst (strsL nm))) lh = some (.lst (strsL nm)) := upd_same
  have hln4 := s4' _ _ hln
  have hp4 := s4' _ _ hp3
  have W4 := W.same s4'
  have x4 := (x2.trans x3).trans (Same.x (pen := pen) s4')
  generalize L2.upd H3 lh (.lst (strsL nm)) = H4 at s4' hlh4 hln4 hp4 W4 x4 ⊢
  refine ⟨_, rfl, _, rfl, ln, wd, tb, tc, nm, L, C, rfl, hln4, W4, fun b hb => (LN.okb b hb).hik, LN.n8, LN.sm, fun H5 s5 => ?_⟩
  refine ⟨_, rfl, _, rfl, lh, wd, tb, tc, nm, L, C, rfl, s5 _ _ hlh4, W4.same s5, fun b hb => ?_, LN.n8, LN.sm, fun H6 s6 => ?_⟩
  · have := (LN.okb b hb).hik
    have := (LN.okb b hb).few
    omega
  have s46 := s5.trans s6
  refine ⟨_, rfl, _, _, _, _, rfl, .str _, isi_str_str, _, rfl, iteF ?_⟩
  refine ⟨_, rfl, _, rfl, rfl, _, rfl, ?_⟩
  rw [decide_eq_true rfl]
  refine iteF ?_
  refine ⟨_, rfl, _, rfl, lh, ln, nm, nm, rfl, rfl, s46 _ _ hlh4, s46 _ _ hln4, pl, pl, _, rfl, ?_⟩
  rw [decide_eq_true rfl]
  refine iteF ?_
  have hp6 := s46 _ _ hp4
  have hlh6 := s46 _ _ hlh4
  have hln6 := s46 _ _ hln4
  have W6 := W4.same s46
  have x6 := x4.trans (Same.x (pen := pen) s46)
  clear s46 s5 s6 hp4 hlh4 hln4 W4 x4 W3 W
  have nlp : ln ≠ pen := fun z => by rw [z, hp2] at fln; cases fln
  have npl : lh ≠ pen := fun z => by rw [z, hp3] at hlh; cases hlh
  have e2 : (1 : Int) * 2 ^ ((nm.length : Nat) : Int).toNat = ((2 ^ nm.length : Nat) : Int) := by
    rw [Int.one_mul, Int.toNat_natCast]
    exact (Int.natCast_pow 2 nm.length).symm
  have pw : 2 ^ nm.length ≤ 2 ^ 9 := Nat.pow_le_pow_right (by decide) n9
  have pw1 : 2 ^ 1 ≤ 2 ^ nm.length := Nat.pow_le_pow_right (by decide) m1
  have q9 : (2 : Nat) ^ 9 = 512 := by decide
  have q1 : (2 : Nat) ^ 1 = 2 := by decide
  have pos : (0 : Int) < 1 * 2 ^ ((nm.length : Nat) : Int).toNat := by rw [e2]; omega
  have cp : CPow 1 ((nm.length : Nat) : Int) := ⟨by omega, by omega, by decide⟩
  refine ⟨_, rfl, wd, _, _, _, rfl, rfl, sqT W6.at_, at0, _, _, rfl, rfl, cp, _, _, rfl, rfl, _, rfl, _, rfl, wd, _, _, _, rfl, rfl, sqT W6.at_, at0, _, _, rfl, rfl, cp, pen, sp, ns, _, k3, rfl, pn.to x6 hp6, by omega, by omega, pos, fun c c0 c1 => ?_⟩
  rw [e2] at c1
  have x7' := sameX_pen (pen := pen) (H := H6) (.lst [.ref sp, .int (k3 + 1)])
  have W7 := W6.tupS (SameX.tup hp6 x7')
  have hlh7 : (L2.upd H6 pen (.lst [.ref sp, .int (k3 + 1)])) lh = some (.lst (strsL nm)) := by
    rw [upd_ne npl]
    exact hlh6
  have hln7 : (L2.upd H6 pen (.lst [.ref sp, .int (k3 + 1)])) ln = some (.lst (strsL nm)) := by
    rw [upd_ne nlp]
    exact hln6
  generalize L2.upd H6 pen (.lst [.ref sp, .int (k3 + 1)]) = H7 at W7 hlh7 hln7 ⊢
  refine ⟨small (by show 4 ≤ 1000; decide), fun p8 hp8 => ?_⟩
  obtain ⟨vs, evs, hvs⟩ : ∃ vs : List Nat, [V.int 0, V.int 1, V.int (1 * 2 ^ ((nm.length : Nat) : Int).toNat - 1), V.int c] = natsL vs ∧ ∀ v ∈ vs, v < 2 ^ nm.length := by
    refine ⟨[0, 1, 2 ^ nm.length - 1, c.toNat], ?_, fun v hv => ?_⟩
    · have e3 : (1 * 2 ^ ((nm.length : Nat) : Int).toNat - 1 : Int) = ((2 ^ nm.length - 1 : Nat) : Int) := by
        rw [e2]
        omega
      have e4 : c = ((c.toNat : Nat) : Int) := by omega
      rw [e3, show V.int c = V.int ((c.toNat : Nat) : Int) from congrArg V.int e4]
      rfl
    · simp only [List.mem_cons, List.not_mem_nil, or_false] at hv
      rcases hv with rfl | rfl | rfl | rfl <;> omega
  rw [evs]
  have s8 := same_new hp8 (.lst (natsL vs))
  have a8 : (L2.upd H7 p8 (.lst (natsL vs))) p8 = some (.lst (natsL vs)) := upd_same
  have W8 := W7.same s8
  have hlh8 := s8 _ _ hlh7
  have hln8 := s8 _ _ hln7
  generalize L2.upd H7 p8 (.lst (natsL vs)) = H8 at W8 hlh8 hln8 a8 ⊢
  clear s8 hlh7 hln7 W7 evs
  have sb : ∀ c : List Str, (strsL c).length = c.length := fun c => by rw [strsL, List.length_map]
  refine ⟨p8, rfl, ⟨_, SqL.of a8⟩, ?_⟩
  refine for_list (K := K) (a := p8) (xs := natsL vs) (fun i σ H2 => (∃ v7 v8 v9, σ = [some (.ref sp), some (.ref pen), some (.ref wd), some (.ref ln), some (.ref lh), some (.str (textOf nm L C)), some (.str (textOf nm L C)), v7, v8, v9]) ∧ Same H8 H2) ⟨⟨_, _, _, rfl⟩, Same.refl _⟩ (fun i σ H2 _ z => SqL.of (z.2 _ _ a8)) ?_ ?_
  · rintro i x σ H2 hx ⟨⟨v7, v8, v9, rfl⟩, sm⟩
    unfold natsL at hx
    rw [List.getElem?_map] at hx
    cases ek : vs[i]? with
    | none =>
      rw [ek] at hx
      cases hx
    | some n =>
      rw [ek] at hx
      cases hx
      have hn := hvs n (List.mem_of_getElem? ek)
      refine ⟨_, rfl, wd, _, _, _, rfl, rfl, sqT (sm _ _ W8.at_), at0, _, rfl, by rw [p62]; omega, by rw [p62]; omega, ?_⟩
      rw [Int.toNat_natCast]
      refine lc_range0 (k := nm.length) (fun j zs σ H3 => (∃ v, σ = [v, some (.ref ln), some (.int (n : Int))]) ∧ H3 = H2 ∧ zs = strsL (((List.range j).filter fun k => n.testBit k).map (nameAt nm))) ⟨⟨none, rfl⟩, rfl, rfl⟩ (fun j zs σ H3 hj pv => ?_) (fun j zs σ H3 hj pv => ?_) (fun zs σ H3 pv p9 hp9 => ?_)
      · obtain ⟨_, _, rfl⟩ := pv
        rw [sb, List.length_map]
        refine small (Nat.le_trans (List.length_filter_le _ _) ?_)
        rw [List.length_range]
        omega
      · obtain ⟨⟨v, rfl⟩, rfl, rfl⟩ := pv
        refine ⟨_, rfl, _, rfl, n, j, rfl, by omega, _, rfl, ?_⟩
        rw [filter_range_succ]
        refine ite2 (fun c => ?_) (fun c => ?_)
        · refine ⟨_, rfl, _, rfl, ln, _, _, _, rfl, rfl, SqL.of (sm _ _ hln8), atI_nat (name_get hj), ⟨_, rfl⟩, rfl, ?_⟩
          rw [if_pos c, List.map_append, strs_app]
          rfl
        · refine ⟨⟨_, rfl⟩, rfl, ?_⟩
          rw [if_neg c, List.append_nil]
      obtain ⟨_, rfl, rfl⟩ := pv
      rw [← bits_range hn]
      have s9 := same_new hp9 (.lst (strsL ((bitsL n).map (nameAt nm))))
      have a9 : (L2.upd H3 p9 (.lst (strsL ((bitsL n).map (nameAt nm))))) p9 = some (.lst (strsL ((bitsL n).map (nameAt nm)))) := upd_same
      have sm9 := sm.trans s9
      generalize L2.upd H3 p9 (.lst (strsL ((bitsL n).map (nameAt nm)))) = H4 at a9 sm9 ⊢
      have nlen : (bitsL n).length ≤ 9 := by
        rw [bits_range hn]
        refine Nat.le_trans (List.length_filter_le _ _) ?_
        rw [List.length_range]
        omega
      refine ⟨_, rfl, _, rfl, lh, nm, n, rfl, sm9 _ _ hlh8, by omega, fun k hk => ?_, fun z hz => by have := LN.n8 z hz; omega, fun H5 s5 => ?_⟩
      · rw [bits_range hn] at hk
        exact List.mem_range.mp (List.mem_filter.mp hk).1
      refine ⟨rfl, _, rfl, ",", p9, _, rfl, rfl, SqL.of (s5 _ _ a9), ?_, rfl, _, rfl, ?_⟩
      · have := sum_len (b := 8) (ws := (bitsL n).map (nameAt nm)) fun z hz => by
          obtain ⟨k, _, rfl⟩ := List.mem_map.mp hz
          exact nameAt_len LN.n8 k
        rw [List.length_map] at this ⊢
        rw [show ("," : Str).length = 1 from rfl]
        omega
      rw [decide_eq_true rfl]
      refine iteF ?_
      exact ⟨⟨_, _, _, rfl⟩, sm9.trans s5⟩
  · rintro σ H2 ⟨⟨v7, v8, v9, rfl⟩, sm⟩
    refine ⟨_, rfl, by rw [p62]; decide, by rw [p62]; decide, ?_⟩
    refine for_range0 (n := 2) (fun i σ H3 => (∃ v7 v8 v9, σ = [some (.ref sp), some (.ref pen), some (.ref wd), some (.ref ln), some (.ref lh), some (.str (textOf nm L C)), some (.str (textOf nm L C)), v7, v8, v9]) ∧ Same H8 H3) ⟨⟨_, _, _, rfl⟩, sm⟩ ?_ ?_
    · rintro i σ H3 hi ⟨⟨v7, v8, v9, rfl⟩, sm3⟩
      exact ⟨_, rfl, _, rfl, _, rfl, ln, wd, tb, tc, nm, L, C, rfl, LN, sm3 _ _ hln8, W8.same sm3, fun H4 s4 => ⟨_, rfl, iteF ⟨⟨_, _, _, rfl⟩, sm3.trans s4⟩⟩⟩
    · rintro σ H3 ⟨⟨v7, v8, v9, rfl⟩, sm3⟩
      refine ⟨_, rfl, _, rfl, lh, ln, nm, nm, rfl, rfl, sm3 _ _ hlh8, sm3 _ _ hln8, pl, pl, ?_⟩
      rw [decide_eq_true rfl]
      exact q _

end

-- FOOT
theorem all_mk {l : PySem.W.OpenLaw} {w : World} {K : PySem.W.Frag} {h : Heap} {mg : Str → Option Value} {fa f1 f2 f3 f4 f5 f6 f7 f8 f9 f10 f11 f12 f13 f14 f15 f16 f17 f18 f19 f20 f21 f22 f23 f24 f25 f26 f27 f28 f29 f30 f31 f32 f33 f34 f35 f36 f37 f38 f39 f40 f41 f42 f43 f44 f45 y_NO_NAMES : Addr} (X : K.In h) (G : h.Ns mainGlobals mg) (hfa : mg "law" = some (.ref fa))
    {d1 d2 d3 d4 d5 d6 d7 d8 d9 d10 d11 d12 d13 d14 d15 d16 d17 d18 d19 d20 d21 d22 d23 d24 d25 d26 d27 d28 d29 d30 d31 d32 d33 d34 d35 d36 d37 d38 d39 d40 d41 d42 d43 d44 d45 : FuncData}
    (a1 : Dk K "has" s_has f1 d1)
    (a2 : Dk K "options_of" s_options_of f2 d2)
    (a3 : Dk K "wood_of" s_wood_of f3 d3)
    (a4 : Dk K "check_boughs" s_check_boughs f4 d4)
    (a5 : Dk K "check_cross_ties" s_check_cross_ties f5 d5)
    (a6 : Dk K "is_whole" s_is_whole f6 d6)
    (a7 : Dk K "is_whole_within" s_is_whole_within f7 d7)
    (a8 : Dk K "is_option" s_is_option f8 d8)
    (a9 : Dk K "is_tuple_of_length" s_is_tuple_of_length f9 d9)
    (a10 : Dk K "is_filled_tuple" s_is_filled_tuple f10 d10)
    (a11 : Dk K "are_rising_options" s_are_rising_options f11 d11)
    (a12 : Dk K "is_bough" s_is_bough f12 d12)
    (a13 : Dk K "is_cross_tie" s_is_cross_tie f13 d13)
    (a14 : Dk K "are_pairs" s_are_pairs f14 d14)
    (a15 : Dk K "read" s_read f15 d15)
    (a16 : Dk K "names_in" s_names_in f16 d16)
    (a17 : Dk K "is_name" s_is_name f17 d17)
    (a18 : Dk K "is_number" s_is_number f18 d18)
    (a19 : Dk K "is_made_of" s_is_made_of f19 d19)
    (a20 : Dk K "number_in" s_number_in f20 d20)
    (a21 : Dk K "option_in" s_option_in f21 d21)
    (a22 : Dk K "rising_in" s_rising_in f22 d22)
    (a23 : Dk K "bough_in" s_bough_in f23 d23)
    (a24 : Dk K "bounds_in" s_bounds_in f24 d24)
    (a25 : Dk K "words_of_bounds" s_words_of_bounds f25 d25)
    (a26 : Dk K "is_cross_line" s_is_cross_line f26 d26)
    (a27 : Dk K "cross_tie_in" s_cross_tie_in f27 d27)
    (a28 : Dk K "most_in" s_most_in f28 d28)
    (a29 : Dk K "shown" s_shown f29 d29)
    (a30 : Dk K "words_of_cross_tie" s_words_of_cross_tie f30 d30)
    (a31 : Dk K "show_set" s_show_set f31 d31)
    (a32 : Dk K "_law_take" s_law_take f32 d32)
    (a33 : Dk K "_law_bough" s_law_bough f33 d33)
    (a34 : Dk K "_law_boughs" s_law_boughs f34 d34)
    (a35 : Dk K "_law_most" s_law_most f35 d35)
    (a36 : Dk K "_law_cross" s_law_cross f36 d36)
    (a37 : Dk K "_law_wood" s_law_wood f37 d37)
    (a38 : Dk K "_law_has" s_law_has f38 d38)
    (a39 : Dk K "_law_names" s_law_names f39 d39)
    (a40 : Dk K "_law_figures" s_law_figures f40 d40)
    (a41 : Dk K "_law_bough_words" s_law_bough_words f41 d41)
    (a42 : Dk K "_law_lines" s_law_lines f42 d42)
    (a43 : Dk K "_law_kind" s_law_kind f43 d43)
    (a44 : Dk K "_law_right" s_law_right f44 d44)
    (a45 : Dk K "law" s_law f45 d45)
    (z1 : PySem.W.nsIn K mainGlobals "range" = some none)
    (z2 : PySem.W.nsIn K mainGlobals "len" = some none)
    (z3 : PySem.W.nsIn K mainGlobals "isinstance" = some none)
    (z4 : PySem.W.nsIn K mainGlobals "min" = some none)
    (z5 : PySem.W.nsIn K mainGlobals "all" = some none)
    (z6 : PySem.W.nsIn K mainGlobals "int" = some none)
    (z7 : PySem.W.nsIn K mainGlobals "bool" = some none)
    (z8 : PySem.W.nsIn K mainGlobals "list" = some none)
    (z9 : PySem.W.nsIn K mainGlobals "tuple" = some none)
    (z10 : PySem.W.nsIn K mainGlobals "str" = some none)
    (z11 : PySem.W.nsIn K mainGlobals "sorted" = some none)
    (z12 : PySem.W.nsIn K mainGlobals "enumerate" = some none)
    (z13 : PySem.W.nsIn K mainGlobals "zip" = some none)
    (z14 : PySem.W.nsIn K mainGlobals "set" = some none)
    (z15 : PySem.W.nsIn K mainGlobals "abs" = some none)
    {tc1 : Tok} (v1 : PySem.W.nsIn K mainGlobals "MOST_OPTIONS" = some (some (Value.int 9 tc1)))
    {tc2 : Tok} (v2 : PySem.W.nsIn K mainGlobals "MOST_CROSS_TIES" = some (some (Value.int 8 tc2)))
    {tc3 : Tok} (v3 : PySem.W.nsIn K mainGlobals "LETTERS" = some (some (Value.str "abcdefghijklmnopqrstuvwxyz" tc3)))
    {tc4 : Tok} (v4 : PySem.W.nsIn K mainGlobals "FIGURES" = some (some (Value.str "0123456789" tc4)))
    {tc5 : Tok} (v5 : PySem.W.nsIn K mainGlobals "LONGEST_NAME" = some (some (Value.int 8 tc5)))
    {tc6 : Tok} (v6 : PySem.W.nsIn K mainGlobals "MOST_FIGURES" = some (some (Value.int 60 tc6)))
    (tg1 : PySem.W.nsIn K mainGlobals "NO_NAMES" = some (some (.ref y_NO_NAMES))) (tq1 : kTup K y_NO_NAMES ["must", "may", "one", "from", "needs", "bans", "most"] = true)
    : (∃ fd : FuncData, (∀ (s : Shared) (v : Value), BindsTo s fd ⟨[v], []⟩ [("_law_script", v)]) ∧ ∀ base : Heap, K.In base → base.Ns mainGlobals mg → FnOk l.prog w K mg base CX0 12 fa fd ["_law_script"] (spLaw K)) := by
  have e := hfa.symm.trans (PySem.W.mg_of X G a45.1)
  cases e
  have T : Txt K mg ⟨f1, f2, f3, f4, f5, f6, f7, f8, f9, f10, f11, f12, f13, f14, f15, f16, f17, f18, f19, f20, f21, f22, f23, f24, f25, f26, f27, f28, f29, f30, f31, f32, f33, f34, f35, f36, f37, f38, f39, f40, f41, f42, f43, f44, fa, y_NO_NAMES⟩ ⟨d1, d2, d3, d4, d5, d6, d7, d8, d9, d10, d11, d12, d13, d14, d15, d16, d17, d18, d19, d20, d21, d22, d23, d24, d25, d26, d27, d28, d29, d30, d31, d32, d33, d34, d35, d36, d37, d38, d39, d40, d41, d42, d43, d44, d45⟩ := ⟨PySem.W.mg_none_of X G z1, PySem.W.mg_none_of X G z2, PySem.W.mg_none_of X G z3, PySem.W.mg_none_of X G z4, PySem.W.mg_none_of X G z5, PySem.W.mg_none_of X G z6, PySem.W.mg_none_of X G z7, PySem.W.mg_none_of X G z8, PySem.W.mg_none_of X G z9, PySem.W.mg_none_of X G z10, PySem.W.mg_none_of X G z11, PySem.W.mg_none_of X G z12, PySem.W.mg_none_of X G z13, PySem.W.mg_none_of X G z14, PySem.W.mg_none_of X G z15, ⟨_, PySem.W.mg_of X G v1⟩, ⟨_, PySem.W.mg_of X G v2⟩, ⟨_, PySem.W.mg_of X G v3⟩, ⟨_, PySem.W.mg_of X G v4⟩, ⟨_, PySem.W.mg_of X G v5⟩, ⟨_, PySem.W.mg_of X G v6⟩, PySem.W.mg_of X G tg1, tq1, a1.df X G (bd2 fun _ _ _ _ _ _ _ _ => rfl), a2.df X G (bd1 fun _ _ _ _ _ _ _ => rfl), a3.df X G (bd3 fun _ _ _ _ _ _ _ _ _ => rfl), a4.df X G (bd2 fun _ _ _ _ _ _ _ _ => rfl), a5.df X G (bd2 fun _ _ _ _ _ _ _ _ => rfl), a6.df X G (bd1 fun _ _ _ _ _ _ _ => rfl), a7.df X G (bd3 fun _ _ _ _ _ _ _ _ _ => rfl), a8.df X G (bd2 fun _ _ _ _ _ _ _ _ => rfl), a9.df X G (bd2 fun _ _ _ _ _ _ _ _ => rfl), a10.df X G (bd1 fun _ _ _ _ _ _ _ => rfl), a11.df X G (bd3 fun _ _ _ _ _ _ _ _ _ => rfl), a12.df X G (bd2 fun _ _ _ _ _ _ _ _ => rfl), a13.df X G (bd2 fun _ _ _ _ _ _ _ _ => rfl), a14.df X G (bd2 fun _ _ _ _ _ _ _ _ => rfl), a15.df X G (bd1 fun _ _ _ _ _ _ _ => rfl), a16.df X G (bd1 fun _ _ _ _ _ _ _ => rfl), a17.df X G (bd1 fun _ _ _ _ _ _ _ => rfl), a18.df X G (bd1 fun _ _ _ _ _ _ _ => rfl), a19.df X G (bd2 fun _ _ _ _ _ _ _ _ => rfl), a20.df X G (bd1 fun _ _ _ _ _ _ _ => rfl), a21.df X G (bd2 fun _ _ _ _ _ _ _ _ => rfl), a22.df X G (bd2 fun _ _ _ _ _ _ _ _ => rfl), a23.df X G (bd2 fun _ _ _ _ _ _ _ _ => rfl), a24.df X G (bd2 fun _ _ _ _ _ _ _ _ => rfl), a25.df X G (bd3 fun _ _ _ _ _ _ _ _ _ => rfl), a26.df X G (bd1 fun _ _ _ _ _ _ _ => rfl), a27.df X G (bd2 fun _ _ _ _ _ _ _ _ => rfl), a28.df X G (bd2 fun _ _ _ _ _ _ _ _ => rfl), a29.df X G (bd2 fun _ _ _ _ _ _ _ _ => rfl), a30.df X G (bd2 fun _ _ _ _ _ _ _ _ => rfl), a31.df X G (bd2 fun _ _ _ _ _ _ _ _ => rfl), a32.df X G (bd2 fun _ _ _ _ _ _ _ _ => rfl), a33.df X G (bd3 fun _ _ _ _ _ _ _ _ _ => rfl), a34.df X G (bd2 fun _ _ _ _ _ _ _ _ => rfl), a35.df X G (bd2 fun _ _ _ _ _ _ _ _ => rfl), a36.df X G (bd2 fun _ _ _ _ _ _ _ _ => rfl), a37.df X G (bd1 fun _ _ _ _ _ _ _ => rfl), a38.df X G (bd2 fun _ _ _ _ _ _ _ _ => rfl), a39.df X G (bd2 fun _ _ _ _ _ _ _ _ => rfl), a40.df X G (bd1 fun _ _ _ _ _ _ _ => rfl), a41.df X G (bd1 fun _ _ _ _ _ _ _ => rfl), a42.df X G (bd2 fun _ _ _ _ _ _ _ _ => rfl), a43.df X G (bd2 fun _ _ _ _ _ _ _ _ => rfl), a44.df X G (bd3 fun _ _ _ _ _ _ _ _ _ => rfl), a45.df X G (bd1 fun _ _ _ _ _ _ _ => rfl)⟩
  exact ⟨d45, law_b a45.2 fun _ _ _ _ _ _ _ => rfl, fun base _ _ => ok_law T⟩
theorem walk {l : PySem.W.OpenLaw} {q : Program} {loose : List Str} {XP : (Str → Option Value) → Heap → Prop} {YP : World → Heap → Prop} {d : DefRec} {K : Params → PySem.W.Frag} (hn : l.most = some 63) (hdf : d.params.defaults = [])
    (hY : ∀ (w : World) (h : Heap), YP w h → (K w.params).In h)
    (F : ∀ (w : World) (mg : Str → Option Value) (fa : Addr) (h : Heap), (K w.params).In h → h.Ns mainGlobals mg → mg d.name = some (.ref fa) →
      ∃ fd : FuncData, (∀ (s : Shared) (u : Value), BindsTo s fd ⟨[u], []⟩ [("_law_script", u)]) ∧ ∀ base : Heap, (K w.params).In base → base.Ns mainGlobals mg → FnOk l.prog w (K w.params) mg base CX0 12 fa fd ["_law_script"] (spLaw (K w.params))) :
    PySem.W.WalkO q loose XP YP l.row.toRowW d [] (fun f vs => PySem.call f vs) :=
  
  L2.walk_of (n := 63) (k := 12) (x := "_law_script") (CX := fun _ => CX0) (sp := fun w => (spLaw (K w.params))) hn (by decide) hdf ⟨rfl, by decide, by decide⟩ hY F (fun _ _ a ns hl _ hS => ⟨a, ns, rfl, hS, hl, fun _ => rfl⟩) fun _ _ _ _ _ z => z
end Ow
structure PySem.W.Fast : Prop where
  (tw10952383832368461429 tw7101639666340010966 tw6447186066889932417 tw5560751081537231132 tw17631659544581170052 tw16516328447971512014 tw1901865489535787836 tw11361151697955916283 tw4784214583160364118 tw12083339958926579600 tw340687819413530459 tw2339272686958248240 tw8161339606046989651 tw13205637824717016896 tw15874236094528309544 tw2627003086175083161 tw1881271666894165796 tw1586147632383761774 tw11007110164754201400 tw11430935276666174609 tw15817769176766934162 tw15492020885657296406 tw14165683837283270242 tw11731938225670188753 tw2058674538122832349 tw12720467707105808841 tw5409562368274295160 tw807486947268091883 tw15125062849033954047 tw17870572713345022387 tw10489765428626066144 tw674771384049581027 tw15294028774520997807 tw5871324892238776633 tw12437537569330529232 tw4537464671184156752 tw14726858652293497815 tw2672081502138694684 tw10091785354650055230 tw4912308814240125277 tw9755491518159504570 tw15696370440560637461 tw7429624695418979528 tw16968785316991804294 tw3008192401669756403 tw1171619846432524122 tw9065222632336811339 tw12784666065034142677 tw17175377735222272092 tw14348602867399703437 tw9192707898681620585 tw26502477300613290 tw18418053989404238758 tw18171913023864331612 tw1097405260639678237 tw1773039789930656373 tw3532246385641133979 tw6786290041896571931 tw10791551689791274639 tw9435041404251975881 tw6975213589652810 tw1705618576604979912 tw8158550512725525427 tw15033238792606812276 tw13095702699561205168 tw7678018726026608613 tw2323914382377243240 tw7983784458019361916 tw18223049828224974970 tw6422649532960469302 tw6465189097856974567 tw16260265855803841947 tw2769661065402881597 tw7709556088283061585 tw17795772677546736651 tw4666001520419628314 tw7164268803036342899 tw3854048509523721380 tw7482933902919391120 tw13961916628519937907 tw18088614645446540801 tw871587921123972629 tw8556398997334706526 tw15170899316937294428 tw17045167032424010844 tw4317109231657919414 tw8373623659490665174 tw12943326493595090562 tw6556521820769494984 tw17675517134667767960 tw8584353612879071675 tw14648891303879168187 tw14827871718819810502 tw17768297156697111929 tw15518768927447614280 tw3245011901726217762 tw8103247285377916721 tw14705105891961945041 tw1663409460643315622 tw1112533071220668930 tw11702964930548616581 tw709682275838519265 tw9755309499962232794 tw10585337661118359939 tw17819653046250980147 tw7536407620235890101 tw5372261766578805597 tw6103323554843177111 tw1692851963867029628 tw18036670640142002795 tw13223359311099240726 tw14031722931334434036 tw13671519278613301394 tw9896453147484339880 tw11206119138241949369 tw16199220074309100547 tw12787902639302212208 tw11634430945913906609 tw1420208319571500391 tw12379672983032072577 tw17017947244036606044 tw2139348974445702118 tw12381077692974142058 tw13610551722374760962 tw11697741489600167373 tw2901865263342596590 tw13712649033245203895 tw17214340797339522079 tw1955012639282216864 tw7422503372051160059 tw7260887630734595194 tw6688455577970847943 tw8131071973202022381 tw2429731425782581100 tw4106878890759388000 tw6456710234458399004 tw14273611188870793089 tw8594129422182759873 tw17493138139914739674 tw3245258127229588458 tw6139795979914919600 tw6758461345544299194 tw10051349022997001881 tw11428538979131507866 tw2676147138159297765 tw2953661356584494696 tw205329606467600081 tw11360228330777533095 tw18024611044821614009 tw17866447982747697385 tw17485385938711962682 tw7502366248740507806 tw10525042124186892656 tw14129817717713096108 tw6195054451333366806 tw9767070177767343375 tw3450576677285367883 tw11972064910617996392 tw7686715045033943440 tw5203469399921308566 tw4129653104776551027 tw17530503547873237081 tw904687854535356510 tw9120592942230801721 tw4076863450634271117 tw6866760500762662450 tw10593022223485917514 tw10070611541503131161 tw6229627174433458967 tw18139835268069131209 tw3599877935402154801 tw9669959422058617024 tw671851256108253380 tw2009676730721825996 tw17993148900025591639 tw8747759435368421831 tw2310032852704030232 tw14287692247281620850 tw16035981604170719798 tw4596445135574336313 tw2987951290031173161 tw15690607872802882895 tw17599846354139659657 tw4519378555826959468 tw7184064266857582186 tw11130473309376333246 tw1017518480627699169 tw13618268668967203022 tw8507312673495565711 tw11343472679937444175 tw979833315724796618 tw928856606701260654 tw3832316344717285201 tw4081755796545254547 tw16568648573101449031 tw18285426591047722949 tw13082097401821335867 tw5315040821096774779 tw8015345610865003384 tw4409487652385773510 tw1284924270180558344 tw16681667607166489609 tw14050026697076703165 tw12218114552085567735 tw15966822835543612179 tw12150235145551770413 tw3138094776272089494 tw7556908559976027923 tw18429962189844204786 tw14022048907331861216 tw17762890469297837183 tw1431168534528289677 tw8397655053017934806 tw10847797423888757704 tw11314572160056466748 tw10444603865927407906 tw17885329745539457662 tw840059989965858094 tw11587455361902136168 tw12861979753395916525 tw546840931841844160 tw15928145720785208044 tw2027720451044527717 tw16315331000505191035 tw348424518448983225 tw2011786359486748099 tw5391259938478192347 tw8441722564007167556 tw1811798736869198374 tw5489530746812970061 tw12370071930239096269 tw2597997635906492317 tw3010954404430786003 tw16006357274814647360 tw16553335449017325489 tw2214378253962360349 tw18335918347617853333 tw17352081342793140361 tw12432579051746544463 tw7850019288006376657 tw16188326463221200150 tw3440116227054182202 tw9301719199197713861 tw4001384384472829367 tw5846633423795168610 tw9900003014237168622 tw11370381615740416598 tw13209504417653946984 tw3645572595074861316 tw9158420937627283758 tw13539991505678278556 tw8072859244646474588 tw11927436235394244207 tw12171633616051046561 tw7002088100009229708 tw2729684910014730801 tw16562102152697273248 tw9101081520051938774 tw6416954324857817729 tw727245335492374076 tw13622441265122626079 tw13348547384156619225 tw10556360181195922989 tw9830077250507629381 tw3636465015713963060 tw11359897823137502080 tw16546404558479944475 tw12323816814588198914 tw5918512953719917385 tw17477536996989681168 tw4858530295455340334 tw6164262699091630872 tw11362742205771733456 tw5669090669100013786 tw15966541885793868717 tw17985418040870461916 tw16151640665133913070 tw338036062189766189 tw17963404047732687170 tw9260159224799914314 tw17961410264109882751 tw9994286572105634514 tw7964911850163757813 tw15156140834760180446 tw6114280851826143048 tw18044877878996611616 tw10154776546226443489 tw5305431332997544153 tw5672611786613189819 tw1658603964609269539 tw7053499756392737545 tw17287889619223792349 tw867867030296484751 tw1525373225714753475 tw289737449439859839 tw5070508972721992170 tw6143733471908518478 tw8016345848578717265 tw8884176774724114084 tw12934667269271152661 tw13220163733045305266 tw9263720703004495686 tw7842369177982525918 tw7858440454905814648 tw4510580395140611750 tw4559207649448789773 tw13181670632197748203 tw4599545162515999912 tw3000782073585515817 : True)
namespace Ow
end Ow
open PySem PySem.W PyProof.Rows
set_option maxRecDepth 100000 in
set_option maxHeartbeats 0 in
theorem PySem.Challenge.cw_optionwood_k80_texts_of_woods_holds : PySem.Challenge.rw_optionwood_k80_texts_of_woods.Holds := by
  w_on; o_law; k_head; (case hw => w_witness2)
  k_fill
  refine Ow.walk (l := PySem.Challenge.rw_optionwood_k80_texts_of_woods) rfl rfl (fun w h Y => PySem.W.kIn_of Y) ?F
  case F =>
    intro w mg fa h KX G hmg
    refine' Ow.all_mk KX G hmg ?a1 ?a2 ?a3 ?a4 ?a5 ?a6 ?a7 ?a8 ?a9 ?a10 ?a11 ?a12 ?a13 ?a14 ?a15 ?a16 ?a17 ?a18 ?a19 ?a20 ?a21 ?a22 ?a23 ?a24 ?a25 ?a26 ?a27 ?a28 ?a29 ?a30 ?a31 ?a32 ?a33 ?a34 ?a35 ?a36 ?a37 ?a38 ?a39 ?a40 ?a41 ?a42 ?a43 ?a44 ?a45 ?z1 ?z2 ?z3 ?z4 ?z5 ?z6 ?z7 ?z8 ?z9 ?z10 ?z11 ?z12 ?z13 ?z14 ?z15 ?v1 ?v2 ?v3 ?v4 ?v5 ?v6 ?tg1 ?tq1
    all_goals try (refine' L2.dk ?a ?l ?c ?k; (case a => k_is); (case l => k_is); (case c => k_is); (case k => k_is))
    (case z1 => k_is)
    (case z2 => k_is)
    (case z3 => k_is)
    (case z4 => k_is)
    (case z5 => k_is)
    (case z6 => k_is)
    (case z7 => k_is)
    (case z8 => k_is)
    (case z9 => k_is)
    (case z10 => k_is)
    (case z11 => k_is)
    (case z12 => k_is)
    (case z13 => k_is)
    (case z14 => k_is)
    (case z15 => k_is)
    (case v1 => k_is)
    (case v2 => k_is)
    (case v3 => k_is)
    (case v4 => k_is)
    (case v5 => k_is)
    (case v6 => k_is)
    (case tg1 => k_is)
    (case tq1 => kernel_rfl)
#print axioms PySem.Challenge.cw_optionwood_k80_texts_of_woods_holds
