import PyProof.Rows.All
import Wide.All
import OpenK.AllK
import Wide.FinOn
import Lean
import PyProof.EqAt
import PyProof.EqKinds
import PyProof.TupleCall
import PySem.Challenge.RW_optionwood_k60_the_best_buy

set_option Elab.async false
set_option linter.all false
set_option maxRecDepth 100000
/-! THE HAND LAYER, for ints, bools, texts, own classes, LISTS and tuples (index, slices, in, append, pop ..), calls, loops. Paste it whole ahead of your own text; what your proof does not reach may be deleted. -/
namespace L2
open PySem PySem.Spec PyProof.Rows

/-- a key: an int or a str -/
abbrev Key := Sum Int Str
def keyIs : Key → Value → Bool
  | .inl k, v => Value.isInt k v
  | .inr x, v => Value.isStrOf x v
def keyH (w : World) : Key → Int
  | .inl k => hashInt k
  | .inr x => hashStr w x
theorem keyIs_shape : ∀ {k : Key} {v : Value}, keyIs k v = true → (∃ i t, k = Sum.inl i ∧ v = Value.int i t) ∨ (∃ x t, k = Sum.inr x ∧ v = Value.str x t)
  | .inl i, v, h => by
    obtain ⟨t, e⟩ := Value.isInt_shape (k := i) (v := v) h
    exact .inl ⟨i, t, rfl, e⟩
  | .inr x, v, h => by
    obtain ⟨t, e⟩ := Value.isStrOf_shape (x := x) (v := v) h
    exact .inr ⟨x, t, rfl, e⟩
theorem key_ll (a b : Int) : decide ((Sum.inl a : Key) = Sum.inl b) = (a == b) := by
  by_cases e : a = b
  · subst e; simp
  · have h : ¬ (Sum.inl a : Key) = Sum.inl b := fun q => e (Sum.inl.inj q)
    rw [decide_eq_false h]
    exact (beq_eq_false_iff_ne.mpr e).symm
theorem key_rr (a b : Str) : decide ((Sum.inr a : Key) = Sum.inr b) = decide (a = b) := by
  by_cases e : a = b
  · subst e; simp
  · have h : ¬ (Sum.inr a : Key) = Sum.inr b := fun q => e (Sum.inr.inj q)
    rw [decide_eq_false h, decide_eq_false e]
theorem key_lr (a : Int) (b : Str) : decide ((Sum.inl a : Key) = Sum.inr b) = false := decide_eq_false (fun q => nomatch q)
theorem key_rl (a : Str) (b : Int) : decide ((Sum.inr a : Key) = Sum.inl b) = false := decide_eq_false (fun q => nomatch q)

def mixKind (prog : Program) (w : World) : PySem.KeyKind prog w Key where
  is := keyIs
  hash := keyH w
  inj := fun v a b ha hb => by
    rcases keyIs_shape ha with ⟨i, t, rfl, rfl⟩ | ⟨x, t, rfl, rfl⟩
    · rcases keyIs_shape hb with ⟨j, u, rfl, e⟩ | ⟨y, u, rfl, e⟩
      · injection e with e1 _; rw [e1]
      · exact nomatch e
    · rcases keyIs_shape hb with ⟨j, u, rfl, e⟩ | ⟨y, u, rfl, e⟩
      · exact nomatch e
      · injection e with e1 _; rw [e1]
  byValue := fun k v h => by
    rcases keyIs_shape h with ⟨i, t, rfl, rfl⟩ | ⟨x, t, rfl, rfl⟩ <;> rfl
  pyHash := fun hv h => by
    rcases keyIs_shape hv with ⟨i, t, rfl, rfl⟩ | ⟨x, t, rfl, rfl⟩
    · exact wpAny_pyHash_int h
    · exact wpAny_pyHash_str h
  eqBool := fun hu hv h => by
    rcases keyIs_shape hu with ⟨i, t, rfl, rfl⟩ | ⟨x, t, rfl, rfl⟩
    · rcases keyIs_shape hv with ⟨j, u, rfl, rfl⟩ | ⟨y, u, rfl, rfl⟩
      · rw [key_ll] at h; exact wpAny_eqBool_int h
      · rw [key_lr] at h; exact SeqAt.EqAt.int_str i t y u _ _ _ _ h
    · rcases keyIs_shape hv with ⟨j, u, rfl, rfl⟩ | ⟨y, u, rfl, rfl⟩
      · rw [key_rl] at h; exact SeqAt.EqAt.str_int x t j u _ _ _ _ h
      · rw [key_rr] at h; exact wpAny_eqBool_str h
  «strs» := fun k x t v h => by
    rcases keyIs_shape h with ⟨i, u, rfl, e⟩ | ⟨y, u, rfl, e⟩
    · exact nomatch e
    · injection e with e1 _
      subst e1
      cases v <;> rfl

end L2

namespace L2
open PySem PySem.Spec PyProof.Rows

/-- a value, without the heap -/
inductive V where
  | non | bl (b : Bool) | int (i : Int) | str (x : Str) | byt (b : Array UInt8) | flt (b : UInt64) | ref (a : Addr) | ty (n : String)
  deriving DecidableEq

def RelV : V → Value → Prop
  | .non, u => u = Value.none
  | .bl b, u => u = Value.bool b
  | .int i, u => ∃ t, u = Value.int i t
  | .str x, u => ∃ t, u = Value.str x t
  | .byt b, u => ∃ t, u = Value.bytes b t
  | .flt b, u => ∃ t, u = Value.float b t
  | .ref a, u => u = Value.ref a
  | .ty n, u => u = Value.type n

abbrev Vals : List V → List Value → Prop := Paired RelV
theorem Vals.length {xs : List V} {us : List Value} (r : Vals xs us) : xs.length = us.length := Paired.length r
theorem Vals.get : ∀ {xs : List V} {us : List Value} {i : Nat} {x : V}, Vals xs us → xs[i]? = some x → ∃ u, us[i]? = some u ∧ RelV x u
  | _, _, _, _, .nil, e => by simp at e
  | _, _, 0, _, .cons r _, e => by simp at e; subst e; exact ⟨_, rfl, r⟩
  | _, _, i + 1, x, .cons _ t, e => by
    obtain ⟨u, h1, h2⟩ := Vals.get (i := i) (x := x) t (by simpa using e)
    exact ⟨u, by simpa using h1, h2⟩
theorem Vals.set {x : V} {u : Value} (r : RelV x u) : ∀ {xs : List V} {us : List Value} (i : Nat), Vals xs us → Vals (xs.set i x) (us.set i u)
  | _, _, _, .nil => .nil
  | _, _, 0, .cons _ t => .cons r t
  | _, _, i + 1, .cons q t => .cons q (Vals.set r i t)
theorem Vals.append : ∀ {xs ys : List V} {us ws : List Value}, Vals xs us → Vals ys ws → Vals (xs ++ ys) (us ++ ws)
  | _, _, _, _, .nil, s => s
  | _, _, _, _, .cons r t, s => .cons r (Vals.append t s)
theorem Vals.take : ∀ {xs : List V} {us : List Value} (n : Nat), Vals xs us → Vals (xs.take n) (us.take n)
  | _, _, 0, _ => .nil
  | _, _, _ + 1, .nil => .nil
  | _, _, n + 1, .cons r t => .cons r (Vals.take n t)
theorem Vals.drop : ∀ {xs : List V} {us : List Value} (n : Nat), Vals xs us → Vals (xs.drop n) (us.drop n)
  | _, _, 0, r => r
  | _, _, _ + 1, .nil => .nil
  | _, _, n + 1, .cons _ t => Vals.drop n t
def RelO : Option V → Option Value → Prop
  | some v, some u => RelV v u
  | none, none => True
  | _, _ => False
def KV {κ : Type} : List (κ × V) → List (κ × Value) → Prop := Paired fun (p : κ × V) (q : κ × Value) => p.1 = q.1 ∧ RelV p.2 q.2

/-- a key of a dict (00_mix): an int or a text -/
def kV : Key → V
  | .inl i => .int i
  | .inr x => .str x

/-- what stands at a tracked address -/
inductive HO where
  /-- a list -/
  | lst (xs : List V)
  /-- a tuple (never changes) -/
  | tup (xs : List V)
  /-- a dict whose keys are ints and texts; one whose keys are tuples of ints and texts (the empty one is both) -/
  | dK (kvs : List (Key × V)) | dT (kvs : List (List Key × V))
  /-- a set of ints: its members, its size -/
  | set (S : Int → Bool) (n : Nat)
  /-- an instance of the class at C, its dict at dx, its attributes -/
  | ins (C dx : Addr) (fs : List (Str × V))
  /-- the dict of the instance at x -/
  | own (x : Addr)
  /-- the dict of an exception -/
  | xd (fs : List (Str × V))
  /-- a bound method, f of x -/
  | met (f x : Addr)
  /-- a range object lo, lo + 1, .. below hi -/
  | rng (lo hi : Int)
  /-- a thing that is known to the object (the script; a dict while a loop walks it): read, never written while it is so -/
  | frz (o : Obj) (u : HO)
  /-- a code object's table -/
  | tbl (ps : Array Value)
  /-- any other thing, by what is true of its one object (a def of one's own: SetO a S n := HO.ext fun h => ..) -/
  | ext (φ : Heap → Prop)

abbrev Hp := Addr → Option HO
def upd (H : Hp) (a : Addr) (o : HO) : Hp := fun b => if b = a then some o else H b
theorem upd_same {H : Hp} {a : Addr} {o : HO} : upd H a o a = some o := by unfold upd; rw [if_pos rfl]
theorem upd_ne {H : Hp} {a b : Addr} {o : HO} (h : b ≠ a) : upd H a o b = H b := by unfold upd; rw [if_neg h]
/-- two objects of different content stand apart -/
theorem ne_of {H : Hp} {a b : Addr} {o u : HO} (h : H a = some o) (h' : H b = some u) (d : o ≠ u) : a ≠ b := by
  intro e; subst e; rw [h] at h'; exact d (Option.some.inj h')
theorem ne_of_none {H : Hp} {a b : Addr} {o : HO} (h : H a = some o) (h' : H b = none) : a ≠ b := by
  intro e; subst e; rw [h] at h'; cases h'

section
variable (P : Program) (w : World)
def ObjOk (H : Hp) (h : Heap) (a : Addr) : HO → Prop
  | .lst xs => xs.length ≤ sizeLine ∧ ∃ (its : List Value) (n : Nat), Vals xs its ∧ h.get? a = some { cls := .type "list", data := .seq its.toArray n }
  | .tup xs => xs.length ≤ sizeLine ∧ ∃ its : List Value, Vals xs its ∧ IsTup h a its.toArray
  | .dK kvs => kvs.length ≤ sizeLine ∧ (a == sysModules) = false ∧ ∃ vs, KV kvs vs ∧ h.DictOf (mixKind P w) a vs
  | .dT kvs => kvs.length ≤ sizeLine ∧ (a == sysModules) = false ∧ ∃ xs : List (List Key × Addr × Value),
      Paired (fun (p : List Key × V) (q : List Key × Addr × Value) => p.1 = q.1 ∧ H q.2.1 = some (.tup (p.1.map kV)) ∧ RelV p.2 q.2.2) kvs xs ∧
      ∃ o es ep, h.get? a = some o ∧ o.ExactDict ∧ o.data = .dict es ep ∧ es.toList = xs.map (entryOfKey (tupleKind (mixKind P w))) ∧ (xs.map (·.1)).Nodup
  | .set S n => h.SetOf (intKind P w) a S n
  | .ins C dx fs => H dx = some (.own a) ∧ fs.length ≤ 1000 ∧ dx ≠ a ∧ h.get? a = some (PySem.W.instObj C dx) ∧
      ∃ mA, h.Ns1 dx mA ∧ (∀ f, RelO (fs.lookup f) (mA f)) ∧ PySem.Within mA (fs.map (·.1))
  | .own _ => ∃ o, h.get? a = some o
  | .xd fs => ∃ mA, h.Ns1 a mA ∧ ∀ f, RelO (fs.lookup f) (mA f)
  | .rng lo hi => ∃ t u v, h.get? a = some { cls := .type "range", data := .fields #[.int lo t, .int hi u, .int 1 v] }
  | .frz o u => h.get? a = some o ∧ ObjOk H h a u
  | .tbl ps => h.get? a = some { cls := .none, data := .fields ps }
  | .met f x => h.get? a = some (PySem.W.methodObj (.ref f) (.ref x))
  | .ext φ => φ h ∧ (∃ o, h.get? a = some o) ∧ ∀ h1 h2 : Heap, φ h1 → (∀ o, h1.get? a = some o → h2.get? a = some o) → φ h2
/-- the abstract heap is held -/
def HOk (H : Hp) (h : Heap) : Prop := ∀ a o, H a = some o → ObjOk P w H h a o
end

section
variable {P : Program} {w : World} {H H' : Hp} {h h' : Heap} {a : Addr} {o : HO}
theorem ObjOk.lt (x : ObjOk P w H h a o) : a < h.objs.size := by
  cases o with
  | lst xs => obtain ⟨_, _, _, _, e⟩ := x; exact Heap.lt_size e
  | tup xs => obtain ⟨_, _, _, p⟩ := x; exact p.lt
  | dK kvs => obtain ⟨_, _, _, _, o, _, _, e, _⟩ := x; exact Heap.lt_size e
  | dT kvs => obtain ⟨_, _, _, _, o, _, _, e, _⟩ := x; exact Heap.lt_size e
  | set S n => obtain ⟨o, _, _, _, e, _⟩ := x; exact Heap.lt_size e
  | ins C dx fs => obtain ⟨_, _, _, e, _⟩ := x; exact Heap.lt_size e
  | own y => obtain ⟨_, e⟩ := x; exact Heap.lt_size e
  | xd fs => obtain ⟨_, ⟨_, _, _, e, _⟩, _⟩ := x; exact Heap.lt_size e
  | rng lo hi => obtain ⟨_, _, _, e⟩ := x; exact Heap.lt_size e
  | frz ob u => obtain ⟨e, _⟩ := x; exact Heap.lt_size e
  | tbl ps => exact Heap.lt_size (show h.get? a = some _ from x)
  | met f y => exact Heap.lt_size (show h.get? a = some _ from x)
  | ext φ => obtain ⟨_, ⟨_, e⟩, _⟩ := x; exact Heap.lt_size e
theorem Paired.mapP {α β : Type} {F G : α → β → Prop} : ∀ {l₁ : List α} {l₂ : List β}, Paired F l₁ l₂ → (∀ a b, F a b → G a b) → Paired G l₁ l₂
  | _, _, .nil, _ => .nil
  | _, _, .cons r t, f => .cons (f _ _ r) (Paired.mapP t f)
/-- what an object's description leans on: its own object, its own dict, the tuples -/
theorem ObjOk.stay (x : ObjOk P w H h a o) (k : ∀ b u, (b = a ∨ H b = some (.own a)) → h.get? b = some u → h'.get? b = some u)
    (ho : ∀ b, H b = some (.own a) → H' b = some (.own a)) (ht : ∀ b xs, H b = some (.tup xs) → H' b = some (.tup xs)) : ObjOk P w H' h' a o := by
  induction o with
  | lst xs => obtain ⟨z, its, n, r, e⟩ := x; exact ⟨z, its, n, r, k _ _ (.inl rfl) e⟩
  | tup xs => obtain ⟨z, its, r, ob, e, c⟩ := x; exact ⟨z, its, r, ob, k _ _ (.inl rfl) e, c⟩
  | dK kvs => obtain ⟨z, y, vs, r, ob, es, ep, e, c⟩ := x; exact ⟨z, y, vs, r, ob, es, ep, k _ _ (.inl rfl) e, c⟩
  | dT kvs =>
    obtain ⟨z, y, xs, r, ob, es, ep, e, c⟩ := x
    exact ⟨z, y, xs, Paired.mapP r fun p q z => ⟨z.1, ht _ _ z.2.1, z.2.2⟩, ob, es, ep, k _ _ (.inl rfl) e, c⟩
  | set S n => obtain ⟨ob, es, ep, t, e, c⟩ := x; exact ⟨ob, es, ep, t, k _ _ (.inl rfl) e, c⟩
  | ins C dx fs =>
    obtain ⟨d, z, ne, e, mA, ⟨od, es, ep, e2, c⟩, r⟩ := x
    exact ⟨ho _ d, z, ne, k _ _ (.inl rfl) e, mA, ⟨od, es, ep, k _ _ (.inr d) e2, c⟩, r⟩
  | own y => obtain ⟨ob, e⟩ := x; exact ⟨ob, k _ _ (.inl rfl) e⟩
  | xd fs => obtain ⟨mA, ⟨od, es, ep, e, c⟩, r⟩ := x; exact ⟨mA, ⟨od, es, ep, k _ _ (.inl rfl) e, c⟩, r⟩
  | rng lo hi => obtain ⟨t, u, v, e⟩ := x; exact ⟨t, u, v, k _ _ (.inl rfl) e⟩
  | frz ob u ih => obtain ⟨e, q⟩ := x; exact ⟨k _ _ (.inl rfl) e, ih q⟩
  | tbl ps =>
    have e : h.get? a = some { cls := .none, data := .fields ps } := x
    show h'.get? a = some { cls := .none, data := .fields ps }
    exact k a _ (.inl rfl) e
  | met f y =>
    have e : h.get? a = some (PySem.W.methodObj (.ref f) (.ref y)) := x
    show h'.get? a = some (PySem.W.methodObj (.ref f) (.ref y))
    exact k a _ (.inl rfl) e
  | ext φ => obtain ⟨p, ⟨o, e⟩, st⟩ := x; exact ⟨st _ _ p fun o q => k _ _ (.inl rfl) q, ⟨o, k _ _ (.inl rfl) e⟩, st⟩
theorem HOk.lt (x : HOk P w H h) (e : H a = some o) : a < h.objs.size := (x a o e).lt
theorem HOk.fresh (x : HOk P w H h) (e : h.objs.size ≤ a) : H a = none := by
  cases q : H a with
  | none => rfl
  | some u => exact absurd (Nat.lt_of_lt_of_le (x.lt q) e) (Nat.lt_irrefl _)
/-- every object of the heap is kept -/
theorem HOk.kept (x : HOk P w H h) (k : ∀ b u, h.get? b = some u → h'.get? b = some u) : HOk P w H h' := fun a o e =>
  (x a o e).stay (fun b u _ q => k b u q) (fun _ q => q) fun _ _ q => q
/-- a new object is laid and tracked -/
theorem HOk.laid (x : HOk P w H h) (k : ∀ b u, h.get? b = some u → h'.get? b = some u) (hp : h.objs.size ≤ a) (new : ObjOk P w (upd H a o) h' a o) : HOk P w (upd H a o) h' := fun b u e => by
  have hn := x.fresh hp
  by_cases hb : b = a
  · subst hb; rw [upd_same] at e; cases e; exact new
  · rw [upd_ne hb] at e
    exact (x b u e).stay (fun c v _ q => k c v q) (fun c q => by rw [upd_ne (ne_of_none q hn)]; exact q) fun c xs q => by rw [upd_ne (ne_of_none q hn)]; exact q
end

/-- what may be read as u: it is u, or a known u -/
def Rd (H : Hp) (a : Addr) (u : HO) : Prop := H a = some u ∨ ∃ o, H a = some (.frz o u)
theorem Rd.ok {P : Program} {w : World} {H : Hp} {h : Heap} {a : Addr} {u : HO} (r : Rd H a u) (x : HOk P w H h) : ObjOk P w H h a u := by
  rcases r with r | ⟨o, r⟩
  · exact x a u r
  · obtain ⟨_, q⟩ := x a _ r
    exact q
/-- what may be written -/
def Mut : Option HO → Prop
  | some (.lst _) => True
  | some (.dK _) => True
  | some (.dT _) => True
  | some (.set _ _) => True
  | some (.ins _ _ _) => True
  | some (.ext _) => True
  | _ => False
section
variable {P : Program} {w : World} {H : Hp} {h h' : Heap} {x e : Addr} {o' : HO}
/-- the object at e is changed: x itself, or the dict of the instance x -/
theorem HOk.write (ok : HOk P w H h) (mu : Mut (H x)) (he : e = x ∨ H e = some (.own x)) (k : ∀ b u, b ≠ e → h.get? b = some u → h'.get? b = some u) (heo : ∃ u, h'.get? e = some u)
    (new : ObjOk P w (upd H x o') h' x o') : HOk P w (upd H x o') h' := fun b u q => by
  have nown : ∀ c y, H c = some (.own y) → c ≠ x := fun c y r z => by subst z; rw [r] at mu; exact mu
  have ntup : ∀ c xs, H c = some (.tup xs) → c ≠ x := fun c xs r z => by subst z; rw [r] at mu; exact mu
  by_cases hb : b = x
  · subst hb; rw [upd_same] at q; cases q; exact new
  · rw [upd_ne hb] at q
    by_cases hbe : b = e
    · have q' : H b = some (.own x) := by
        rcases he with z | z
        · exact absurd (hbe.trans z) hb
        · rw [hbe]; exact z
      rw [q] at q'; cases q'
      obtain ⟨v, hv⟩ := heo
      exact ⟨v, by rw [hbe]; exact hv⟩
    · refine (ok b u q).stay (fun c v hc r => k c v ?_ r) (fun c r => by rw [upd_ne (nown c b r)]; exact r) fun c xs r => by rw [upd_ne (ntup c xs r)]; exact r
      rcases hc with rfl | hc
      · exact hbe
      · rintro rfl
        rcases he with z | z
        · exact nown c b hc z
        · rw [hc] at z; cases z; exact hb rfl
end

/-! ### kept unless tracked; of the frames at fs (the callers') the slots may change (an exception that passes writes there); of the records at ex (iterators) nothing is said -/
structure Un (fs ex : List Addr) (H H' : Hp) (h h' : Heap) : Prop where
  keep : ∀ b o, h.get? b = some o → H b = none → b ∉ fs → b ∉ ex → h'.get? b = some o
  slot : ∀ b o, h.get? b = some o → H b = none → b ∈ fs → b ∉ ex → ∃ sl, h'.get? b = some { o with slots := sl }
  free : ∀ b o, h.get? b = some o → H b = none → b ∉ ex → H' b = none
  there : ∀ b o, h.get? b = some o → b ∉ ex → ∃ o', h'.get? b = some o'
  tups : ∀ b xs, H b = some (.tup xs) → H' b = some (.tup xs)
  frzs : ∀ b o u, H b = some (.frz o u) → H' b = some (.frz o u)
  tbls : ∀ b ps, H b = some (.tbl ps) → ∃ more, H' b = some (.tbl (ps ++ more))
section
variable {fs fs' ex ex' : List Addr} {H H1 H2 : Hp} {h h1 h2 h' : Heap} {a x e : Addr} {o : HO}
theorem Un.any (u : Un fs ex H H1 h h1) {b : Addr} {ob : Obj} (q : h.get? b = some ob) (n : H b = none) (hx : b ∉ ex) : ∃ sl, h1.get? b = some { ob with slots := sl } := by
  by_cases hb : b ∈ fs
  · exact u.slot b ob q n hb hx
  · exact ⟨ob.slots, u.keep b ob q n hb hx⟩
theorem Un.kept (k : ∀ b u, h.get? b = some u → h'.get? b = some u) : Un fs ex H H h h' :=
  ⟨fun b ob q _ _ _ => k b ob q, fun b ob q _ _ _ => ⟨ob.slots, k b ob q⟩, fun _ _ _ n _ => n, fun b ob q _ => ⟨ob, k b ob q⟩, fun _ _ q => q, fun _ _ _ q => q, fun _ ps q => ⟨#[], by rw [q]; simp⟩⟩
theorem Un.refl : Un fs ex H H h h := Un.kept fun _ _ q => q
theorem Un.laid (k : ∀ b u, h.get? b = some u → h'.get? b = some u) (hp : h.objs.size ≤ a) (hn : H a = none) : Un fs ex H (upd H a o) h h' where
  keep := fun b u q _ _ _ => k b u q
  slot := fun b u q _ _ _ => ⟨u.slots, k b u q⟩
  free := fun b u q n _ => by rw [upd_ne (Nat.ne_of_lt (Nat.lt_of_lt_of_le (Heap.lt_size q) hp))]; exact n
  there := fun b u q _ => ⟨u, k b u q⟩
  tups := fun b xs q => by rw [upd_ne (ne_of_none q hn)]; exact q
  frzs := fun b u xs q => by rw [upd_ne (ne_of_none q hn)]; exact q
  tbls := fun b ps q => ⟨#[], by rw [upd_ne (ne_of_none q hn), q]; simp⟩
theorem Un.write (mu : Mut (H x)) (he : e = x ∨ H e = some (.own x)) (k : ∀ b u, b ≠ e → h.get? b = some u → h'.get? b = some u) (heo : ∃ u, h'.get? e = some u) : Un fs ex H (upd H x o) h h' := by
  have hx : ∀ b, H b = none → b ≠ x := fun b n z => by subst z; rw [n] at mu; exact mu
  have hb : ∀ b, H b = none → b ≠ e := fun b n z => by
    subst z
    rcases he with r | r
    · exact hx b n r
    · rw [n] at r; cases r
  have hm : ∀ b u, H b = some u → ¬ Mut (some u) → b ≠ x := fun b u q nm z => by subst z; rw [q] at mu; exact nm mu
  refine ⟨fun b u q n _ _ => k b u (hb b n) q, fun b u q n _ _ => ⟨u.slots, k b u (hb b n) q⟩, fun b u q n _ => by rw [upd_ne (hx b n)]; exact n, fun b u q _ => ?_,
    fun b xs q => by rw [upd_ne (hm b _ q fun z => z)]; exact q, fun b u xs q => by rw [upd_ne (hm b _ q fun z => z)]; exact q, fun b ps q => ⟨#[], by rw [upd_ne (hm b _ q fun z => z), q]; simp⟩⟩
  by_cases hbe : b = e
  · subst hbe; exact heo
  · exact ⟨u, k b u hbe q⟩
end

/-! ### the heap without what is tracked -/
def trk (h : Heap) (H : Hp) : List Addr := (List.range h.objs.size).filter fun a => (H a).isSome
def hidT (h : Heap) (H : Hp) : Heap := PySem.W.hideAll h (trk h H)
theorem hidT_size (h : Heap) (H : Hp) : (hidT h H).objs.size = h.objs.size := PySem.W.hideAll_size _ _
theorem hidT_get {h : Heap} {H : Hp} {b : Addr} {o : Obj} (e : h.get? b = some o) (n : H b = none) : (hidT h H).get? b = some o :=
  PySem.W.hideAll_get _ e fun hm => by
    have q : (H b).isSome = true := (List.mem_filter.mp hm).2
    rw [n] at q; simp at q
theorem of_hidT {h : Heap} {H : Hp} {b : Addr} {o : Obj} (e : (hidT h H).get? b = some o) : h.get? b = some o ∧ H b = none := by
  have e' : h.get? b = some o := PySem.W.of_hideAll (trk h H) e
  refine ⟨e', ?_⟩
  cases q : H b with
  | none => rfl
  | some x =>
    have hm : b ∈ trk h H := List.mem_filter.mpr ⟨List.mem_range.mpr (Heap.lt_size e'), by simp [q]⟩
    have z : (hidT h H).get? b = none := PySem.W.hideAll_none (trk h H) hm
    rw [z] at e; cases e

/-! ### OpenK's ledger, filled with every new object but one -/
end L2

namespace L2
open PySem PySem.Spec PyProof.Rows

/-- the module's facts, over the base: the heap at the law's entry without what is tracked there -/
structure Mod (K : PySem.W.Frag) (mg : Str → Option Value) (base : Heap) : Prop where
  kin : K.In base
  glob : base.Ns mainGlobals mg
  blt : ∃ mb, base.Ns builtinsNs mb ∧ ∀ x : Str, x ≠ "__name__" → mb x = bootBuiltins x
  nolimit : base.NoLimit

/-- the context: a def's body (or a comprehension's block) running. base: fixed through the whole law; s₀, H₀: the entry; outer: the frames whose slots others may change (a def's callers); stack: all frames that run;
   ex: iterators that were made ahead of the entry and are walked here (a comprehension's); fn: the names whose cells were made at the entry (a def: all; a comprehension's block: its own); calm: not within an except suite; pn: pins that every state bears; xe: what is wanted of an exception that leaves the code -/
structure Cx where
  prog : Program
  w : World
  K : PySem.W.Frag
  mg : Str → Option Value
  base : Heap
  A : Around
  N : List Str
  s₀ : Shared
  H₀ : Hp
  env : Env
  outer : List Env
  stack : List Env
  ex : List Addr
  fn : Str → Bool
  calm : Bool
  pn : List (Addr × Obj)
  xe : Value → Shared → Prop
/-- the callers' frames -/
def frs (l : List Env) : List Addr := l.filterMap (·.frame)
abbrev Cx.fs (X : Cx) : List Addr := frs X.outer

def Vis (sc : Scope) (x : Str) : Prop := sc.names.lookup x = some .local ∨ sc.names.lookup x = some .cell ∨ sc.names.lookup x = some .free
def Loc (sc : Scope) (x : Str) : Prop := sc.names.lookup x = some .local ∨ sc.names.lookup x = some .cell
def Look (env : Env) (h : Heap) (m : Str → Option Value) (x : Str) (u : Value) : Prop :=
  (env.kindOf x = some .local ∧ m x = some u) ∨ ((env.kindOf x = some .cell ∨ env.kindOf x = some .free) ∧ ∃ c, env.cells.lookup x = some c ∧ h.IsCell c (some u))

structure Cx.Ok (X : Cx) : Prop where
  mod : Mod X.K X.mg X.base
  kind : X.env.scope.kind = .function
  glob : X.env.globals = mainGlobals
  blt : X.env.builtins = builtinsNs
  above : X.s₀.heap.objs.size ≤ X.env.locals
  inj : ∀ x y c, X.env.cells.lookup x = some c → X.env.cells.lookup y = some c → x = y
  has : ∀ x, (X.env.kindOf x = some .cell ∨ X.env.kindOf x = some .free) → ∃ c, X.env.cells.lookup x = some c
  cab : ∀ x c, X.fn x = true → X.env.cells.lookup x = some c → X.s₀.heap.objs.size ≤ c
  hd : X.calm = true → X.A.handled = none
  frames : X.A.frames = some X.stack
  stk : X.stack = X.outer ∨ (X.stack = X.env :: X.outer ∧ X.env.frame = some X.env.locals)
  exf : ∀ b ∈ X.ex, b ≠ X.env.locals ∧ ∀ x c, X.env.cells.lookup x = some c → c ≠ b
  bs : ∀ b o, X.base.get? b = some o → X.s₀.heap.get? b = some o ∧ X.H₀ b = none
  bsz : X.base.objs.size ≤ X.s₀.heap.objs.size
  noex : ∀ b o, X.base.get? b = some o → b ∉ X.ex
  exfs : ∀ b ∈ X.ex, b ∉ X.fs
  funs : X.s₀.heap.FunFrames X.base X.outer
  frf : ∀ b ∈ X.fs, X.H₀ b = none

structure Inv (X : Cx) (pins : List (Addr × Obj)) (σ : List (Option V)) (H : Hp) (s : Shared) : Prop where
  ok : X.Ok
  os : s.os = X.s₀.os
  bare : AllBare s.gens
  base : Un X.fs X.ex X.H₀ H X.s₀.heap s.heap
  loc : ∃ m, s.heap.Ns X.env.locals m ∧ ∀ (i : Nat) (x : Str) (v : V), X.N[i]? = some x → σ[i]? = some (some v) → Vis X.env.scope x → ∃ u, RelV v u ∧ Look X.env s.heap m x u
  cell : ∀ x c, X.env.cells.lookup x = some c → ∃ v, s.heap.IsCell c v
  free : H X.env.locals = none
  freeC : ∀ x c, X.env.cells.lookup x = some c → H c = none
  pin : ∀ p ∈ X.pn ++ pins, s.heap.get? p.1 = some p.2 ∧ H p.1 = none ∧ p.1 ≠ X.env.locals ∧ p.1 ∉ X.fs ∧ ∀ v, p.2.data ≠ .cell v
  hok : HOk X.prog X.w H s.heap
  len : σ.length = X.N.length

section
variable {X : Cx} {pins : List (Addr × Obj)} {σ : List (Option V)} {H H' : Hp} {s : Shared} {h' : Heap}

theorem Cx.Ok.nofr (ok : X.Ok) {b : Addr} {o : Obj} (e : X.base.get? b = some o) : b ∉ X.fs := fun hb => by
  have := (ok.funs.mem hb).1
  rw [e] at this; cases this
theorem Inv.bs (I : Inv X pins σ H s) : ∀ b o, X.base.get? b = some o → s.heap.get? b = some o ∧ H b = none := fun b o e =>
  ⟨I.base.keep b o (I.ok.bs b o e).1 (I.ok.bs b o e).2 (I.ok.nofr e) (I.ok.noex b o e), I.base.free b o (I.ok.bs b o e).1 (I.ok.bs b o e).2 (I.ok.noex b o e)⟩
theorem Inv.bk (I : Inv X pins σ H s) : ∀ b o, X.base.get? b = some o → s.heap.get? b = some o := fun b o e => (I.bs b o e).1
theorem Inv.mod (I : Inv X pins σ H s) : Mod X.K X.mg X.base := I.ok.mod
theorem Inv.kIn (I : Inv X pins σ H s) : X.K.In s.heap := I.ok.mod.kin.keeps I.bk
theorem Inv.lt (I : Inv X pins σ H s) : X.env.locals < s.heap.objs.size := let ⟨_, hn, _⟩ := I.loc; hn.lt
theorem Inv.sz (I : Inv X pins σ H s) : X.s₀.heap.objs.size ≤ s.heap.objs.size := Nat.le_trans I.ok.above (Nat.le_of_lt I.lt)
theorem Inv.nofs (I : Inv X pins σ H s) {a : Addr} (h : s.heap.objs.size ≤ a) : a ∉ X.fs := fun hb => by
  obtain ⟨_, o, ho, _⟩ := I.ok.funs.mem hb
  exact absurd (Nat.lt_of_lt_of_le (Heap.lt_size ho) (Nat.le_trans I.sz h)) (Nat.lt_irrefl _)
theorem Inv.cne (I : Inv X pins σ H s) : ∀ x c, X.env.cells.lookup x = some c → c ≠ X.env.locals := fun x c e z => by
  obtain ⟨v, o, ho, hd⟩ := I.cell x c e
  obtain ⟨m, ⟨o', es, ep, ho', hd', _⟩, _⟩ := I.loc
  rw [z, ho'] at ho; cases ho; rw [hd'] at hd; cases hd
theorem Inv.funs (I : Inv X pins σ H s) : s.heap.FunFrames X.base X.outer := by
  have all : ∀ (l : List Env), (∀ b ∈ frs l, b ∈ X.fs) → X.s₀.heap.FunFrames X.base l → s.heap.FunFrames X.base l := by
    intro l
    induction l with
    | nil => intro _ _; trivial
    | cons env r ih =>
      intro hs hl
      obtain ⟨hk, ⟨L, o, hf, hn, ho, hd⟩, hr⟩ := hl
      have hL : L ∈ X.fs := hs L (by unfold frs; rw [List.filterMap_cons, hf]; exact List.mem_cons_self)
      obtain ⟨sl, e⟩ := I.base.slot L o ho (I.ok.frf L hL) hL fun z => I.ok.exfs L z hL
      exact ⟨hk, ⟨L, _, hf, hn, e, hd⟩, ih (fun b hb => hs b (by unfold frs; rw [List.filterMap_cons, hf]; exact List.mem_cons_of_mem _ hb)) hr⟩
  exact all X.outer (fun _ hb => hb) I.ok.funs

/-- the frames that run, for a call -/
theorem Inv.stack (I : Inv X pins σ H s) : s.heap.FunFrames X.base X.stack := by
  rcases I.ok.stk with e | ⟨e, hf⟩
  · rw [e]; exact I.funs
  · rw [e]
    obtain ⟨m, hn, _⟩ := I.loc
    refine .cons (by rw [I.ok.kind]; decide) hf hn ?_ I.funs
    exact Heap.get?_none_of_le (Nat.le_trans I.ok.bsz I.ok.above)
theorem Inv.stkSub (I : Inv X pins σ H s) : ∀ b ∈ frs X.stack, b ∈ X.env.locals :: X.fs := fun b hb => by
  rcases I.ok.stk with e | ⟨e, hf⟩
  · rw [e] at hb; exact List.mem_cons_of_mem _ hb
  · rw [e] at hb
    unfold frs at hb
    rw [List.filterMap_cons, hf] at hb
    exact hb
theorem Inv.stkFree (I : Inv X pins σ H s) : ∀ b ∈ frs X.stack, H b = none := fun b hb => by
  rcases List.mem_cons.mp (I.stkSub b hb) with e | hb
  · rw [e]; exact I.free
  · obtain ⟨_, o, ho, _⟩ := I.ok.funs.mem hb
    exact I.base.free b o ho (I.ok.frf b hb) fun z => I.ok.exfs b z hb

/-- THE STEP: the untracked objects but the frame and the records at ch are kept (the callers' frames up to slots), the frame's map is kept, the new abstract heap is held -/
theorem Inv.step {g' : Array GenState} {t' : Nat} {d' : Drawn} {ch : List Addr} (I : Inv X pins σ H s)
    (hch : ∀ b ∈ ch, (b ∈ X.ex ∨ X.s₀.heap.objs.size ≤ b) ∧ b ≠ X.env.locals ∧ (∀ x c, X.env.cells.lookup x = some c → c ≠ b) ∧ ∀ p ∈ X.pn ++ pins, p.1 ≠ b)
    (keep : ∀ b o, b ≠ X.env.locals → b ∉ X.fs → b ∉ ch → s.heap.get? b = some o → H b = none → h'.get? b = some o)
    (slot : ∀ b o, b ≠ X.env.locals → b ∈ X.fs → b ∉ ch → s.heap.get? b = some o → H b = none → ∃ sl, h'.get? b = some { o with slots := sl }) (free : ∀ b o, b ∉ ch → s.heap.get? b = some o → H b = none → H' b = none)
    (there : ∀ b o, b ∉ ch → s.heap.get? b = some o → ∃ o', h'.get? b = some o')
    (tups : ∀ b xs, H b = some (.tup xs) → H' b = some (.tup xs)) (frzs : ∀ b o u, H b = some (.frz o u) → H' b = some (.frz o u)) (tbls : ∀ b ps, H b = some (.tbl ps) → ∃ more, H' b = some (.tbl (ps ++ more)))
    (ns : ∀ m, s.heap.Ns X.env.locals m → h'.Ns X.env.locals m) (hok : HOk X.prog X.w H' h') (hg : AllBare g') :
    Inv X pins σ H' { s with heap := h', gens := g', drawn := d', toks := t' } := by
  have neL : ∀ b o, X.s₀.heap.get? b = some o → b ≠ X.env.locals := fun b o e => Nat.ne_of_lt (Nat.lt_of_lt_of_le (Heap.lt_size e) I.ok.above)
  have neC : ∀ b o, X.s₀.heap.get? b = some o → b ∉ X.ex → b ∉ ch := fun b o e hx hb => by
    rcases (hch b hb).1 with z | z
    · exact hx z
    · exact absurd (Nat.lt_of_lt_of_le (Heap.lt_size e) z) (Nat.lt_irrefl _)
  have cellK : ∀ x c, X.env.cells.lookup x = some c → ∀ v, s.heap.IsCell c v → h'.IsCell c v := fun x c e v ⟨o, ho, hd⟩ => by
    have nch : c ∉ ch := fun z => (hch c z).2.2.1 x c e rfl
    by_cases hc : c ∈ X.fs
    · obtain ⟨sl, q⟩ := slot c o (I.cne x c e) hc nch ho (I.freeC x c e)
      exact ⟨_, q, hd⟩
    · exact ⟨o, keep c o (I.cne x c e) hc nch ho (I.freeC x c e), hd⟩
  refine ⟨I.ok, I.os, hg, ⟨fun b o e n hb hx => ?_, fun b o e n hb hx => ?_, fun b o e n hx => ?_, fun b o e hx => ?_, fun b xs e => tups b xs (I.base.tups b xs e), fun b o xs e => frzs b o xs (I.base.frzs b o xs e), fun b ps e => ?_⟩, ?_, fun x c e => ?_, ?_, fun x c e => ?_, fun p hp => ?_, hok, I.len⟩
  · exact keep b o (neL b o e) hb (neC b o e hx) (I.base.keep b o e n hb hx) (I.base.free b o e n hx)
  · obtain ⟨sl, e1⟩ := I.base.slot b o e n hb hx
    obtain ⟨sl', e2⟩ := slot b _ (neL b o e) hb (neC b o e hx) e1 (I.base.free b o e n hx)
    exact ⟨sl', e2⟩
  · obtain ⟨o', e1⟩ := I.base.there b o e hx
    exact free b o' (neC b o e hx) e1 (I.base.free b o e n hx)
  · obtain ⟨o', e1⟩ := I.base.there b o e hx
    exact there b o' (neC b o e hx) e1
  · obtain ⟨m1, e1⟩ := I.base.tbls b ps e
    obtain ⟨m2, e2⟩ := tbls b _ e1
    exact ⟨m1 ++ m2, by rw [e2, Array.append_assoc]⟩
  · obtain ⟨m, hn, hl⟩ := I.loc
    refine ⟨m, ns m hn, fun i x v e1 e2 e3 => ?_⟩
    obtain ⟨u, r, l⟩ := hl i x v e1 e2 e3
    refine ⟨u, r, ?_⟩
    rcases l with l | ⟨k, c, e, z⟩
    · exact .inl l
    · exact .inr ⟨k, c, e, cellK x c e _ z⟩
  · obtain ⟨v, z⟩ := I.cell x c e
    exact ⟨v, cellK x c e v z⟩
  · obtain ⟨m, ⟨o, _, _, ho, _⟩, _⟩ := I.loc
    exact free _ o (fun z => (hch _ z).2.1 rfl) ho I.free
  · obtain ⟨v, o, ho, hd⟩ := I.cell x c e
    exact free c o (fun z => (hch c z).2.2.1 x c e rfl) ho (I.freeC x c e)
  · obtain ⟨e, n, ne, nf, d⟩ := I.pin p hp
    have nch : p.1 ∉ ch := fun z => (hch p.1 z).2.2.2 p hp rfl
    exact ⟨keep p.1 p.2 ne nf nch e n, free p.1 p.2 nch e n, ne, nf, d⟩
/-- .. where the frame's own object is kept too -/
theorem Inv.un {t' : Nat} (I : Inv X pins σ H s) (u : Un X.fs [] H H' s.heap h') (hok : HOk X.prog X.w H' h') : Inv X pins σ H' { s with heap := h', toks := t' } := by
  obtain ⟨m, ⟨o, es, ep, ho, r⟩, _⟩ := id I.loc
  obtain ⟨sl, hL⟩ := u.any ho I.free (by simp)
  exact I.step (g' := s.gens) (d' := s.drawn) (ch := []) (fun _ z => nomatch z) (fun b o _ hb _ e n => u.keep b o e n hb (by simp)) (fun b o _ hb _ e n => u.slot b o e n hb (by simp)) (fun b o _ e n => u.free b o e n (by simp)) (fun b o _ e => u.there b o e (by simp)) u.tups u.frzs u.tbls (fun m' hm => by
    obtain ⟨o', es', ep', ho', r'⟩ := hm
    rw [ho] at ho'; cases ho'
    exact ⟨_, es', ep', hL, r'⟩) hok I.bare
/-- behind a call (or a comprehension's block): the slots of this frame may have changed too, the records at ch may have turned -/
theorem Inv.call {g' : Array GenState} {t' : Nat} {d' : Drawn} {ch : List Addr} (I : Inv X pins σ H s) (u : Un (frs X.stack) ch H H' s.heap h') (hok : HOk X.prog X.w H' h') (hg : AllBare g')
    (hch : ∀ b ∈ ch, (b ∈ X.ex ∨ X.s₀.heap.objs.size ≤ b) ∧ b ≠ X.env.locals ∧ (∀ x c, X.env.cells.lookup x = some c → c ≠ b) ∧ ∀ p ∈ X.pn ++ pins, p.1 ≠ b) :
    Inv X pins σ H' { s with heap := h', gens := g', drawn := d', toks := t' } := by
  obtain ⟨m, ⟨o, es, ep, ho, r⟩, _⟩ := id I.loc
  obtain ⟨sl, hL⟩ := u.any ho I.free fun z => (hch _ z).2.1 rfl
  exact I.step (ch := ch) hch (fun b o hL hb hc e n => u.keep b o e n (fun z => (List.mem_cons.mp (I.stkSub b z)).elim hL hb) hc) (fun b o _ _ hc e n => u.any e n hc) (fun b o hc e n => u.free b o e n hc) (fun b o hc e => u.there b o e hc) u.tups u.frzs u.tbls (fun m' hm => by
    obtain ⟨o', es', ep', ho', r'⟩ := hm
    rw [ho] at ho'; cases ho'
    exact ⟨_, es', ep', hL, r'⟩) hok hg
/-- an untracked record of ours (an iterator) has turned -/
theorem Inv.turned {t' : Nat} {it : Addr} (I : Inv X pins σ H s) (k : ∀ b o, b ≠ it → s.heap.get? b = some o → h'.get? b = some o) (hn : H it = none) (hL : it ≠ X.env.locals)
    (h1 : it ∈ X.ex ∨ X.s₀.heap.objs.size ≤ it) (h2 : ∀ x c, X.env.cells.lookup x = some c → c ≠ it) (h3 : ∀ p ∈ X.pn ++ pins, p.1 ≠ it) : Inv X pins σ H { s with heap := h', toks := t' } := by
  have nit : ∀ b u, H b = some u → b ≠ it := fun b u e z => by rw [z, hn] at e; cases e
  refine I.step (g' := s.gens) (d' := s.drawn) (ch := [it]) (fun b hb => ?_) (fun b o _ _ hc e _ => k b o (fun z => hc (by simp [z])) e) (fun b o _ _ hc e _ => ⟨o.slots, k b o (fun z => hc (by simp [z])) e⟩) (fun _ _ _ _ n => n)
    (fun b o hc e => ⟨o, k b o (fun z => hc (by simp [z])) e⟩) (fun _ _ e => e) (fun _ _ _ e => e) (fun b ps e => ⟨#[], by rw [e]; simp⟩) (fun m hm => ?_) (fun b u e => ?_) I.bare
  · have e : b = it := by simpa using hb
    subst e
    exact ⟨h1, hL, h2, h3⟩
  · obtain ⟨o, es, ep, ho, r⟩ := hm
    exact ⟨o, es, ep, k _ o (Ne.symm hL) ho, r⟩
  · refine (I.hok b u e).stay (fun c v hc q => k c v ?_ q) (fun _ q => q) fun _ _ q => q
    rcases hc with z | z
    · rw [z]; exact nit b u e
    · exact nit c _ z
theorem Inv.tok (I : Inv X pins σ H s) (t : Nat) : Inv X pins σ H { s with toks := t } := I.un (h' := s.heap) (t' := t) Un.refl I.hok
/-- all objects kept -/
theorem Inv.kept {t' : Nat} (I : Inv X pins σ H s) (k : ∀ b u, s.heap.get? b = some u → h'.get? b = some u) : Inv X pins σ H { s with heap := h', toks := t' } := I.un (Un.kept k) (I.hok.kept k)
/-- a new object laid and tracked -/
theorem Inv.laid {a : Addr} {o : HO} {t' : Nat} (I : Inv X pins σ H s) (k : ∀ b u, s.heap.get? b = some u → h'.get? b = some u) (hp : s.heap.objs.size ≤ a) (new : ObjOk X.prog X.w (upd H a o) h' a o) :
    Inv X pins σ (upd H a o) { s with heap := h', toks := t' } := I.un (Un.laid k hp (I.hok.fresh hp)) (I.hok.laid k hp new)
/-- an object written -/
theorem Inv.write {x e : Addr} {o : HO} {t' : Nat} (I : Inv X pins σ H s) (mu : Mut (H x)) (he : e = x ∨ H e = some (.own x)) (k : ∀ b u, b ≠ e → s.heap.get? b = some u → h'.get? b = some u) (heo : ∃ u, h'.get? e = some u)
    (new : ObjOk X.prog X.w (upd H x o) h' x o) : Inv X pins σ (upd H x o) { s with heap := h', toks := t' } := I.un (Un.write mu he k heo) (I.hok.write mu he k heo new)
theorem Inv.pins_of {pins' : List (Addr × Obj)} (I : Inv X pins σ H s) (h : ∀ p ∈ pins', s.heap.get? p.1 = some p.2 ∧ H p.1 = none ∧ p.1 ≠ X.env.locals ∧ p.1 ∉ X.fs ∧ ∀ v, p.2.data ≠ .cell v) : Inv X pins' σ H s :=
  ⟨I.ok, I.os, I.bare, I.base, I.loc, I.cell, I.free, I.freeC, fun p hp => (List.mem_append.mp hp).elim (fun z => I.pin p (List.mem_append_left _ z)) (h p), I.hok, I.len⟩

theorem nodup_ix {N : List Str} (hN : N.Nodup) {i j : Nat} {x : Str} (a : N[i]? = some x) (b : N[j]? = some x) : i = j := by
  obtain ⟨h1, e1⟩ := List.getElem?_eq_some_iff.mp a
  obtain ⟨h2, e2⟩ := List.getElem?_eq_some_iff.mp b
  exact (List.getElem_inj hN).mp (e1.trans e2.symm)

/-- a name is stored; what changed -/
theorem store_ok2 {M : Model} {A : Around} {E : Value → Shared → Prop} {i : Nat} {x : Str} {v : V} {u : Value} {Q : Unit → Shared → Prop} (I : Inv X pins σ H s) (hN : X.N.Nodup) (hi : X.N[i]? = some x) (hx : Loc X.env.scope x) (r : RelV v u)
    (h : ∀ s', Inv X pins (σ.set i (some v)) H s' → (∃ a, Heap.SameBut a s.heap s'.heap ∧ (a = X.env.locals ∨ X.env.cells.lookup x = some a)) → Q () s') (hf : X.fn x = true ∨ X.env.scope.names.lookup x = some .local := by first | exact .inl rfl | exact .inr rfl | assumption) : wpAny M A (storeName X.env x u) Q E s := by
  obtain ⟨m, hn, hl⟩ := id I.loc
  have hcls : (X.env.scope.kind == .class || (X.env.scope.kind == .module && X.env.locals != X.env.globals)) = false := by rw [I.ok.kind]; rfl
  have hiσ : i < σ.length := by rw [I.len]; exact (List.getElem?_eq_some_iff.mp hi).1
  have cne := I.cne
  have tracked : ∀ {a : Addr} {h' : Heap}, (∃ o, s.heap.get? a = some o ∧ H a = none) → Heap.SameBut a s.heap h' → HOk X.prog X.w H h' := fun {a h'} ha hs b ob e => by
    obtain ⟨_, _, hfree⟩ := ha
    refine (I.hok b ob e).stay (fun c w' hc q => (hs.2 c ?_).trans q) (fun _ q => q) fun _ _ q => q
    rintro rfl
    rcases hc with rfl | hc
    · rw [hfree] at e; cases e
    · rw [hfree] at hc; cases hc
  rcases hx with hk | hk
  · refine wpAny_storeName_local hk hn (fun h' hn' hs => ?_) hcls
    obtain ⟨oL, _, _, hoL, _⟩ := id hn
    refine h _ ⟨I.ok, I.os, I.bare, ⟨fun b o e n hb hx => ?_, fun b o e n hb hx => ?_, I.base.free, fun b o e hx => ?_, I.base.tups, I.base.frzs, I.base.tbls⟩, ⟨_, hn', fun j y v' e1 e2 e3 => ?_⟩, fun y c e => ?_, I.free, I.freeC, fun p hp => ?_, tracked ⟨oL, hoL, I.free⟩ hs, by simpa using I.len⟩ ⟨_, hs, .inl rfl⟩
    · exact (hs.2 b (Nat.ne_of_lt (Nat.lt_of_lt_of_le (Heap.lt_size e) I.ok.above))).trans (I.base.keep b o e n hb hx)
    · obtain ⟨sl, e1⟩ := I.base.slot b o e n hb hx
      exact ⟨sl, (hs.2 b (Nat.ne_of_lt (Nat.lt_of_lt_of_le (Heap.lt_size e) I.ok.above))).trans e1⟩
    · obtain ⟨o', e1⟩ := I.base.there b o e hx
      exact ⟨o', (hs.2 b (Nat.ne_of_lt (Nat.lt_of_lt_of_le (Heap.lt_size e) I.ok.above))).trans e1⟩
    · by_cases hj : j = i
      · subst hj
        rw [hi] at e1; cases e1
        rw [List.getElem?_set_self hiσ] at e2
        cases e2
        exact ⟨u, r, .inl ⟨hk, by simp⟩⟩
      · rw [List.getElem?_set_ne (Ne.symm hj)] at e2
        obtain ⟨u', r', q⟩ := hl j y v' e1 e2 e3
        refine ⟨u', r', ?_⟩
        rcases q with ⟨k, e⟩ | ⟨k, c, e, z⟩
        · refine .inl ⟨k, ?_⟩
          have : y ≠ x := fun e => hj (nodup_ix hN e1 (e ▸ hi))
          simp [this, e]
        · exact .inr ⟨k, c, e, z.sameBut hs (cne y c e)⟩
    · obtain ⟨w', z⟩ := I.cell y c e
      exact ⟨w', z.sameBut hs (cne y c e)⟩
    · obtain ⟨e, n, ne, nf, d⟩ := I.pin p hp
      exact ⟨(hs.2 p.1 ne).trans e, n, ne, nf, d⟩
  · have hfn : X.fn x = true := by
      rcases hf with z | z
      · exact z
      · rw [z] at hk; cases hk
    obtain ⟨c, hc⟩ := I.ok.has x (.inl hk)
    obtain ⟨w', z⟩ := I.cell x c hc
    refine wpAny_storeName_cell I.ok.kind hk hc z (fun h' hc' hs => ?_)
    obtain ⟨oc, hoc, hocd⟩ := id z
    refine h { s with heap := h' } ⟨I.ok, I.os, I.bare, ⟨fun b o e n hb hx => ?_, fun b o e n hb hx => ?_, I.base.free, fun b o e hx => ?_, I.base.tups, I.base.frzs, I.base.tbls⟩, ⟨m, hn.sameBut hs (Ne.symm (cne x c hc)), fun j y v' e1 e2 e3 => ?_⟩, fun y c' e => ?_, I.free, I.freeC, fun p hp => ?_, tracked ⟨oc, hoc, I.freeC x c hc⟩ hs, by simpa using I.len⟩ ⟨c, hs, .inr hc⟩
    · exact (hs.2 b (Nat.ne_of_lt (Nat.lt_of_lt_of_le (Heap.lt_size e) (I.ok.cab x c hfn hc)))).trans (I.base.keep b o e n hb hx)
    · obtain ⟨sl, e1⟩ := I.base.slot b o e n hb hx
      exact ⟨sl, (hs.2 b (Nat.ne_of_lt (Nat.lt_of_lt_of_le (Heap.lt_size e) (I.ok.cab x c hfn hc)))).trans e1⟩
    · obtain ⟨o', e1⟩ := I.base.there b o e hx
      exact ⟨o', (hs.2 b (Nat.ne_of_lt (Nat.lt_of_lt_of_le (Heap.lt_size e) (I.ok.cab x c hfn hc)))).trans e1⟩
    · by_cases hj : j = i
      · subst hj
        rw [hi] at e1; cases e1
        rw [List.getElem?_set_self hiσ] at e2
        cases e2
        exact ⟨u, r, .inr ⟨.inl hk, c, hc, hc'⟩⟩
      · rw [List.getElem?_set_ne (Ne.symm hj)] at e2
        obtain ⟨u', r', q⟩ := hl j y v' e1 e2 e3
        refine ⟨u', r', ?_⟩
        rcases q with q | ⟨k, c', e, z'⟩
        · exact .inl q
        · refine .inr ⟨k, c', e, z'.sameBut hs ?_⟩
          rintro rfl
          exact hj (nodup_ix hN e1 (I.ok.inj _ _ _ e hc ▸ hi))
    · by_cases hcc : c' = c
      · subst hcc; exact ⟨_, hc'⟩
      · obtain ⟨w2, z2⟩ := I.cell y c' e
        exact ⟨w2, z2.sameBut hs hcc⟩
    · obtain ⟨e, n, ne, nf, d⟩ := I.pin p hp
      refine ⟨(hs.2 p.1 ?_).trans e, n, ne, nf, d⟩
      intro q
      rw [q, hoc] at e
      have q' : oc = p.2 := Option.some.inj e
      exact d w' (by rw [← q']; exact hocd)
theorem store_ok {M : Model} {A : Around} {E : Value → Shared → Prop} {i : Nat} {x : Str} {v : V} {u : Value} {Q : Unit → Shared → Prop} (I : Inv X pins σ H s) (hN : X.N.Nodup) (hi : X.N[i]? = some x) (hx : Loc X.env.scope x) (r : RelV v u)
    (h : ∀ s', Inv X pins (σ.set i (some v)) H s' → Q () s') (hf : X.fn x = true ∨ X.env.scope.names.lookup x = some .local := by first | exact .inl rfl | exact .inr rfl | assumption) : wpAny M A (storeName X.env x u) Q E s :=
  store_ok2 I hN hi hx r (fun s' I' _ => h s' I') hf
/-- behind a call or a block, the state as it is -/
theorem Inv.call' {s' : Shared} {ch : List Addr} (I : Inv X pins σ H s) (ho : s'.os = s.os) (u : Un (frs X.stack) ch H H' s.heap s'.heap) (hok : HOk X.prog X.w H' s'.heap) (hg : AllBare s'.gens)
    (hch : ∀ b ∈ ch, (b ∈ X.ex ∨ X.s₀.heap.objs.size ≤ b) ∧ b ≠ X.env.locals ∧ (∀ x c, X.env.cells.lookup x = some c → c ≠ b) ∧ ∀ p ∈ X.pn ++ pins, p.1 ≠ b) : Inv X pins σ H' s' := by
  obtain ⟨h', g', d', t', o'⟩ := s'
  have e : o' = s.os := ho
  subst e
  exact I.call (g' := g') (t' := t') (d' := d') u hok hg hch
end

/-! ### the judgements -/
/-- an exception: its class, its own dict's address (where it has one), the abstract heap behind it -/
abbrev XK := Value → Option Addr → Hp → Prop
abbrev St := List (Option V)
abbrev VK := V → Hp → Prop
/-- an expression's reading; a test's; an argument list's -/
abbrev TE := St → Hp → VK → Prop
abbrev TT := St → Hp → (Bool → Hp → Prop) → Prop
abbrev TA := St → Hp → (List V → Hp → Prop) → Prop
/-- what is wanted behind a statement -/
structure Ends where
  nx : St → Hp → Prop
  rt : VK
  bk : St → Hp → Prop := fun _ _ => False
  ct : St → Hp → Prop := fun _ _ => False
abbrev TS := Ends → St → Hp → Prop

def EP (X : Cx) (pins : List (Addr × Obj)) (σ : St) (Q : VK) (u : Value) (s' : Shared) : Prop := ∃ v H', Inv X pins σ H' s' ∧ RelV v u ∧ Q v H'
def TP (X : Cx) (pins : List (Addr × Obj)) (σ : St) (Q : Bool → Hp → Prop) (b : Bool) (s' : Shared) : Prop := ∃ H', Inv X pins σ H' s' ∧ Q b H'
def AP (X : Cx) (pins : List (Addr × Obj)) (σ : St) (Q : List V → Hp → Prop) (us : List Value) (s' : Shared) : Prop := ∃ vs H', Inv X pins σ H' s' ∧ Vals vs us ∧ Q vs H'
def SP (X : Cx) (pins : List (Addr × Obj)) (D : Ends) (f : Flow) (s' : Shared) : Prop :=
  match f with
  | .next => ∃ σ' H', Inv X pins σ' H' s' ∧ D.nx σ' H'
  | .brk => ∃ σ' H', Inv X pins σ' H' s' ∧ D.bk σ' H'
  | .cont => ∃ σ' H', Inv X pins σ' H' s' ∧ D.ct σ' H'
  | .ret u => ∃ v σ' H', Inv X pins σ' H' s' ∧ RelV v u ∧ D.rt v H'

def PE (X : Cx) (e : Expr) (t : TE) : Prop :=
  ∀ (pins : List (Addr × Obj)) (s : Shared) (σ : St) (H : Hp) (Q : VK), Inv X pins σ H s → t σ H Q → wpAny (model X.prog X.w) X.A (eval e X.env) (EP X pins σ Q) X.xe s
def PT (X : Cx) (e : Expr) (t : TT) : Prop :=
  ∀ (pins : List (Addr × Obj)) (s : Shared) (σ : St) (H : Hp) (Q : Bool → Hp → Prop), Inv X pins σ H s → t σ H Q → wpAny (model X.prog X.w) X.A (isTrue e X.env (eval e X.env)) (TP X pins σ Q) X.xe s
/-- a test whatever its 'whole' is (and, or) -/
def PW (X : Cx) (e : Expr) (t : TT) : Prop :=
  ∀ (whole : Sem Value) (pins : List (Addr × Obj)) (s : Shared) (σ : St) (H : Hp) (Q : Bool → Hp → Prop), Inv X pins σ H s → t σ H Q → wpAny (model X.prog X.w) X.A (isTrue e X.env whole) (TP X pins σ Q) X.xe s
theorem PW.pt {X : Cx} {e : Expr} {t : TT} (h : PW X e t) : PT X e t := h _
/-- an argument list (no star), from the left -/
def PA (X : Cx) (es : List Expr) (t : TA) : Prop :=
  ∀ (pos : Pos) (pins : List (Addr × Obj)) (s : Shared) (σ : St) (H : Hp) (Q : List V → Hp → Prop), Inv X pins σ H s → t σ H Q → wpAny (model X.prog X.w) X.A (spliced (backTo pos (starEach es X.env))) (AP X pins σ Q) X.xe s
def PS (X : Cx) (st : Stmt) (t : TS) : Prop :=
  ∀ (pins : List (Addr × Obj)) (s : Shared) (σ : St) (H : Hp) (D : Ends), Inv X pins σ H s → t D σ H → wpAny (model X.prog X.w) X.A (exec st X.env) (SP X pins D) X.xe s
def PSs (X : Cx) (st : List Stmt) (t : TS) : Prop :=
  ∀ (pins : List (Addr × Obj)) (s : Shared) (σ : St) (H : Hp) (D : Ends), Inv X pins σ H s → t D σ H → wpAny (model X.prog X.w) X.A (execs st X.env) (SP X pins D) X.xe s
/-- weaken the end -/
theorem thn {α : Type} {t : Sem α} {Q Q' : α → Shared → Prop} {M : Model} {A : Around} {E : Value → Shared → Prop} {s : Shared} (h : wpAny M A t Q E s) (hQ : ∀ a s, Q a s → Q' a s) : wpAny M A t Q' E s := wpAny_mono h hQ fun _ _ x => x
end L2

namespace L2
open PySem PySem.Spec PyProof.Rows
section
variable {X : Cx}

/-! ### names and constants -/
def tVar (i : Nat) : TE := fun σ H Q => ∃ v, σ[i]? = some (some v) ∧ Q v H
def tC (v : V) : TE := fun _ H Q => Q v H
theorem pe_var {i : Nat} {x : Str} {pos : Pos} (hN : X.N[i]? = some x) (hv : Vis X.env.scope x) (hd : (x == ("__debug__" : Str)) = false := by decide) (hcd : (x == ("__classdict__" : Str)) = false := by decide) : PE X (.Name x pos) (tVar i) := by
  intro pins s σ H Q I h
  obtain ⟨v, e, h⟩ := h
  obtain ⟨m, hn, hl⟩ := I.loc
  obtain ⟨u, r, l⟩ := hl i x v hN e hv
  have fin : EP X pins σ Q u s := ⟨v, H, I, r, h⟩
  rcases l with ⟨hk, hm⟩ | ⟨hk, c, hc, hcell⟩
  · exact wpAny_Name (wpAny_loadName_local I.ok.kind hk hn hm fin) hd
  · rcases hk with hk | hk
    · exact wpAny_Name (wpAny_loadName_cell I.ok.kind hk hc hcell fin) hd
    · exact wpAny_Name (wpAny_loadName_free I.ok.kind hk hc hcell fin hcd) hd
theorem pe_int {i j pos} : PE X (.Constant (.int i) j pos) (tC (.int i)) := fun _ _ _ H _ I h => wpAny_Constant_int ⟨.int i, H, I.tok _, ⟨_, rfl⟩, h⟩
theorem pe_bl {b j pos} : PE X (.Constant (.bool b) j pos) (tC (.bl b)) := fun _ _ _ H _ I h => Constant_bool ⟨.bl b, H, I, rfl, h⟩
theorem pe_non {j pos} : PE X (.Constant .none j pos) (tC .non) := fun _ _ _ H _ I h => Constant_none ⟨.non, H, I, rfl, h⟩
theorem pe_str {x j pos} : PE X (.Constant (.str x) j pos) (tC (.str x)) := fun _ _ _ H _ I h => Calls.Constant_str ⟨.str x, H, I.tok _, ⟨_, rfl⟩, h⟩

/-- a global name of the def -/
def Gl (X : Cx) (x : Str) : Prop := X.env.kindOf x = some .globalImplicit
theorem ld_glob {E : Value → Shared → Prop} {pins : List (Addr × Obj)} {s : Shared} {σ : St} {H : Hp} {x : Str} {u : Value} {pos : Pos} {Q : Value → Shared → Prop} (I : Inv X pins σ H s) (hg : Gl X x) (hm : X.mg x = some u) (h : Q u s)
    (hd : (x == ("__debug__" : Str)) = false := by decide) : wpAny (model X.prog X.w) X.A (eval (.Name x pos) X.env) Q E s :=
  Calls.Name_function_global I.ok.kind hg (Calls.loadGlobal_global (by rw [I.ok.glob]; exact I.mod.glob.keeps I.bk) hm h) hd
theorem ld_blt {E : Value → Shared → Prop} {pins : List (Addr × Obj)} {s : Shared} {σ : St} {H : Hp} {x : Str} {u : Value} {pos : Pos} {Q : Value → Shared → Prop} (I : Inv X pins σ H s) (hg : Gl X x) (hm : X.mg x = none) (hv : bootBuiltins x = some u) (h : Q u s)
    (hn : x ≠ "__name__" := by decide) (hd : (x == ("__debug__" : Str)) = false := by decide) : wpAny (model X.prog X.w) X.A (eval (.Name x pos) X.env) Q E s := by
  obtain ⟨mb, h1, h2⟩ := I.mod.blt
  exact Calls.Name_function_global I.ok.kind hg (Calls.loadGlobal_builtin (by rw [I.ok.glob]; exact I.mod.glob.keeps I.bk) hm (by rw [I.ok.blt]; exact h1.keeps I.bk) ((h2 x hn).trans hv) h) hd
theorem pe_bltn {x : Str} {v : V} {u : Value} {pos : Pos} (hg : Gl X x) (hm : X.mg x = none) (hv : bootBuiltins x = some u) (r : RelV v u) (hn : x ≠ "__name__" := by decide) (hd : (x == ("__debug__" : Str)) = false := by decide) : PE X (.Name x pos) (tC v) :=
  fun _ _ _ H _ I h => ld_blt I hg hm hv ⟨v, H, I, r, h⟩ hn hd

/-! ### arithmetic -/
variable {a b : Expr} {ta tb : TE} {pos : Pos}
/-! ### comparisons -/
/-- a comparison as a value, as a test -/
def tB (t : TE) : TT := fun σ H Q => t σ H fun x H1 => ∃ c, x = .bl c ∧ Q c H1
/-- an expression whose value is a bool, as a test -/
theorem pt_val {e : Expr} {t : TE} (h : PE X e t) (he : ∀ whole, isTrue e X.env whole = (do let v ← whole; standAt e.pos; holding [v] (truthy v)) := by intro _; rfl) : PT X e (tB t) := by
  intro pins s σ H Q I hw
  refine isTrue_plain (thn (h pins s σ H _ I hw) fun v s1 ⟨x, H1, I1, r1, q1⟩ => ?_) (he _)
  obtain ⟨d, rfl, q⟩ := q1
  cases r1
  exact wpAny_truthy_bool ⟨H1, I1, q⟩

/-! ### and, or, not -/
variable {tA tB' : TT} {rest : List Expr}
def tAnd (t u : TT) : TT := fun σ H Q => t σ H fun c H1 => if c = true then u σ H1 Q else Q false H1
def tOr (t u : TT) : TT := fun σ H Q => t σ H fun c H1 => if c = true then Q true H1 else u σ H1 Q
def tNot (t : TT) : TT := fun σ H Q => t σ H fun c H1 => Q (!c) H1
theorem pw_and1 (ha : PT X a tA) : PW X (.BoolOp .And [a] pos) tA := by
  intro wh pins s σ H Q I h
  refine isTrue_and (thn (ha pins s σ H Q I h) fun c s1 e => ?_)
  cases c with
  | true => exact isTrue_and_nil e
  | false => exact e
theorem pw_or1 (ha : PT X a tA) : PW X (.BoolOp .Or [a] pos) tA := by
  intro wh pins s σ H Q I h
  refine isTrue_or (thn (ha pins s σ H Q I h) fun c s1 e => ?_)
  cases c with
  | false => exact isTrue_or_nil e
  | true => exact e
theorem pw_and (ha : PT X a tA) (hb : PW X (.BoolOp .And (b :: rest) pos) tB') : PW X (.BoolOp .And (a :: b :: rest) pos) (tAnd tA tB') := by
  intro wh pins s σ H Q I h
  refine isTrue_and (thn (ha pins s σ H _ I h) fun c s1 ⟨H1, I1, q1⟩ => ?_)
  cases c with
  | true => exact hb wh pins s1 σ H1 Q I1 q1
  | false => exact ⟨H1, I1, q1⟩
theorem pw_or (ha : PT X a tA) (hb : PW X (.BoolOp .Or (b :: rest) pos) tB') : PW X (.BoolOp .Or (a :: b :: rest) pos) (tOr tA tB') := by
  intro wh pins s σ H Q I h
  refine isTrue_or (thn (ha pins s σ H _ I h) fun c s1 ⟨H1, I1, q1⟩ => ?_)
  cases c with
  | true => exact ⟨H1, I1, q1⟩
  | false => exact hb wh pins s1 σ H1 Q I1 q1
theorem pt_not (ha : PT X a tA) : PT X (.UnaryOp .Not a pos) (tNot tA) := by
  intro pins s σ H Q I h
  exact isTrue_not (ha pins s σ H (fun c H1 => Q (!c) H1) I h)
/-- .. as values (bools) -/
def tAndV (ta tb : TE) : TE := fun σ H Q => ta σ H fun x H1 => ∃ c, x = .bl c ∧ if c = true then tb σ H1 Q else Q (.bl false) H1
def tOrV (ta tb : TE) : TE := fun σ H Q => ta σ H fun x H1 => ∃ c, x = .bl c ∧ if c = true then Q (.bl true) H1 else tb σ H1 Q
def tNotV (ta : TE) : TE := fun σ H Q => ta σ H fun x H1 => ∃ c, x = .bl c ∧ Q (.bl (!c)) H1
theorem pe_one {op} {t : TE} (h : PE X a t) : PE X (.BoolOp op [a] pos) t := fun pins s σ H Q I hw => BoolOp_one (h pins s σ H Q I hw)
theorem pe_and (ha : PE X a ta) (hb : PE X (.BoolOp .And (b :: rest) pos) tb) : PE X (.BoolOp .And (a :: b :: rest) pos) (tAndV ta tb) := by
  intro pins s σ H Q I h
  refine BoolOp_and (thn (ha pins s σ H _ I h) fun v s1 ⟨x, H1, I1, r1, q1⟩ => ?_)
  obtain ⟨c, rfl, q1⟩ := q1
  cases r1
  refine wpAny_truthy_bool ?_
  cases c with
  | true => exact hb pins s1 σ H1 Q I1 q1
  | false => exact ⟨.bl false, H1, I1, rfl, q1⟩
theorem pe_or (ha : PE X a ta) (hb : PE X (.BoolOp .Or (b :: rest) pos) tb) : PE X (.BoolOp .Or (a :: b :: rest) pos) (tOrV ta tb) := by
  intro pins s σ H Q I h
  refine BoolOp_or (thn (ha pins s σ H _ I h) fun v s1 ⟨x, H1, I1, r1, q1⟩ => ?_)
  obtain ⟨c, rfl, q1⟩ := q1
  cases r1
  refine wpAny_truthy_bool ?_
  cases c with
  | false => exact hb pins s1 σ H1 Q I1 q1
  | true => exact ⟨.bl true, H1, I1, rfl, q1⟩
theorem pe_not (ha : PE X a ta) : PE X (.UnaryOp .Not a pos) (tNotV ta) := by
  intro pins s σ H Q I h
  refine UnaryOp_ (thn (ha pins s σ H _ I h) fun v s1 ⟨x, H1, I1, r1, q1⟩ => ?_)
  obtain ⟨c, rfl, q1⟩ := q1
  cases r1
  exact not_of (wpAny_truthy_bool ⟨.bl (!c), H1, I1, rfl, q1⟩)
end
end L2

namespace L2
open PySem PySem.Spec PyProof.Rows

/-! ### a list, a tuple that is read: tracked, frozen, or an object of the module -/
def SqL (K : PySem.W.Frag) (H : Hp) (a : Addr) (xs : List V) : Prop :=
  Rd H a (.lst xs) ∨
    ∃ (o : Obj) (its : Array Value) (n : Nat), K.lookup a = some o ∧ o.cls = .type "list" ∧ o.dict = none ∧ o.data = .seq its n ∧ its.size ≤ sizeLine ∧ Vals xs its.toList
def SqT (K : PySem.W.Frag) (H : Hp) (a : Addr) (xs : List V) : Prop :=
  Rd H a (.tup xs) ∨
    ∃ (o : Obj) (its : Array Value) (n : Nat), K.lookup a = some o ∧ o.cls = .type "tuple" ∧ o.data = .seq its n ∧ its.size ≤ sizeLine ∧ Vals xs its.toList
def absV : Value → Option V
  | .none => some .non
  | .bool b => some (.bl b)
  | .int i _ => some (.int i)
  | .str x _ => some (.str x)
  | .bytes b _ => some (.byt b)
  | .float b _ => some (.flt b)
  | .ref a => some (.ref a)
  | .type n => some (.ty n)
  | _ => none
theorem RelV.abs {x : V} {u : Value} (r : RelV x u) : absV u = some x := by
  cases x with
  | non => cases r; rfl
  | bl _ => cases r; rfl
  | int _ => obtain ⟨t, rfl⟩ := r; rfl
  | str _ => obtain ⟨t, rfl⟩ := r; rfl
  | byt _ => obtain ⟨t, rfl⟩ := r; rfl
  | flt _ => obtain ⟨t, rfl⟩ := r; rfl
  | ref _ => cases r; rfl
  | ty _ => cases r; rfl
theorem RelV.inj {x y : V} {u : Value} (r : RelV x u) (q : RelV y u) : x = y := Option.some.inj (r.abs.symm.trans q.abs)
theorem Vals.inj : ∀ {xs ys : List V} {us : List Value}, Vals xs us → Vals ys us → xs = ys
  | _, _, _, .nil, .nil => rfl
  | _, _, _, .cons r t, .cons r' t' => by rw [r.inj r', Vals.inj t t']
section
variable {X : Cx} {pins : List (Addr × Obj)} {σ : St} {H : Hp} {s : Shared} {a : Addr} {xs ys : List V}
theorem SqL.of {K : PySem.W.Frag} (h : H a = some (.lst xs)) : SqL K H a xs := .inl (.inl h)
theorem Inv.list (I : Inv X pins σ H s) (h : SqL X.K H a xs) : ∃ its : List Value, Vals xs its ∧ PlainL s.heap a its.toArray ∧ xs.length ≤ sizeLine := by
  rcases h with h | ⟨o, its, n, hk, hc, hd, hs, hz, r⟩
  · obtain ⟨z, its, n, r, e⟩ := h.ok I.hok
    exact ⟨its, r, ⟨_, n, e, rfl, rfl, rfl⟩, z⟩
  · refine ⟨its.toList, r, ⟨o, n, I.kIn a o hk, hc, hd, by simpa using hs⟩, ?_⟩
    have e := r.length
    simp only [Array.length_toList] at e
    omega
theorem Inv.tuple (I : Inv X pins σ H s) (h : SqT X.K H a xs) : ∃ its : List Value, Vals xs its ∧ IsTup s.heap a its.toArray ∧ xs.length ≤ sizeLine := by
  rcases h with h | ⟨o, its, n, hk, hc, hs, hz, r⟩
  · obtain ⟨z, its, r, p⟩ := h.ok I.hok
    exact ⟨its, r, p, z⟩
  · refine ⟨its.toList, r, ⟨o, I.kIn a o hk, hc, n, by simpa using hs⟩, ?_⟩
    have e := r.length
    simp only [Array.length_toList] at e
    omega
theorem Inv.list_inj (I : Inv X pins σ H s) (h : SqL X.K H a xs) (h' : SqL X.K H a ys) : xs = ys := by
  obtain ⟨its, r, ⟨o, n, e, _, _, d⟩, _⟩ := I.list h
  obtain ⟨its', r', ⟨o', n', e', _, _, d'⟩, _⟩ := I.list h'
  rw [e] at e'; cases e'
  rw [d] at d'
  injection d' with d1 _
  have : its = its' := by simpa using congrArg Array.toList d1
  subst this
  exact r.inj r'
theorem Inv.tuple_inj (I : Inv X pins σ H s) (h : SqT X.K H a xs) (h' : SqT X.K H a ys) : xs = ys := by
  obtain ⟨its, r, ⟨o, e, _, n, d⟩, _⟩ := I.tuple h
  obtain ⟨its', r', ⟨o', e', _, n', d'⟩, _⟩ := I.tuple h'
  rw [e] at e'; cases e'
  rw [d] at d'
  injection d' with d1 _
  have : its = its' := by simpa using congrArg Array.toList d1
  subst this
  exact r.inj r'
end

/-! ### another wish about exceptions -/
abbrev Cx.wish (X : Cx) (E : Value → Shared → Prop) : Cx := { X with xe := E }
/-- no exception leaves -/
abbrev Cx.nox (X : Cx) : Cx := X.wish fun _ _ => False
theorem Cx.Ok.wish {X : Cx} (ok : X.Ok) (E : Value → Shared → Prop) : (X.wish E).Ok :=
  ⟨ok.mod, ok.kind, ok.glob, ok.blt, ok.above, ok.inj, ok.has, ok.cab, ok.hd, ok.frames, ok.stk, ok.exf, ok.bs, ok.bsz, ok.noex, ok.exfs, ok.funs, ok.frf⟩
theorem Cx.Ok.unwish {X : Cx} {E : Value → Shared → Prop} (ok : (X.wish E).Ok) : X.Ok :=
  ⟨ok.mod, ok.kind, ok.glob, ok.blt, ok.above, ok.inj, ok.has, ok.cab, ok.hd, ok.frames, ok.stk, ok.exf, ok.bs, ok.bsz, ok.noex, ok.exfs, ok.funs, ok.frf⟩
section
variable {X : Cx} {pins : List (Addr × Obj)} {σ : St} {H : Hp} {s : Shared} {E : Value → Shared → Prop}
theorem Inv.wish (I : Inv X pins σ H s) (E : Value → Shared → Prop) : Inv (X.wish E) pins σ H s := ⟨I.ok.wish E, I.os, I.bare, I.base, I.loc, I.cell, I.free, I.freeC, I.pin, I.hok, I.len⟩
theorem Inv.unwish (I : Inv (X.wish E) pins σ H s) : Inv X pins σ H s := ⟨I.ok.unwish, I.os, I.bare, I.base, I.loc, I.cell, I.free, I.freeC, I.pin, I.hok, I.len⟩
theorem SP.unwish {D : Ends} {f : Flow} {s' : Shared} (h : SP (X.wish E) pins D f s') : SP X pins D f s' := by
  cases f with
  | next => obtain ⟨σ', H', I, q⟩ := h; exact ⟨σ', H', I.unwish, q⟩
  | brk => obtain ⟨σ', H', I, q⟩ := h; exact ⟨σ', H', I.unwish, q⟩
  | cont => obtain ⟨σ', H', I, q⟩ := h; exact ⟨σ', H', I.unwish, q⟩
  | ret u => obtain ⟨v, σ', H', I, r, q⟩ := h; exact ⟨v, σ', H', I.unwish, r, q⟩
theorem PSs.nox {st : List Stmt} {t : TS} (h : PSs X.nox st t) : PSs X st t := fun pins s σ H D I hw =>
  wpAny_mono (h pins s σ H D (I.wish _) hw) (fun _ _ q => q.unwish) fun _ _ z => False.elim z
end

/-! ### blocks and small statements -/
section
variable {X : Cx} {st : Stmt} {rest : List Stmt} {t u : TS} {e : Expr} {te : TE} {pos : Pos}
def tNext : TS := fun D σ H => D.nx σ H
def tSeq (t u : TS) : TS := fun D σ H => t { D with nx := u D } σ H
theorem pss_nil : PSs X [] tNext := fun _ _ σ H _ I h => wpAny_execs_nil ⟨σ, H, I, h⟩
theorem pss_cons (h1 : PS X st t) (h2 : PSs X rest u) : PSs X (st :: rest) (tSeq t u) := by
  intro pins s σ H D I h
  refine wpAny_execs_cons (thn (h1 pins s σ H { D with nx := u D } I h) fun f s1 q => ?_)
  cases f with
  | next =>
    obtain ⟨σ', H', I', q⟩ := q
    exact h2 pins s1 σ' H' D I' q
  | ret v => exact q
  | brk => exact q
  | cont => exact q
theorem pss_one (h1 : PS X st t) : PSs X [st] t := by
  intro pins s σ H D I h
  refine wpAny_execs_cons (thn (h1 pins s σ H D I h) fun f s1 q => ?_)
  cases f with
  | next => exact wpAny_execs_nil q
  | ret v => exact q
  | brk => exact q
  | cont => exact q
/-- in a def's body nothing is shown -/
theorem Inv.quiet {pins : List (Addr × Obj)} {σ : St} {H : Hp} {s : Shared} (I : Inv X pins σ H s) : interactive X.env = false := by simp [interactive, I.ok.kind]
/-- an expression whose value is dropped -/
def tDrop (te : TE) : TS := fun D σ H => te σ H fun _ H1 => D.nx σ H1
theorem ps_expr (he : PE X e te) (hs : swapsWith e none pos.line X.env = pure false := by rfl) : PS X (.Expr e pos) (tDrop te) := by
  intro pins s σ H D I h
  exact wpAny_Expr_any (thn (he pins s σ H _ I h) fun v s1 ⟨x, H1, I1, r1, q1⟩ => ⟨σ, H1, I1, q1⟩) I.quiet hs
def tRet (te : TE) : TS := fun D σ H => te σ H D.rt
theorem ps_ret (he : PE X e te) : PS X (.Return (some e) pos) (tRet te) := by
  intro pins s σ H D I h
  exact wpAny_Return_some (thn (he pins s σ H _ I h) fun v s1 ⟨x, H1, I1, r1, q1⟩ => ⟨x, σ, H1, I1, r1, q1⟩)
def tIfS (c : TT) (t u : TS) : TS := fun D σ H => c σ H fun b H1 => if b = true then t D σ H1 else u D σ H1
theorem ps_if {c : Expr} {a b : List Stmt} {tc : TT} (hc : PT X c tc) (ha : PSs X a t) (hb : PSs X b u) : PS X (.If c a b pos) (tIfS tc t u) := by
  intro pins s σ H D I h
  refine wpAny_If (thn (hc pins s σ H _ I h) fun d s1 ⟨H1, I1, q1⟩ => ?_)
  cases d with
  | true => exact ha pins s1 σ H1 D I1 q1
  | false => exact hb pins s1 σ H1 D I1 q1
/-- code that the proof never comes to -/
def tNever : TS := fun _ _ _ => False
theorem pss_never {sts : List Stmt} : PSs X sts tNever := fun _ _ _ _ _ _ h => h.elim
end

/-! ### targets -/
abbrev TG := V → St → Hp → (St → Hp → Prop) → Prop
abbrev TGs := List V → St → Hp → (St → Hp → Prop) → Prop
def PG (X : Cx) (target : Expr) (t : TG) : Prop :=
  ∀ (pins : List (Addr × Obj)) (s : Shared) (σ : St) (H : Hp) (v : V) (u : Value) (Q : St → Hp → Prop), Inv X pins σ H s → RelV v u → t v σ H Q →
    wpAny (model X.prog X.w) X.A (assign target X.env u) (fun _ s' => ∃ σ' H', Inv X pins σ' H' s' ∧ Q σ' H') X.xe s
/-- several targets, one after another -/
def PGs (X : Cx) (ts : List Expr) (t : TGs) : Prop :=
  ∀ (pins : List (Addr × Obj)) (s : Shared) (σ : St) (H : Hp) (vs : List V) (us : List Value) (Q : St → Hp → Prop), Inv X pins σ H s → Vals vs us → t vs σ H Q →
    wpAny (model X.prog X.w) X.A (assignInOrder ((assignEach ts X.env).map (·.2)) us) (fun _ s' => ∃ σ' H', Inv X pins σ' H' s' ∧ Q σ' H') X.xe s
/-- o[i] = v, by values -/
abbrev TSet := V → V → V → Hp → (Hp → Prop) → Prop
def PSet (X : Cx) (t : TSet) : Prop :=
  ∀ (pins : List (Addr × Obj)) (s : Shared) (σ : St) (H : Hp) (o i v : V) (ov iv u : Value) (Q : Hp → Prop), Inv X pins σ H s → RelV o ov → RelV i iv → RelV v u → t o i v H Q →
    wpAny (model X.prog X.w) X.A (setItem ov iv u) (fun _ s' => ∃ H', Inv X pins σ H' s' ∧ Q H') X.xe s
section
variable {X : Cx} {pos : Pos}
def gName (i : Nat) : TG := fun v σ H Q => Q (σ.set i (some v)) H
theorem pg_name {i : Nat} {x : Str} (hN : X.N.Nodup) (hi : X.N[i]? = some x) (hx : Loc X.env.scope x) (hf : X.fn x = true ∨ X.env.scope.names.lookup x = some .local := by first | exact .inl rfl | exact .inr rfl | assumption) : PG X (.Name x pos) (gName i) := by
  intro pins s σ H v u Q I r h
  exact wpAny_assign_Name (store_ok I hN hi hx r (fun s' I' => ⟨_, H, I', h⟩) hf)
def gNil : TGs := fun vs σ H Q => vs = [] ∧ Q σ H
def gCons (t : TG) (u : TGs) : TGs := fun vs σ H Q => ∃ v r, vs = v :: r ∧ t v σ H fun σ' H' => u r σ' H' Q
theorem pgs_nil : PGs X [] gNil := by
  intro pins s σ H vs us Q I r h
  obtain ⟨e, h⟩ := h
  subst e
  cases r
  exact assignInOrder_nil ⟨σ, H, I, h⟩
theorem pgs_cons {e : Expr} {es : List Expr} {t : TG} {u : TGs} (h1 : PG X e t) (h2 : PGs X es u)
    (hs : (assignEach (e :: es) X.env).map (·.2) = assign e X.env :: (assignEach es X.env).map (·.2) := by rfl) : PGs X (e :: es) (gCons t u) := by
  intro pins s σ H vs us Q I r h
  obtain ⟨v, vr, e1, h⟩ := h
  subst e1
  cases r with
  | cons r rr =>
    rw [hs]
    refine assignInOrder_cons (thn (h1 pins s σ H _ _ _ I r h) fun _ s1 ⟨σ1, H1, I1, q1⟩ => ?_)
    exact h2 pins s1 σ1 H1 _ _ Q I1 rr q1
/-- (a, b, ..) = a tuple of that length -/
def gTup (K : PySem.W.Frag) (n : Nat) (t : TGs) : TG := fun v σ H Q => ∃ a xs, v = .ref a ∧ SqT K H a xs ∧ xs.length = n ∧ t xs σ H Q
theorem pg_tup {es : List Expr} {k : Nat} {t : TGs} {n : Nat} (hc : X.calm = true) (h : PGs X es t)
    (hn : (assignEach es X.env).length = n := by rfl) (hst : (assignEach es X.env).findIdx? (·.1) = none := by rfl) : PG X (.Tuple es k pos) (gTup X.K n t) := by
  intro pins s σ H v u Q I r hw
  obtain ⟨a, xs, e1, hq, hl, hw⟩ := hw
  subst e1
  cases r
  obtain ⟨its, rv, ht, hz⟩ := I.tuple hq
  refine assign_Tuple_tuple (I.ok.hd hc) ht (by simp [hn, ← hl, rv.length]) hst fun h' hx => ?_
  have I1 : Inv X pins σ H { s with heap := h' } := I.kept (t' := s.toks) fun b o e => hx b o (Nat.ne_of_lt (Heap.lt_size e)) e
  exact h pins _ σ H xs _ Q I1 (by simpa using rv) hw
/-- o[i] = .. -/
def gSub (to ti : TE) (t : TSet) : TG := fun v σ H Q => to σ H fun o H1 => ti σ H1 fun i H2 => t o i v H2 fun H3 => Q σ H3
theorem pg_sub {o i : Expr} {to ti : TE} {t : TSet} (ho : PE X o to) (hi : PE X i ti) (hs : PSet X t)
    (ha : ∀ v, assign (.Subscript o i pos) X.env v = (do
      let ov ← holding [v] (eval o X.env)
      let iv ← holding [v, ov] (eval i X.env)
      standAt pos
      holding [v, ov, iv] (setItem ov iv v)
      release [v, ov, iv] []) := by intro _; rfl) : PG X (.Subscript o i pos) (gSub to ti t) := by
  intro pins s σ H v u Q I r h
  rw [ha]
  refine wpAny_bind (wpAny_holding (thn (ho pins s σ H _ I h) fun ov s1 ⟨x, H1, I1, r1, q1⟩ => ?_))
  refine wpAny_bind (wpAny_holding (thn (hi pins s1 σ H1 _ I1 q1) fun iv s2 ⟨y, H2, I2, r2, q2⟩ => ?_))
  refine wpAny_bind (wpAny_standAt (wpAny_bind (wpAny_holding (thn (hs pins s2 σ H2 x y v ov iv u _ I2 r1 r2 r q2) fun _ s3 ⟨H3, I3, q3⟩ => ?_))))
  exact wpAny_release ⟨σ, H3, I3, q3⟩
/-- target = value -/
def tAsg (te : TE) (g : TG) : TS := fun D σ H => te σ H fun x H1 => g x σ H1 D.nx
theorem ps_asg {tg e : Expr} {te : TE} {g : TG} (he : PE X e te) (hg : PG X tg g) (hs : swapsWithSole [tg] e pos.line X.env = pure false := by rfl) (hw : swappedStores [tg] e X.env = pure none := by rfl)
    (h1 : (assignEach [tg] X.env).map (·.2) = [assign tg X.env] := by rfl) : PS X (.Assign [tg] e pos) (tAsg te g) := by
  intro pins s σ H D I h
  refine wpAny_Assign_stores (thn (he pins s σ H _ I h) fun v s1 ⟨x, H1, I1, r1, q1⟩ => ?_) hs hw
  rw [h1]
  exact thn (hg pins s1 σ H1 x v _ I1 r1 q1) fun _ s2 q => q
/-- name = value -/
theorem ps_set {i : Nat} {x : Str} {e : Expr} {te : TE} {pos' : Pos} (hN : X.N.Nodup) (hi : X.N[i]? = some x) (hx : Loc X.env.scope x) (he : PE X e te) (hs : swapsWith e (some (.Name x pos')) pos.line X.env = pure false := by rfl) (hf : X.fn x = true ∨ X.env.scope.names.lookup x = some .local := by first | exact .inl rfl | exact .inr rfl | assumption) :
    PS X (.Assign [.Name x pos'] e pos) (tAsg te (gName i)) := by
  intro pins s σ H D I h
  refine wpAny_Assign_Name (thn (he pins s σ H _ I h) fun v s1 ⟨y, H1, I1, r1, q1⟩ => ?_) hs
  exact store_ok I1 hN hi hx r1 (fun s2 I2 => ⟨_, H1, I2, q1⟩) hf
end

/-! ### while -/
section
variable {X : Cx} {pos : Pos}
/-- the invariant W with its measure -/
def tWhile (c : TT) (tb : TS) : TS := fun D σ H => ∃ W : Nat → St → Hp → Prop, (∃ m, W m σ H) ∧ ∀ m σ H, W m σ H →
  c σ H fun b H1 => if b = true then ∃ N : St → Hp → Prop, (∀ σ' H', N σ' H' → ∃ m', m' < m ∧ W m' σ' H') ∧ tb { D with nx := N, ct := N, bk := D.nx } σ H1 else D.nx σ H1
theorem ps_while {c : Expr} {body : List Stmt} {tc : TT} {tb : TS} (hp : PassesOwn (model X.prog X.w) X.A X.env X.xe) (hc : PT X c tc) (hb : PSs X body tb) : PS X (.While c body [] pos) (tWhile tc tb) := by
  intro pins s σ H D I h
  obtain ⟨W, ⟨m0, w0⟩, turn⟩ := h
  refine wpAny_While (codeAny_whileLoop (fun n s' => ∃ σ' H', Inv X pins σ' H' s' ∧ W n σ' H') ?_ m0 ⟨σ, H, I, w0⟩)
  rintro n s1 ⟨σ1, H1, I1, w1⟩
  refine wpAny_passesOwn hp (thn (hc pins s1 σ1 H1 _ I1 (turn n σ1 H1 w1)) fun b s2 ⟨H2, I2, q2⟩ => ?_)
  cases b with
  | true =>
    obtain ⟨N, hN, q2⟩ := q2
    rw [if_pos rfl]
    refine wpAny_passesOwn hp (thn (hb pins s2 σ1 H2 _ I2 q2) fun f s3 q3 => ?_)
    cases f with
    | next =>
      obtain ⟨σ3, H3, I3, n3⟩ := q3
      obtain ⟨m', hm, w3⟩ := hN σ3 H3 n3
      exact ⟨m', hm, σ3, H3, I3, w3⟩
    | cont =>
      obtain ⟨σ3, H3, I3, n3⟩ := q3
      obtain ⟨m', hm, w3⟩ := hN σ3 H3 n3
      exact ⟨m', hm, σ3, H3, I3, w3⟩
    | brk => exact q3
    | ret v => exact q3
  | false =>
    rw [if_neg Bool.false_ne_true]
    exact wpAny_execs_nil ⟨σ1, H2, I2, q2⟩
end

/-! ### what a loop or a comprehension walks -/
/-- at turn i: it yields x (the heap may grow), or it stops -/
structure It where
  go : Nat → Hp → Prop
  yld : Nat → Hp → V → Hp → Prop
  stop : Nat → Hp → Prop
/-- the iterator's own objects may turn: they are not the frame's, not pinned, younger than the entry (or a comprehension's own) -/
def FpOk (X : Cx) (pins : List (Addr × Obj)) (H : Hp) (b : Addr) : Prop :=
  H b = none ∧ b ≠ X.env.locals ∧ b ∉ X.fs ∧ (b ∈ X.ex ∨ X.s₀.heap.objs.size ≤ b) ∧ (∀ x c, X.env.cells.lookup x = some c → c ≠ b) ∧ ∀ p ∈ X.pn ++ pins, p.1 ≠ b
theorem Inv.fpOk {X : Cx} {pins : List (Addr × Obj)} {σ : St} {H H' : Hp} {s : Shared} {b : Addr} (I : Inv X pins σ H s) (hb : s.heap.objs.size ≤ b) (hn : H' b = none) : FpOk X pins H' b := by
  refine ⟨hn, Nat.ne_of_gt (Nat.lt_of_lt_of_le I.lt hb), I.nofs hb, .inr (Nat.le_trans I.sz hb), fun x c e z => ?_, fun p hp z => ?_⟩
  · obtain ⟨v, q⟩ := I.cell x c e
    exact absurd (Nat.lt_of_lt_of_le q.lt (by rw [z]; exact hb)) (Nat.lt_irrefl _)
  · exact absurd (Nat.lt_of_lt_of_le (Heap.lt_size (I.pin p hp).1) (by rw [z]; exact hb)) (Nat.lt_irrefl _)
structure Turn (P : Program) (w : World) (K : PySem.W.Frag) (tg : Expr) (J : It) (fp : List Addr) (it : Addr) (tn : Nat → Heap → Prop) : Prop where
  mem : it ∈ fp
  obj : ∀ i h, tn i h → ∀ b ∈ fp, ∃ o, h.get? b = some o ∧ ∀ v, o.data ≠ .cell v
  keep : ∀ i h h', tn i h → (∀ b ∈ fp, ∀ o, h.get? b = some o → h'.get? b = some o) → tn i h'
  item : ∀ (X : Cx), X.prog = P → X.w = w → X.K = K → X.calm = true → ∀ (i : Nat) (pins : List (Addr × Obj)) (s : Shared) (σ : St) (H : Hp) (E : Value → Shared → Prop), Inv X pins σ H s → (∀ b ∈ fp, FpOk X pins H b) → tn i s.heap → J.go i H →
    wpAny (model P w) X.A (pyNext (.ref it)) (fun r s1 => ∃ u, r = some u ∧
      wpAny (model P w) X.A (letOwnedTupleGo tg (.ref it) u) (fun _ s2 => ∃ x H', Inv X pins σ H' s2 ∧ RelV x u ∧ J.yld i H x H' ∧ tn (i + 1) s2.heap ∧ ∀ b ∈ fp, H' b = none) E s1) E s
  done : ∀ (X : Cx), X.prog = P → X.w = w → X.K = K → X.calm = true → ∀ (i : Nat) (pins : List (Addr × Obj)) (s : Shared) (σ : St) (H : Hp) (E : Value → Shared → Prop), Inv X pins σ H s → (∀ b ∈ fp, FpOk X pins H b) → tn i s.heap → J.stop i H →
    wpAny (model P w) X.A (pyNext (.ref it)) (fun r s1 => r = none ∧ Inv X pins σ H s1) E s
  self : ∀ (A : Around) (i : Nat) (s : Shared) (Q : Value → Shared → Prop) (E : Value → Shared → Prop), tn i s.heap → Q (.ref it) s → wpAny (model P w) A (pyIter (.ref it)) Q E s
abbrev TI := St → Hp → (It → Hp → Prop) → Prop
/-- an iterator has come -/
def PIE (X : Cx) (pins : List (Addr × Obj)) (σ : St) (tg : Expr) (R : It → Hp → Prop) (itv : Value) (s2 : Shared) : Prop :=
  ∃ (it : Addr) (fp : List Addr) (tn : Nat → Heap → Prop) (J : It) (H' : Hp), itv = .ref it ∧ Inv X pins σ H' s2 ∧ Turn X.prog X.w X.K tg J fp it tn ∧ tn 0 s2.heap ∧ (∀ b ∈ fp, FpOk X pins H' b) ∧ R J H'
def PI (X : Cx) (tg iter : Expr) (wi : TI) : Prop :=
  ∀ (pins : List (Addr × Obj)) (s : Shared) (σ : St) (H : Hp) (R : It → Hp → Prop), Inv X pins σ H s → wi σ H R →
    wpAny (model X.prog X.w) X.A (eval iter X.env) (fun v s1 => wpAny (model X.prog X.w) X.A (pyIter v) (PIE X pins σ tg R) X.xe s1) X.xe s

/-- the step ahead of the store is nothing for an iterator that keeps no tuple -/
theorem go_of {M : Model} {A : Around} {E : Value → Shared → Prop} {s : Shared} {tg : Expr} {it : Addr} {u : Value} {o : Obj} {n : String} {vs : Array Value} {Q : Unit → Shared → Prop} (ho : s.heap.get? it = some o) (hc : o.cls = .type n) (hd : o.data = .fields vs)
    (hn : ["enumerate", "zip", "dict_itemiterator", "dict_reverseitemiterator", "odict_iterator", "itertools.zip_longest", "itertools.pairwise"].contains n = false) (hQ : Q () s) : wpAny M A (letOwnedTupleGo tg (.ref it) u) Q E s := by
  unfold letOwnedTupleGo
  cases tg <;> first
    | exact wpAny_pure hQ
    | (cases u <;> first
        | exact wpAny_pure hQ
        | (refine wpAny_bind (wpAny_load ho ?_)
           rw [hc, hd]
           show wpAny M A (if (["enumerate", "zip", "dict_itemiterator", "dict_reverseitemiterator", "odict_iterator", "itertools.zip_longest", "itertools.pairwise"].contains n && vs[0]? == some (rawInt _)) = true then _ else _) Q E s
           rw [if_neg (by intro h; rw [hn, Bool.false_and] at h; cases h)]
           exact wpAny_pure hQ))

/-- the list at a, as it stands at each turn (a loop may append to it) -/
def Itl (K : PySem.W.Frag) (a : Addr) : It :=
  ⟨fun i H => ∃ xs x, SqL K H a xs ∧ xs[i]? = some x, fun i H x H' => H' = H ∧ ∀ xs, SqL K H a xs → xs[i]? = some x, fun i H => ∃ xs, SqL K H a xs ∧ xs.length ≤ i⟩
def Itt (K : PySem.W.Frag) (a : Addr) : It :=
  ⟨fun i H => ∃ xs x, SqT K H a xs ∧ xs[i]? = some x, fun i H x H' => H' = H ∧ ∀ xs, SqT K H a xs → xs[i]? = some x, fun i H => ∃ xs, SqT K H a xs ∧ xs.length ≤ i⟩
/-- lo, lo + 1, .. (n of them) -/
def Itr (lo : Int) (n : Nat) : It := ⟨fun i _ => i < n, fun i H x H' => H' = H ∧ x = .int (lo + i), fun i _ => n ≤ i⟩
theorem turn_list {P : Program} {w : World} {K : PySem.W.Frag} {tg : Expr} (a it : Addr) : Turn P w K tg (Itl K a) [it] it (fun i h => h.IsListIter it a i) where
  mem := by simp
  obj := fun i h st b hb => by
    have e : b = it := by simpa using hb
    subst e
    obtain ⟨o, e, c, d⟩ := st
    exact ⟨o, e, fun v z => by rw [d] at z; cases z⟩
  keep := fun i h h' st k => st.at fun o e => k it (by simp) o e
  item := by
    intro X hP hw hK hc i pins s σ H E I hf st hg
    subst hP hw hK
    obtain ⟨xs, x, hq, hx⟩ := hg
    obtain ⟨its, rv, p, hz⟩ := I.list hq
    obtain ⟨u, hu, ru⟩ := rv.get hx
    obtain ⟨f0, f1, f2, f3, f4, f5⟩ := hf it (by simp)
    refine wpAny_pyNext_list_item st p.isList (x := u) (by simpa using hu) fun h' st' sb => ?_
    have I1 : Inv X pins σ H { s with heap := h' } := I.turned (t' := s.toks) (fun b o hb e => (sb.2 b hb).trans e) f0 f1 f3 f4 f5
    obtain ⟨o, e, c, d⟩ := id st'
    exact ⟨u, rfl, go_of (s := { s with heap := h' }) e c d (by decide) ⟨x, H, I1, ru, ⟨rfl, fun ys hy => by rw [I.list_inj hy hq]; exact hx⟩, st', fun b hb => (hf b hb).1⟩⟩
  done := by
    intro X hP hw hK hc i pins s σ H E I hf st hg
    subst hP hw hK
    obtain ⟨xs, hq, hx⟩ := hg
    obtain ⟨its, rv, p, hz⟩ := I.list hq
    obtain ⟨f0, f1, f2, f3, f4, f5⟩ := hf it (by simp)
    have hl := rv.length
    exact wpAny_pyNext_list_end (I.ok.hd hc) st p.isList (by simp; omega) fun h' eb => ⟨rfl, I.turned (t' := s.toks) (fun b o hb e => eb b o hb e) f0 f1 f3 f4 f5⟩
  self := fun _ _ _ _ _ st h => wpAny_pyIter_listiter st h
theorem turn_tuple {P : Program} {w : World} {K : PySem.W.Frag} {tg : Expr} (a it : Addr) : Turn P w K tg (Itt K a) [it] it (fun i h => h.IsTupleIter it a i) where
  mem := by simp
  obj := fun i h st b hb => by
    have e : b = it := by simpa using hb
    subst e
    obtain ⟨o, e, c, d⟩ := st
    exact ⟨o, e, fun v z => by rw [d] at z; cases z⟩
  keep := fun i h h' st k => st.at fun o e => k it (by simp) o e
  item := by
    intro X hP hw hK hc i pins s σ H E I hf st hg
    subst hP hw hK
    obtain ⟨xs, x, hq, hx⟩ := hg
    obtain ⟨its, rv, p, hz⟩ := I.tuple hq
    obtain ⟨u, hu, ru⟩ := rv.get hx
    obtain ⟨f0, f1, f2, f3, f4, f5⟩ := hf it (by simp)
    refine wpAny_pyNext_tuple_item st (show s.heap.IsTuple a its.toArray from p) (x := u) (by simpa using hu) fun h' st' sb => ?_
    have I1 : Inv X pins σ H { s with heap := h' } := I.turned (t' := s.toks) (fun b o hb e => (sb.2 b hb).trans e) f0 f1 f3 f4 f5
    obtain ⟨o, e, c, d⟩ := id st'
    exact ⟨u, rfl, go_of (s := { s with heap := h' }) e c d (by decide) ⟨x, H, I1, ru, ⟨rfl, fun ys hy => by rw [I.tuple_inj hy hq]; exact hx⟩, st', fun b hb => (hf b hb).1⟩⟩
  done := by
    intro X hP hw hK hc i pins s σ H E I hf st hg
    subst hP hw hK
    obtain ⟨xs, hq, hx⟩ := hg
    obtain ⟨its, rv, p, hz⟩ := I.tuple hq
    obtain ⟨f0, f1, f2, f3, f4, f5⟩ := hf it (by simp)
    have hl := rv.length
    exact wpAny_pyNext_tuple_end (I.ok.hd hc) st (show s.heap.IsTuple a its.toArray from p) (by simp; omega) fun h' eb => ⟨rfl, I.turned (t' := s.toks) (fun b o hb e => eb b o hb e) f0 f1 f3 f4 f5⟩
  self := fun _ _ _ _ _ st h => wpAny_pyIter_tupleiter st h
theorem turn_range {P : Program} {w : World} {K : PySem.W.Frag} {tg : Expr} (it : Addr) (lo : Int) (n : Nat) : Turn P w K tg (Itr lo n) [it] it (fun i h => IsRangeIter h it (lo + (i : Nat) * 1) ((n : Int) - (i : Nat)) 1) where
  mem := by simp
  obj := fun i h st b hb => by
    have e : b = it := by simpa using hb
    subst e
    exact ⟨_, st, fun v z => by
      have z' : Data.fields _ = Data.cell v := z
      cases z'⟩
  keep := fun i h h' st k => k it (by simp) _ st
  item := by
    intro X hP hw hK hc i pins s σ H E I hf st hg
    subst hP hw hK
    obtain ⟨f0, f1, f2, f3, f4, f5⟩ := hf it (by simp)
    have W := Walks.range (prog := X.prog) (w := X.w) (I.ok.hd hc) it lo 1 n
    refine W.item i s _ _ hg st fun v h' tk hv st' kk => ?_
    obtain ⟨t, rfl⟩ := hv
    have I1 : Inv X pins σ H { s with heap := h', toks := tk } := I.turned (fun b o hb e => kk b o (by simpa using hb) e) f0 f1 f3 f4 f5
    refine ⟨_, rfl, go_of (s := { s with heap := h', toks := tk }) (n := "range_iterator") st' rfl rfl (by decide) ⟨.int (lo + i), H, I1, ⟨t, ?_⟩, ⟨rfl, rfl⟩, st', fun b hb => (hf b hb).1⟩⟩
    rw [Int.mul_one]
  done := by
    intro X hP hw hK hc i pins s σ H E I hf st hg
    subst hP hw hK
    obtain ⟨f0, f1, f2, f3, f4, f5⟩ := hf it (by simp)
    exact wpAny_pyNext_range_end (I.ok.hd hc) st (by have : n ≤ i := hg; omega) fun h' eb => ⟨rfl, I.turned (t' := s.toks) (fun b o hb e => eb b o hb e) f0 f1 f3 f4 f5⟩
  self := fun _ _ _ _ _ st h => wpAny_pyIter_rangeiter st h
end L2

namespace L2
open PySem PySem.Spec PyProof.Rows
section
variable {X : Cx} {tg : Expr}
def iList (K : PySem.W.Frag) (tl : TE) : TI := fun σ H R => tl σ H fun x H1 => ∃ a, x = .ref a ∧ (∃ xs, SqL K H1 a xs) ∧ R (Itl K a) H1
def iTup (K : PySem.W.Frag) (tl : TE) : TI := fun σ H R => tl σ H fun x H1 => ∃ a, x = .ref a ∧ (∃ xs, SqT K H1 a xs) ∧ R (Itt K a) H1
theorem pi_list {l : Expr} {tl : TE} (hl : PE X l tl) : PI X tg l (iList X.K tl) := by
  intro pins s σ H R I h
  refine thn (hl pins s σ H _ I h) fun v s1 ⟨x, H1, I1, r1, q1⟩ => ?_
  obtain ⟨a, e, ⟨xs, hq⟩, q⟩ := q1
  subst e
  cases r1
  obtain ⟨its, rv, p, hz⟩ := I1.list hq
  refine wpAny_pyIter_list p.isList ?_
  refine ⟨s1.heap.objs.size, [s1.heap.objs.size], _, _, H1, rfl, I1.kept (t' := s1.toks) fun b o e => Heap.get?_push_of_some _ e, turn_list a _, ⟨_, Heap.get?_push_size _ rfl, rfl, rfl⟩, fun b hb => ?_, q⟩
  have e : b = s1.heap.objs.size := by simpa using hb
  subst e
  exact I1.fpOk (Nat.le_refl _) (I1.hok.fresh (Nat.le_refl _))
theorem pi_tup {l : Expr} {tl : TE} (hl : PE X l tl) : PI X tg l (iTup X.K tl) := by
  intro pins s σ H R I h
  refine thn (hl pins s σ H _ I h) fun v s1 ⟨x, H1, I1, r1, q1⟩ => ?_
  obtain ⟨a, e, ⟨xs, hq⟩, q⟩ := q1
  subst e
  cases r1
  obtain ⟨its, rv, p, hz⟩ := I1.tuple hq
  refine wpAny_pyIter_tuple (show s1.heap.IsTuple a its.toArray from p) ?_
  refine ⟨s1.heap.objs.size, [s1.heap.objs.size], _, _, H1, rfl, I1.kept (t' := s1.toks) fun b o e => Heap.get?_push_of_some _ e, turn_tuple a _, ⟨_, Heap.get?_push_size _ rfl, rfl, rfl⟩, fun b hb => ?_, q⟩
  have e : b = s1.heap.objs.size := by simpa using hb
  subst e
  exact I1.fpOk (Nat.le_refl _) (I1.hok.fresh (Nat.le_refl _))
/-- a range object just made, walked -/
theorem range_it {pins : List (Addr × Obj)} {σ : St} {H : Hp} {s : Shared} {R : It → Hp → Prop} {E : Value → Shared → Prop} {lo hi : Int} {t u v : Tok} {tk : Nat} (I : Inv X pins σ H s) (h1 : -(2 ^ 62) ≤ lo) (h2 : lo < 2 ^ 62) (h3 : -(2 ^ 62) ≤ hi) (h4 : hi < 2 ^ 62)
    (q : R (Itr lo (hi - lo).toNat) H) : wpAny (model X.prog X.w) X.A (pyIter (.ref s.heap.objs.size)) (PIE X pins σ tg R) E { s with heap := s.heap.push { cls := .type "range", data := .fields #[.int lo t, .int hi u, .int 1 v] }, toks := tk } := by
  refine wpAny_pyIter_range (IsRange.new ..) (small_one h1 h2 h3 h4) ?_
  have I1 : Inv X pins σ H { s with heap := s.heap.push { cls := .type "range", data := .fields #[.int lo t, .int hi u, .int 1 v] }, toks := tk } := I.kept fun b o e => Heap.get?_push_of_some _ e
  refine ⟨(s.heap.push { cls := .type "range", data := .fields #[.int lo t, .int hi u, .int 1 v] }).objs.size, [(s.heap.push { cls := .type "range", data := .fields #[.int lo t, .int hi u, .int 1 v] }).objs.size], _, _, H, rfl,
    I1.kept (t' := tk) fun b o e => Heap.get?_push_of_some _ e, turn_range _ lo (hi - lo).toNat, ?_, fun b hb => ?_, q⟩
  · have e1 : lo + ((0 : Nat) : Int) * 1 = lo := by simp
    have e2 : (((hi - lo).toNat : Nat) : Int) - ((0 : Nat) : Int) = Builtin.Range.rangeSize lo hi 1 := by rw [rangeSize_one]; split <;> omega
    show IsRangeIter _ _ (lo + ((0 : Nat) : Int) * 1) ((((hi - lo).toNat : Nat) : Int) - ((0 : Nat) : Int)) 1
    rw [e1, e2]
    exact Heap.get?_push_size _ rfl
  · have e : b = (s.heap.push { cls := .type "range", data := .fields #[.int lo t, .int hi u, .int 1 v] }).objs.size := by simpa using hb
    subst e
    exact I1.fpOk (Nat.le_refl _) (I1.hok.fresh (Nat.le_refl _))
def iRng1 (ta : TA) : TI := fun σ H R => ta σ H fun vs H1 => ∃ j : Int, vs = [.int j] ∧ -(2 ^ 62) ≤ j ∧ j < 2 ^ 62 ∧ R (Itr 0 j.toNat) H1
def iRng2 (ta : TA) : TI := fun σ H R => ta σ H fun vs H1 => ∃ i j : Int, vs = [.int i, .int j] ∧ (-(2 ^ 62) ≤ i ∧ i < 2 ^ 62 ∧ -(2 ^ 62) ≤ j ∧ j < 2 ^ 62) ∧ R (Itr i (j - i).toNat) H1
theorem pi_range1 {a : Expr} {ta : TA} {p pos : Pos} (hg : Gl X "range") (hm : X.mg "range" = none) (ha : PA X [a] ta) (hs : starEach [a] X.env = [(false, eval a X.env)] := by rfl) : PI X tg (.Call (.Name "range" p) [a] [] pos) (iRng1 ta) := by
  intro pins s σ H R I h
  refine Call_ (ld_blt I hg hm boot_range (PyProof.Rows.callWith_type1 (thn (ha pos pins s σ H _ I h) fun us s1 ⟨vs, H1, I1, r1, q1⟩ => ?_) hs rfl))
  obtain ⟨j, e, q1, q2, q⟩ := q1
  subst e
  cases r1 with
  | cons r rr =>
    cases rr
    obtain ⟨t, rfl⟩ := r
    exact call_range_1 (range_it I1 (by omega) (by omega) q1 q2 (by simpa using q))
theorem pi_range2 {a b : Expr} {ta : TA} {p pos : Pos} (hg : Gl X "range") (hm : X.mg "range" = none) (ha : PA X [a, b] ta) (hs : starEach [a, b] X.env = [(false, eval a X.env), (false, eval b X.env)] := by rfl) (hs2 : starEach [b] X.env = [(false, eval b X.env)] := by rfl) :
    PI X tg (.Call (.Name "range" p) [a, b] [] pos) (iRng2 ta) := by
  intro pins s σ H R I h
  refine Call_ (ld_blt I hg hm boot_range (PyProof.Rows.callWith_type1 (thn (ha pos pins s σ H _ I h) fun us s1 ⟨vs, H1, I1, r1, q1⟩ => ?_) (by rw [hs, hs2]) (by rw [hs2]; rfl)))
  obtain ⟨i, j, e, ⟨q1, q2, q3, q4⟩, q⟩ := q1
  subst e
  cases r1 with
  | cons r rr =>
    cases rr with
    | cons r' rr =>
      cases rr
      obtain ⟨t, rfl⟩ := r
      obtain ⟨t', rfl⟩ := r'
      exact call_range_2 (range_it I1 q1 q2 q3 q4 q)

/-! ### for -/
/-- W: the invariant by the turn and a measure; N: what the body is to reach -/
def tFor (wi : TI) (g : TG) (tb : TS) : TS := fun D σ H => wi σ H fun J H1 => ∃ W : Nat → Nat → St → Hp → Prop, (∃ m, W 0 m σ H1) ∧ ∀ i m σ H, W i m σ H →
  (J.stop i H ∧ D.nx σ H) ∨ (J.go i H ∧ ∃ N : St → Hp → Prop, (∀ σ' H', N σ' H' → ∃ m', m' < m ∧ W (i + 1) m' σ' H') ∧ ∀ x H', J.yld i H x H' → g x σ H' fun σ2 H2 => tb { D with nx := N, ct := N, bk := D.nx } σ2 H2)
/-- the records at fp as they stand -/
def pinsAt (fp : List Addr) (h : Heap) : List (Addr × Obj) := fp.filterMap fun b => (h.get? b).map fun o => (b, o)
theorem mem_pinsAt {fp : List Addr} {h : Heap} {b : Addr} {o : Obj} (hb : b ∈ fp) (e : h.get? b = some o) : (b, o) ∈ pinsAt fp h := List.mem_filterMap.mpr ⟨b, hb, by rw [e]; rfl⟩
theorem of_pinsAt {fp : List Addr} {h : Heap} {p : Addr × Obj} (hp : p ∈ pinsAt fp h) : p.1 ∈ fp ∧ h.get? p.1 = some p.2 := by
  obtain ⟨b, hb, e⟩ := List.mem_filterMap.mp hp
  cases q : h.get? b with
  | none => rw [q] at e; cases e
  | some o =>
    rw [q] at e
    have e' : (b, o) = p := Option.some.inj e
    subst e'
    exact ⟨hb, q⟩
theorem Inv.pinned {pins : List (Addr × Obj)} {σ : St} {H : Hp} {s : Shared} {fp : List Addr} (I : Inv X pins σ H s) (hf : ∀ b ∈ fp, FpOk X pins H b) (ho : ∀ b ∈ fp, ∃ o, s.heap.get? b = some o ∧ ∀ v, o.data ≠ .cell v) : Inv X (pins ++ pinsAt fp s.heap) σ H s :=
  I.pins_of fun p hp => (List.mem_append.mp hp).elim (fun z => I.pin p (List.mem_append_right _ z)) fun z => by
    obtain ⟨hb, e⟩ := of_pinsAt z
    obtain ⟨f0, f1, f2, _⟩ := hf p.1 hb
    obtain ⟨o, e', d⟩ := ho p.1 hb
    rw [e] at e'; cases e'
    exact ⟨e, f0, f1, f2, d⟩
theorem Inv.unpinned {pins pl : List (Addr × Obj)} {σ : St} {H : Hp} {s : Shared} (I : Inv X (pins ++ pl) σ H s) : Inv X pins σ H s := I.pins_of fun p hp => I.pin p (List.mem_append_right _ (List.mem_append_left _ hp))
theorem ps_for {iter : Expr} {body : List Stmt} {wi : TI} {g : TG} {tb : TS} {pos : Pos} (hp : PassesOwn (model X.prog X.w) X.A X.env X.xe) (hc : X.calm = true) (hi : PI X tg iter wi) (hg : PG X tg g) (hb : PSs X body tb)
    (hs : ∀ x, foldedSetIterable iter X.env x = pure x := by intro _; rfl) : PS X (.For tg iter body [] pos) (tFor wi g tb) := by
  intro pins s σ H D I h
  refine wpAny_For (thn (hi pins s σ H _ I h) fun v s1 h1 => thn h1 fun itv s2 h2 => ?_) hs
  obtain ⟨it, fp, tn, J, H2, e, I2, T, st2, f2, W, ⟨m0, w0⟩, turn⟩ := h2
  subst e
  -- what stays true of the iterator's objects through the loop
  have stat : ∀ {H' : Hp}, (∀ b ∈ fp, H' b = none) → ∀ b ∈ fp, FpOk X pins H' b := fun hn b hb => ⟨hn b hb, (f2 b hb).2⟩
  refine codeAny_forLoop_any (fun n s' => ∃ i σ' H', Inv X pins σ' H' s' ∧ tn i s'.heap ∧ (∀ b ∈ fp, H' b = none) ∧ W i n σ' H') ?_ m0 ⟨0, σ, H2, I2, st2, fun b hb => (f2 b hb).1, w0⟩
  rintro n s3 ⟨i, σ3, H3, I3, st3, fr3, w3⟩
  rcases turn i n σ3 H3 w3 with ⟨stop, qn⟩ | ⟨go, N, hN, step⟩
  · refine wpAny_passesOwn hp (thn (T.done X rfl rfl rfl hc i pins s3 σ3 H3 X.xe I3 (stat fr3) st3 stop) fun r s4 ⟨hr, I4⟩ => ?_)
    subst hr
    exact wpAny_execs_nil ⟨σ3, H3, I4, qn⟩
  · refine wpAny_passesOwn hp (thn (T.item X rfl rfl rfl hc i pins s3 σ3 H3 X.xe I3 (stat fr3) st3 go) fun r s4 ⟨u, hr, h4⟩ => ?_)
    subst hr
    refine wpAny_passesOwn hp (thn h4 fun _ s5 ⟨x, H5, I5, r5, y5, st5, fr5⟩ => ?_)
    have I5' := I5.pinned (stat fr5) (T.obj _ _ st5)
    refine wpAny_passesOwn hp (thn (hg _ s5 σ3 H5 x u _ I5' r5 (step x H5 y5)) fun _ s6 ⟨σ6, H6, I6, q6⟩ => ?_)
    refine wpAny_passesOwn hp (thn (hb _ s6 σ6 H6 _ I6 q6) fun f s7 q7 => ?_)
    have again : ∀ {σ7 : St} {H7 : Hp}, Inv X (pins ++ pinsAt fp s5.heap) σ7 H7 s7 → N σ7 H7 → ∃ m, m < n ∧ ∃ i σ' H', Inv X pins σ' H' s7 ∧ tn i s7.heap ∧ (∀ b ∈ fp, H' b = none) ∧ W i m σ' H' := fun {σ7 H7} I7 n7 => by
      obtain ⟨m', hm, w7⟩ := hN σ7 H7 n7
      refine ⟨m', hm, i + 1, σ7, H7, I7.unpinned, T.keep _ _ _ st5 fun b hb o e => (I7.pin (b, o) (List.mem_append_right _ (List.mem_append_right _ (mem_pinsAt hb e)))).1, fun b hb => ?_, w7⟩
      obtain ⟨o, e, d⟩ := T.obj _ _ st5 b hb
      exact (I7.pin (b, o) (List.mem_append_right _ (List.mem_append_right _ (mem_pinsAt hb e)))).2.1
    cases f with
    | next => obtain ⟨σ7, H7, I7, n7⟩ := q7; exact again I7 n7
    | cont => obtain ⟨σ7, H7, I7, n7⟩ := q7; exact again I7 n7
    | brk => obtain ⟨σ7, H7, I7, q7⟩ := q7; exact ⟨σ7, H7, I7.unpinned, q7⟩
    | ret v => obtain ⟨x7, σ7, H7, I7, r7, q7⟩ := q7; exact ⟨x7, σ7, H7, I7.unpinned, r7, q7⟩
end

/-! ### the forms one uses -/
/-- over a list that the body leaves as it is -/
theorem for_list {K : PySem.W.Frag} {a : Addr} {xs : List V} {g : TG} {tb : TS} {D : Ends} {σ : St} {H : Hp} (Pv : Nat → St → Hp → Prop) (h0 : Pv 0 σ H) (hl : ∀ i σ H, i ≤ xs.length → Pv i σ H → SqL K H a xs)
    (hs : ∀ i x σ H, xs[i]? = some x → Pv i σ H → g x σ H fun σ2 H2 => tb { D with nx := Pv (i + 1), ct := Pv (i + 1), bk := D.nx } σ2 H2) (hd : ∀ σ H, Pv xs.length σ H → D.nx σ H) :
    ∃ W : Nat → Nat → St → Hp → Prop, (∃ m, W 0 m σ H) ∧ ∀ i m σ H, W i m σ H →
      ((Itl K a).stop i H ∧ D.nx σ H) ∨ ((Itl K a).go i H ∧ ∃ N : St → Hp → Prop, (∀ σ' H', N σ' H' → ∃ m', m' < m ∧ W (i + 1) m' σ' H') ∧ ∀ x H', (Itl K a).yld i H x H' → g x σ H' fun σ2 H2 => tb { D with nx := N, ct := N, bk := D.nx } σ2 H2) := by
  refine ⟨fun i m σ H => m = xs.length - i ∧ i ≤ xs.length ∧ Pv i σ H, ⟨xs.length, by simp, Nat.zero_le _, h0⟩, ?_⟩
  rintro i m σ H ⟨rfl, hi, p⟩
  have q := hl i σ H hi p
  by_cases hlt : i < xs.length
  · refine .inr ⟨⟨xs, xs[i], q, by simp [hlt]⟩, Pv (i + 1), fun σ' H' p' => ⟨xs.length - (i + 1), by omega, rfl, hlt, p'⟩, fun x H' y => ?_⟩
    obtain ⟨e, y⟩ := y
    subst e
    exact hs i x σ _ (y xs q) p
  · have e : i = xs.length := by omega
    subst e
    exact .inl ⟨⟨xs, q, Nat.le_refl _⟩, hd σ H p⟩
theorem for_range {lo : Int} {n : Nat} {g : TG} {tb : TS} {D : Ends} {σ : St} {H : Hp} (Pv : Nat → St → Hp → Prop) (h0 : Pv 0 σ H)
    (hs : ∀ i σ H, i < n → Pv i σ H → g (.int (lo + i)) σ H fun σ2 H2 => tb { D with nx := Pv (i + 1), ct := Pv (i + 1), bk := D.nx } σ2 H2) (hd : ∀ σ H, Pv n σ H → D.nx σ H) :
    ∃ W : Nat → Nat → St → Hp → Prop, (∃ m, W 0 m σ H) ∧ ∀ i m σ H, W i m σ H →
      ((Itr lo n).stop i H ∧ D.nx σ H) ∨ ((Itr lo n).go i H ∧ ∃ N : St → Hp → Prop, (∀ σ' H', N σ' H' → ∃ m', m' < m ∧ W (i + 1) m' σ' H') ∧ ∀ x H', (Itr lo n).yld i H x H' → g x σ H' fun σ2 H2 => tb { D with nx := N, ct := N, bk := D.nx } σ2 H2) := by
  refine ⟨fun i m σ H => m = n - i ∧ i ≤ n ∧ Pv i σ H, ⟨n, by simp, Nat.zero_le _, h0⟩, ?_⟩
  rintro i m σ H ⟨rfl, hi, p⟩
  by_cases hlt : i < n
  · refine .inr ⟨hlt, Pv (i + 1), fun σ' H' p' => ⟨n - (i + 1), by omega, rfl, hlt, p'⟩, fun x H' y => ?_⟩
    obtain ⟨e, y⟩ := y
    subst e y
    exact hs i σ _ hlt p
  · have e : i = n := by omega
    subst e
    exact .inl ⟨Nat.le_refl _, hd σ H p⟩
end L2

namespace L2
open PySem PySem.Spec PyProof.Rows

abbrev R2 := V → V → Hp → VK → Prop
/-- a two-place operation on values: f is binaryOp op, inplaceOp op or compareOp op -/
def OpR (X : Cx) (f : Value → Value → Sem Value) (r : R2) : Prop :=
  ∀ (pins : List (Addr × Obj)) (s : Shared) (σ : St) (H : Hp) (x y : V) (v u : Value) (Q : VK), Inv X pins σ H s → RelV x v → RelV y u → r x y H Q →
    wpAny (model X.prog X.w) X.A (f v u) (EP X pins σ Q) X.xe s
/-- a call of a value that is known (a builtin, a type) with values -/
def CallR (X : Cx) (f : Value) (r : List V → Hp → VK → Prop) : Prop :=
  ∀ (pins : List (Addr × Obj)) (s : Shared) (σ : St) (H : Hp) (xs : List V) (us : List Value) (Q : VK), Inv X pins σ H s → Vals xs us → r xs H Q →
    wpAny (model X.prog X.w) X.A (call f us) (EP X pins σ Q) X.xe s
def tOp (r : R2) (ta tb : TE) : TE := fun σ H Q => ta σ H fun x H1 => tb σ H1 fun y H2 => r x y H2 Q
/-- ints in, under C, and a value out -/
def rI (C : Int → Int → Prop) (g : Int → Int → V) : R2 := fun x y H Q => ∃ i j, x = .int i ∧ y = .int j ∧ C i j ∧ Q (g i j) H
def rI0 (g : Int → Int → V) : R2 := fun x y H Q => ∃ i j, x = .int i ∧ y = .int j ∧ Q (g i j) H
section
variable {X : Cx} {a b c : Expr} {ta tb tc : TE} {pos : Pos}

theorem binT (ha : PE X a ta) (hb : PE X b tb) {pins : List (Addr × Obj)} {s : Shared} {σ : St} {H : Hp} {R : V → V → Hp → Prop} (I : Inv X pins σ H s)
    (h : ta σ H fun x H1 => tb σ H1 fun y H2 => R x y H2) {Q : Value → Shared → Prop} {f : Value → Value → Sem Value}
    (hf : ∀ v u s2 x y H2, Inv X pins σ H2 s2 → RelV x v → RelV y u → R x y H2 → wpAny (model X.prog X.w) X.A (f v u) Q X.xe s2) :
    wpAny (model X.prog X.w) X.A (eval a X.env) (fun v s₁ => wpAny (model X.prog X.w) X.A (eval b X.env) (fun u s₂ => wpAny (model X.prog X.w) X.A (f v u) Q X.xe s₂) X.xe s₁) X.xe s := by
  refine thn (ha pins s σ H _ I h) fun v s1 ⟨x, H1, I1, r1, q1⟩ => ?_
  refine thn (hb pins s1 σ H1 _ I1 q1) fun u s2 ⟨y, H2, I2, r2, q2⟩ => ?_
  exact hf v u s2 x y H2 I2 r1 r2 q2

theorem pe_op {op : Operator} {r : R2} (ho : OpR X (binaryOp op) r) (ha : PE X a ta) (hb : PE X b tb) : PE X (.BinOp a op b pos) (tOp r ta tb) := by
  intro pins s σ H Q I h
  exact wpAny_BinOp (binT ha hb I h fun v u s2 x y H2 I2 rx ry q => ho pins s2 σ H2 x y v u Q I2 rx ry q)
/-! ### ints -/
theorem opI {f : Value → Value → Sem Value} {C : Int → Int → Prop} {g : Int → Int → Int}
    (rule : ∀ (i j : Int) (t u : Tok) (s : Shared) (Q : Value → Shared → Prop) (E : Value → Shared → Prop), C i j → Q (.int (g i j) s.toks) { s with toks := s.toks + 1 } → wpAny (model X.prog X.w) X.A (f (.int i t) (.int j u)) Q E s) :
    OpR X f (rI C fun i j => .int (g i j)) := by
  intro pins s σ H x y v u Q I rx ry h
  obtain ⟨i, j, rfl, rfl, hc, q⟩ := h
  obtain ⟨t, rfl⟩ := rx
  obtain ⟨t', rfl⟩ := ry
  exact rule i j t t' s _ _ hc ⟨.int (g i j), H, I.tok _, ⟨_, rfl⟩, q⟩
theorem opI0 {f : Value → Value → Sem Value} {g : Int → Int → Int}
    (rule : ∀ (i j : Int) (t u : Tok) (s : Shared) (Q : Value → Shared → Prop) (E : Value → Shared → Prop), Q (.int (g i j) s.toks) { s with toks := s.toks + 1 } → wpAny (model X.prog X.w) X.A (f (.int i t) (.int j u)) Q E s) :
    OpR X f (rI0 fun i j => .int (g i j)) := by
  intro pins s σ H x y v u Q I rx ry h
  obtain ⟨i, j, rfl, rfl, q⟩ := h
  obtain ⟨t, rfl⟩ := rx
  obtain ⟨t', rfl⟩ := ry
  exact rule i j t t' s _ _ ⟨.int (g i j), H, I.tok _, ⟨_, rfl⟩, q⟩
theorem opB0 {f : Value → Value → Sem Value} {g : Int → Int → Bool}
    (rule : ∀ (i j : Int) (t u : Tok) (s : Shared) (Q : Value → Shared → Prop) (E : Value → Shared → Prop), Q (.bool (g i j)) s → wpAny (model X.prog X.w) X.A (f (.int i t) (.int j u)) Q E s) :
    OpR X f (rI0 fun i j => .bl (g i j)) := by
  intro pins s σ H x y v u Q I rx ry h
  obtain ⟨i, j, rfl, rfl, q⟩ := h
  obtain ⟨t, rfl⟩ := rx
  obtain ⟨t', rfl⟩ := ry
  exact rule i j t t' s _ _ ⟨.bl (g i j), H, I, rfl, q⟩

def CDiv (i j : Int) : Prop := 0 < j ∧ j < 1073741824
def CPow (i j : Int) : Prop := 0 ≤ j ∧ j ≤ 1000000 ∧ i.natAbs < 2 ^ 64
def CMul (i j : Int) : Prop := (-(2 ^ 64) < i ∧ i < 2 ^ 64) ∨ (-(2 ^ 64) < j ∧ j < 2 ^ 64)
theorem CMul.ok {i j : Int} (h : CMul i j) : IntMulOk i j := by
  rcases h with ⟨h1, h2⟩ | ⟨h1, h2⟩
  · exact .of_left (intBits_le_64 h1 h2)
  · exact .of_right (intBits_le_64 h1 h2)
theorem two_pow_nn (k : Nat) : (0 : Int) ≤ 2 ^ k := by
  rw [two_pow_cast]
  exact Int.natCast_nonneg _

theorem op_add : OpR X (binaryOp .Add) (rI0 fun i j => .int (i + j)) := opI0 fun _ _ _ _ _ _ _ q => add_int q
theorem op_sub : OpR X (binaryOp .Sub) (rI0 fun i j => .int (i - j)) := opI0 fun _ _ _ _ _ _ _ q => sub_int q
theorem op_mul : OpR X (binaryOp .Mult) (rI CMul fun i j => .int (i * j)) := opI fun _ _ _ _ _ _ _ hc q => mul_int q hc.ok
/-- // by a positive divisor -/
theorem op_fdiv : OpR X (binaryOp .FloorDiv) (rI CDiv fun i j => .int (i / j)) := opI fun i j _ _ _ _ _ hc q => by
  have h1 : (0 : Int) < j := hc.1
  have h2 : j < 1073741824 := hc.2
  exact floordiv_int (by omega) (by rw [Int.fdiv_eq_ediv_of_nonneg i (by omega)]; exact q) (.inl (PyProof.noPylong_small (by omega)))
/-- % by a positive divisor of any size -/
theorem op_mod : OpR X (binaryOp .Mod) (rI (fun _ j => 0 < j) fun i j => .int (i % j)) := opI fun i j _ _ _ _ _ hc q => by
  have h1 : (0 : Int) < j := hc
  exact mod_int' (by omega) (by rw [Int.fmod_eq_emod_of_nonneg i (by omega)]; exact q)
theorem op_pow : OpR X (binaryOp .Pow) (rI CPow fun i j => .int (i ^ j.toNat)) := opI fun _ _ _ _ _ _ _ hc q => pow_int_small hc.1 hc.2.1 hc.2.2 q
theorem op_shl : OpR X (binaryOp .LShift) (rI CPow fun i j => .int (i * 2 ^ j.toNat)) := opI fun _ _ _ _ _ _ _ hc q => lshift_int_small hc.1 hc.2.1 hc.2.2 q
theorem op_shr : OpR X (binaryOp .RShift) (rI (fun _ j => 0 ≤ j) fun i j => .int (i / 2 ^ j.toNat)) := opI fun i j _ _ _ _ _ hc q =>
  rshift_int hc (by rw [Int.fdiv_eq_ediv_of_nonneg i (two_pow_nn _)]; exact q)
theorem op_and : OpR X (binaryOp .BitAnd) (rI0 fun i j => .int (Builtin.bitAnd i j)) := opI0 fun _ _ _ _ _ _ _ q => and_int q
theorem op_or : OpR X (binaryOp .BitOr) (rI0 fun i j => .int (Builtin.bitOr i j)) := opI0 fun _ _ _ _ _ _ _ q => or_int q
/-! ### bools among ints: n += (a < b) -/
end

/-! ### comparisons -/
/-- the scalars that == tells apart as data does -/
def scal : V → V → Bool
  | .non, .non => true | .non, .int _ => true | .int _, .non => true | .non, .bl _ => true | .bl _, .non => true | .non, .str _ => true | .str _, .non => true
  | .int _, .int _ => true | .bl _, .bl _ => true | .str _, .str _ => true | .byt _, .byt _ => true
  | .int _, .str _ => true | .str _, .int _ => true | .bl _, .str _ => true | .str _, .bl _ => true
  | _, _ => false
def rEq : R2 := fun x y H Q => scal x y = true ∧ Q (.bl (decide (x = y))) H
def rNe : R2 := fun x y H Q => scal x y = true ∧ Q (.bl (!decide (x = y))) H

theorem dec_int {i j : Int} : decide (V.int i = V.int j) = (i == j) := by
  rw [Bool.eq_iff_iff]
  simp
theorem dec_bl {i j : Bool} : decide (V.bl i = V.bl j) = (i == j) := by
  rw [Bool.eq_iff_iff]
  simp
theorem dec_str {i j : Str} : decide (V.str i = V.str j) = (i == j) := by
  rw [Bool.eq_iff_iff]
  simp
theorem dec_byt {i j : Array UInt8} : decide (V.byt i = V.byt j) = (i.toList == j.toList) := by
  rw [Bool.eq_iff_iff]
  cases i
  cases j
  simp

section
variable {X : Cx} {a b c : Expr} {ta tb tc : TE} {pos : Pos}
theorem fin_bl {pins : List (Addr × Obj)} {σ : St} {H : Hp} {s : Shared} {Q : VK} {k k' : Bool} (I : Inv X pins σ H s) (q : Q (.bl k) H) (e : k = k') : EP X pins σ Q (.bool k') s := by
  subst e
  exact ⟨.bl k, H, I, rfl, q⟩
theorem op_eq : OpR X (compareOp .Eq) rEq := by
  intro pins s σ H x y v u Q I rx ry h
  obtain ⟨hs, q⟩ := h
  cases x with
  | non =>
    cases rx
    cases y with
    | non => cases ry; exact PySem.EqNone.eq_none_none (fin_bl I q (by simp))
    | bl j => cases ry; exact PySem.EqNone.eq_none_bool (fin_bl I q (by simp))
    | int j => obtain ⟨t', rfl⟩ := ry; exact PySem.EqNone.eq_none_int (fin_bl I q (by simp))
    | str j => obtain ⟨t', rfl⟩ := ry; exact PySem.EqNone.eq_none_str (fin_bl I q (by simp))
    | _ => exact absurd (show false = true from hs) Bool.false_ne_true
  | bl i =>
    cases rx
    cases y with
    | non => cases ry; exact PySem.EqNone.eq_bool_none (fin_bl I q (by simp))
    | bl j => cases ry; exact eq_bool (fin_bl I q dec_bl)
    | str j => obtain ⟨t', rfl⟩ := ry; exact PySem.EqMixed.eq_bool_str (fin_bl I q (by simp))
    | _ => exact absurd (show false = true from hs) Bool.false_ne_true
  | int i =>
    obtain ⟨t, rfl⟩ := rx
    cases y with
    | non => cases ry; exact PySem.EqNone.eq_int_none (fin_bl I q (by simp))
    | int j => obtain ⟨t', rfl⟩ := ry; exact eq_int (fin_bl I q dec_int)
    | str j => obtain ⟨t', rfl⟩ := ry; exact PySem.EqMixed.eq_int_str (fin_bl I q (by simp))
    | _ => exact absurd (show false = true from hs) Bool.false_ne_true
  | str i =>
    obtain ⟨t, rfl⟩ := rx
    cases y with
    | non => cases ry; exact PySem.EqNone.eq_str_none (fin_bl I q (by simp))
    | bl j => cases ry; exact PySem.EqMixed.eq_str_bool (fin_bl I q (by simp))
    | int j => obtain ⟨t', rfl⟩ := ry; exact PySem.EqMixed.eq_str_int (fin_bl I q (by simp))
    | str j => obtain ⟨t', rfl⟩ := ry; exact eq_str (fin_bl I q dec_str)
    | _ => exact absurd (show false = true from hs) Bool.false_ne_true
  | byt i =>
    obtain ⟨t, rfl⟩ := rx
    cases y with
    | byt j => obtain ⟨t', rfl⟩ := ry; exact PySem.W.eq_bytes (fin_bl I q dec_byt)
    | _ => exact absurd (show false = true from hs) Bool.false_ne_true
  | _ => cases y <;> exact absurd (show false = true from hs) Bool.false_ne_true
theorem op_ne : OpR X (compareOp .NotEq) rNe := by
  intro pins s σ H x y v u Q I rx ry h
  obtain ⟨hs, q⟩ := h
  cases x with
  | non =>
    cases rx
    cases y with
    | non => cases ry; exact PySem.EqNone.ne_none_none (fin_bl I q (by simp))
    | bl j => cases ry; exact PySem.EqNone.ne_none_bool (fin_bl I q (by simp))
    | int j => obtain ⟨t', rfl⟩ := ry; exact PySem.EqNone.ne_none_int (fin_bl I q (by simp))
    | str j => obtain ⟨t', rfl⟩ := ry; exact PySem.EqNone.ne_none_str (fin_bl I q (by simp))
    | _ => exact absurd (show false = true from hs) Bool.false_ne_true
  | bl i =>
    cases rx
    cases y with
    | non => cases ry; exact PySem.EqNone.ne_bool_none (fin_bl I q (by simp))
    | bl j => cases ry; exact ne_bool (fin_bl I q (congrArg not dec_bl))
    | str j => obtain ⟨t', rfl⟩ := ry; exact PySem.EqMixed.ne_bool_str (fin_bl I q (by simp))
    | _ => exact absurd (show false = true from hs) Bool.false_ne_true
  | int i =>
    obtain ⟨t, rfl⟩ := rx
    cases y with
    | non => cases ry; exact PySem.EqNone.ne_int_none (fin_bl I q (by simp))
    | int j => obtain ⟨t', rfl⟩ := ry; exact ne_int (fin_bl I q (congrArg not dec_int))
    | str j => obtain ⟨t', rfl⟩ := ry; exact PySem.EqMixed.ne_int_str (fin_bl I q (by simp))
    | _ => exact absurd (show false = true from hs) Bool.false_ne_true
  | str i =>
    obtain ⟨t, rfl⟩ := rx
    cases y with
    | non => cases ry; exact PySem.EqNone.ne_str_none (fin_bl I q (by simp))
    | bl j => cases ry; exact PySem.EqMixed.ne_str_bool (fin_bl I q (by simp))
    | int j => obtain ⟨t', rfl⟩ := ry; exact PySem.EqMixed.ne_str_int (fin_bl I q (by simp))
    | str j => obtain ⟨t', rfl⟩ := ry; exact ne_str (fin_bl I q (congrArg not dec_str))
    | _ => exact absurd (show false = true from hs) Bool.false_ne_true
  | byt i =>
    obtain ⟨t, rfl⟩ := rx
    cases y with
    | byt j => obtain ⟨t', rfl⟩ := ry; exact PySem.W.ne_bytes (fin_bl I q (congrArg not dec_byt))
    | _ => exact absurd (show false = true from hs) Bool.false_ne_true
  | _ => cases y <;> exact absurd (show false = true from hs) Bool.false_ne_true

theorem op_lt : OpR X (compareOp .Lt) (rI0 fun i j => .bl (decide (i < j))) := opB0 fun _ _ _ _ _ _ _ q => lt_int q
theorem op_le : OpR X (compareOp .LtE) (rI0 fun i j => .bl (decide (i ≤ j))) := opB0 fun _ _ _ _ _ _ _ q => le_int q
theorem op_gt : OpR X (compareOp .Gt) (rI0 fun i j => .bl (decide (j < i))) := opB0 fun _ _ _ _ _ _ _ q => gt_int q
theorem op_ge : OpR X (compareOp .GtE) (rI0 fun i j => .bl (decide (j ≤ i))) := opB0 fun _ _ _ _ _ _ _ q => ge_int q
/-- is None, is not None: the right side a value none -/
theorem op_isN : OpR X (compareOp .Is) (fun x y H Q => y = .non ∧ Q (.bl (decide (x = .non))) H) := by
  intro pins s σ H x y v u Q I rx ry h
  obtain ⟨rfl, q⟩ := h
  cases ry
  refine is_none_gen (fin_bl I q ?_)
  cases x <;> first
    | (cases rx; rfl)
    | (obtain ⟨t, rfl⟩ := rx; rfl)
theorem op_notN : OpR X (compareOp .IsNot) (fun x y H Q => y = .non ∧ Q (.bl (!decide (x = .non))) H) := by
  intro pins s σ H x y v u Q I rx ry h
  obtain ⟨rfl, q⟩ := h
  cases ry
  refine isnot_none_gen (fin_bl I q ?_)
  cases x <;> first
    | (cases rx; rfl)
    | (obtain ⟨t, rfl⟩ := rx; rfl)

theorem nomark (b : Expr) {op : CmpOp} (h : op ≠ .In := by decide) (h2 : op ≠ .NotIn := by decide) : behindInMarks op b = false := by
  have e1 : (op == CmpOp.In) = false := by cases op <;> first | rfl | exact absurd rfl h
  have e2 : (op == CmpOp.NotIn) = false := by cases op <;> first | rfl | exact absurd rfl h2
  cases b <;> simp [behindInMarks, e1, e2]
/-- a comparison as a value; hm: nomark b, or (for in, not in) by with_unfolding_all rfl -/
theorem pe_cmpR {op : CmpOp} {r : R2} (ho : OpR X (compareOp op) r) (ha : PE X a ta) (hb : PE X b tb) (hm : behindInMarks op b = false) : PE X (.Compare a [op] [b] pos) (tOp r ta tb) := by
  intro pins s σ H Q I h
  exact wpAny_Compare1 (binT ha hb I h fun v u s2 x y H2 I2 rx ry q => ho pins s2 σ H2 x y v u Q I2 rx ry q) hm
/-- a reading of a value as a test -/
def tTest (t : TE) : TT := fun σ H Q => t σ H fun x H' => ∃ k, x = .bl k ∧ Q k H'
theorem pt_cmpR {op : CmpOp} {r : R2} (ho : OpR X (compareOp op) r) (ha : PE X a ta) (hb : PE X b tb) (hm : behindInMarks op b = false) : PT X (.Compare a [op] [b] pos) (tTest (tOp r ta tb)) := by
  intro pins s σ H Q I h
  refine wpAny_isTrue_Compare1 (thn (ha pins s σ H _ I h) fun v s1 ⟨x, H1, I1, r1, q1⟩ => thn (hb pins s1 σ H1 _ I1 q1) fun u s2 ⟨y, H2, I2, r2, q2⟩ =>
    thn (ho pins s2 σ H2 x y v u _ I2 r1 r2 q2) fun c s3 ⟨z, H3, I3, r3, k, e, q3⟩ => ?_) hm
  subst e
  cases r3
  exact wpAny_truthy_bool ⟨H3, I3, q3⟩
/-- a op1 b op2 c -/
def tChain (r r' : R2) (ta tb tc : TE) : TE := fun σ H Q => ta σ H fun x H1 => tb σ H1 fun y H2 => r x y H2 fun z H3 => ∃ k, z = .bl k ∧
  (if k = true then tc σ H3 fun w' H4 => r' y w' H4 Q else Q (.bl false) H3)
theorem pe_chain {op op' : CmpOp} {r r' : R2} (ho : OpR X (compareOp op) r) (ho' : OpR X (compareOp op') r') (ha : PE X a ta) (hb : PE X b tb) (hc : PE X c tc)
    (hm : lastMarks [op, op'] [b, c] = false := by with_unfolding_all rfl) : PE X (.Compare a [op, op'] [b, c] pos) (tChain r r' ta tb tc) := by
  intro pins s σ H Q I h
  refine Compare_chain (thn (ha pins s σ H _ I h) fun v s1 ⟨x, H1, I1, r1, q1⟩ => chain_link (thn (hb pins s1 σ H1 _ I1 q1) fun u s2 ⟨y, H2, I2, r2, q2⟩ =>
    thn (ho pins s2 σ H2 x y v u _ I2 r1 r2 q2) fun d s3 ⟨z, H3, I3, r3, k, e, q3⟩ => ?_)) hm
  subst e
  cases r3
  refine wpAny_truthy_bool ?_
  cases k with
  | false => exact ite_ff ⟨.bl false, H3, I3, rfl, q3⟩
  | true => exact ite_tt (chain_last (thn (hc pins s3 σ H3 _ I3 q3) fun w' s4 ⟨z', H4, I4, r4, q4⟩ => ho' pins s4 σ H4 y z' u w' Q I4 r2 r4 q4))
/-! ### truth -/
theorem line63 : (sizeLine : Nat) < 2 ^ 63 := by rw [sizeLine_eq]; decide
/-! ### strs and bytes -/
/-! ### scalar builtins, by CallR -/
theorem vals1 {x : V} {us : List Value} (r : Vals [x] us) : ∃ u, us = [u] ∧ RelV x u := by
  cases r with
  | cons r1 r2 => cases r2; exact ⟨_, rfl, r1⟩
theorem vals2 {x y : V} {us : List Value} (r : Vals [x, y] us) : ∃ u w', us = [u, w'] ∧ RelV x u ∧ RelV y w' := by
  cases r with
  | cons r1 r2 =>
    cases r2 with
    | cons r3 r4 => cases r4; exact ⟨_, _, rfl, r1, r3⟩
theorem call_min2 (hc : X.calm = true) : CallR X (.builtin "min") (fun xs H Q => ∃ i j, xs = [.int i, .int j] ∧ Q (.int (if j < i then j else i)) H) := by
  intro pins s σ H xs us Q I r h
  obtain ⟨i, j, rfl, q⟩ := h
  obtain ⟨u, w', rfl, ⟨t, rfl⟩, ⟨t', rfl⟩⟩ := vals2 r
  refine min_two_ints (I.ok.hd hc) fun h' tk k => ⟨_, H, I.kept k, ?_, q⟩
  by_cases hj : j < i
  · rw [if_pos hj, if_pos hj]; exact ⟨_, rfl⟩
  · rw [if_neg hj, if_neg hj]; exact ⟨_, rfl⟩
theorem call_int1 : CallR X (.type "int") (fun xs H Q => (∃ i, xs = [.int i] ∧ Q (.int i) H) ∨ ∃ k, xs = [.bl k] ∧ Q (.int (if k then 1 else 0)) H) := by
  intro pins s σ H xs us Q I r h
  rcases h with ⟨i, rfl, q⟩ | ⟨k, rfl, q⟩
  · obtain ⟨u, rfl, t, rfl⟩ := vals1 r
    exact call_int_int ⟨.int i, H, I, ⟨_, rfl⟩, q⟩
  · obtain ⟨u, rfl, r1⟩ := vals1 r
    cases r1
    exact call_int_bool ⟨.int (if k then 1 else 0), H, I.tok _, ⟨_, rfl⟩, q⟩
end
end L2

namespace L2
open PySem PySem.Spec PyProof.Rows

/-! ### an instance, its attributes a map -/
structure ObjM (h : Heap) (x dx C : Addr) (mA : Str → Option Value) : Prop where
  obj : h.get? x = some (PySem.W.instObj C dx)
  ns : h.Ns1 dx mA
  ne : dx ≠ x

theorem lookIn_ns {h : Heap} {dx : Addr} {mA : Str → Option Value} (n : h.Ns1 dx mA) : ∃ od, h.get? dx = some od ∧ ∀ name, PySem.W.lookIn name od = some (mA name) := by
  obtain ⟨o, es, ep, ho, hd, hk, _, hm⟩ := n
  refine ⟨o, ho, fun name => ?_⟩
  have e := hm name
  unfold nsFind findBy at e
  rw [← Array.find?_toList] at e
  unfold PySem.W.lookIn
  rw [hd]
  dsimp only
  split
  · rename_i y q
    rw [q] at e
    exact congrArg some e
  · rename_i q
    rw [q] at e
    have a : es.toList.any (·.refKey) = false := by
      rw [List.any_eq_false]
      intro y hy
      obtain ⟨z, t, hkey⟩ := hk y (Array.mem_toList_iff.mp hy)
      simp [DictEntry.refKey, hkey]
    have a' : ¬ es.toList.any (·.refKey) = true := by rw [a]; exact Bool.false_ne_true
    rw [if_neg a']
    exact congrArg some e

theorem ObjM.look {h : Heap} {x dx C : Addr} {mA : Str → Option Value} (I : ObjM h x dx C mA) : ∃ od, PySem.W.InstAt h x (PySem.W.instObj C dx) C (some od) ∧ ∀ name, PySem.W.lookIn name od = some (mA name) :=
  let ⟨od, ho, hl⟩ := lookIn_ns I.ns
  ⟨od, ⟨I.obj, rfl, rfl, ho⟩, hl⟩

section
variable {prog : Program} {w : World} {A : Around} {E : Value → Shared → Prop} {s : Shared} {K : PySem.W.Frag} {x dx C f : Addr} {mA : Str → Option Value} {name : Str} {v : Value}

end

/-! ### the attributes as a list of pairs -/
section
variable {P : Program} {w : World} {H H' : Hp} {h h' : Heap} {a C dx : Addr} {fs fs' : List (Str × V)}
theorem ins_get (hok : HOk P w H h) (e : H a = some (.ins C dx fs)) : ∃ mA, ObjM h a dx C mA ∧ (∀ f, RelO (fs.lookup f) (mA f)) ∧ PySem.Within mA (fs.map (·.1)) ∧ fs.length ≤ 1000 ∧ H dx = some (.own a) := by
  obtain ⟨d, z, ne, ob, mA, n, r, q⟩ := (show ObjOk P w H h a (.ins C dx fs) from hok a _ e)
  exact ⟨mA, ⟨ob, n, ne⟩, r, q, z, d⟩
end

/-! ### what of the text a class must have -/
structure Cls (K : PySem.W.Frag) (C : Addr) : Prop where
  pg : PySem.W.plainGet K C Str.empty = true
  hd : PySem.W.hasDictIn K C = true
  po : PySem.W.plainOver K C = true
  sa : PySem.W.findIn K (.ref C) "__setattr__" = some (some (.builtin "object.__setattr__"))
theorem Cls.get {K : PySem.W.Frag} {C : Addr} (c : Cls K C) (f : Str) : PySem.W.plainGet K C f = true := c.pg
section
variable {X : Cx} {pins : List (Addr × Obj)} {σ : St} {H : Hp} {s : Shared} {a C dx : Addr} {fs : List (Str × V)} {f : Str} {v : V} {A : Around} {E : Value → Shared → Prop}

end

/-! ### readings and rules -/
section
variable {X : Cx} {o e value : Expr} {f : Str} {pos pos' tpos : Pos} {ta tv : TE}
end

/-! ### isinstance -/
section
variable {X : Cx} {pins : List (Addr × Obj)} {σ : St} {H : Hp} {s : Shared} {A : Around} {E : Value → Shared → Prop} {Q : Value → Shared → Prop} {c : Value} {b : Bool}
/-- the type of a value, as the fragment's deciders take it; for an instance its class -/
inductive TyOf (K : PySem.W.Frag) (H : Hp) : V → Value → Prop where
  | non : TyOf K H .non (.type "NoneType")
  | bl (x : Bool) : TyOf K H (.bl x) (.type "bool")
  | int (i : Int) : TyOf K H (.int i) (.type "int")
  | str (x : Str) : TyOf K H (.str x) (.type "str")
  | flt (x : UInt64) : TyOf K H (.flt x) (.type "float")
  | lst {a : Addr} {xs : List V} (e : H a = some (.lst xs)) : TyOf K H (.ref a) (.type "list")
  | frz {a : Addr} {o : Obj} {xs : List V} (e : H a = some (.frz o (.lst xs))) : TyOf K H (.ref a) (.type "list")
  | tup {a : Addr} {xs : List V} (e : H a = some (.tup xs)) : TyOf K H (.ref a) (.type "tuple")
  | dK {a : Addr} {kvs : List (Key × V)} (e : H a = some (.dK kvs)) : TyOf K H (.ref a) (.type "dict")
  | dT {a : Addr} {kvs : List (List Key × V)} (e : H a = some (.dT kvs)) : TyOf K H (.ref a) (.type "dict")
  | ins {a C dx : Addr} {fs : List (Str × V)} (e : H a = some (.ins C dx fs)) (cl : Cls K C) (ha : PySem.W.findIn K (.ref C) "__class__" = some (some (.builtin "object.__class__")))
      (hn : PySem.W.specialIn K (.builtin "object.__class__") "__get__" = some (some (.builtin "getset_descriptor.__get__"))) (htk : PySem.W.takesIn K (.builtin "object.__class__") = some true)
      (hm : PySem.W.mroIn K C (.type "object") = some true) : TyOf K H (.ref a) (.ref C)
/-- isinstance(x, c) for one class c, a built-in or an own one: kitOne's answer -/
theorem isinst_ok {x : V} {u t : Value} (I : Inv X pins σ H s) (rx : RelV x u) (ty : TyOf X.K H x t) (e : PySem.W.kitOne X.K t c = some b) (h : ∀ tk, Q (.bool b) { s with toks := tk }) :
    wpAny (model X.prog X.w) A (call (.builtin "isinstance") [u, c]) Q E s := by
  cases ty with
  | non => cases (show u = Value.none from rx); exact PySem.W.kia_one PySem.W.kitx_none I.kIn True.intro e (fun z => nomatch z) h
  | bl y => cases (show u = Value.bool y from rx); exact PySem.W.kia_one PySem.W.kitx_bool I.kIn True.intro e (fun z => nomatch z) h
  | int i => obtain ⟨t, q⟩ := (show ∃ t, u = Value.int i t from rx); cases q; exact PySem.W.kia_one PySem.W.kitx_int I.kIn True.intro e (fun z => nomatch z) h
  | str y => obtain ⟨t, q⟩ := (show ∃ t, u = Value.str y t from rx); cases q; exact PySem.W.kia_one PySem.W.kitx_str I.kIn True.intro e (fun z => nomatch z) h
  | flt y => obtain ⟨t, q⟩ := (show ∃ t, u = Value.float y t from rx); cases q; exact PySem.W.kia_one PySem.W.kitx_float I.kIn True.intro e (fun z => nomatch z) h
  | @lst a xs ea =>
    cases (show u = Value.ref a from rx)
    obtain ⟨_, _, n, _, h1⟩ := (show ObjOk X.prog X.w H s.heap a (.lst xs) from I.hok a _ ea)
    exact PySem.W.kia_one PySem.W.kitx_list I.kIn ⟨_, h1, rfl⟩ e (fun z => nomatch z) h
  | @frz a ob xs ea =>
    cases (show u = Value.ref a from rx)
    obtain ⟨_, _, _, n, _, h1⟩ := (show ObjOk X.prog X.w H s.heap a (.frz ob (.lst xs)) from I.hok a _ ea)
    exact PySem.W.kia_one PySem.W.kitx_list I.kIn ⟨_, h1, rfl⟩ e (fun z => nomatch z) h
  | @tup a xs ea =>
    cases (show u = Value.ref a from rx)
    obtain ⟨_, _, _, p⟩ := (show ObjOk X.prog X.w H s.heap a (.tup xs) from I.hok a _ ea)
    obtain ⟨o, h1, h2, _⟩ := p
    exact PySem.W.kia_one PySem.W.kitx_tuple I.kIn ⟨o, h1, h2⟩ e (fun z => nomatch z) h
  | @dK a kvs ea =>
    cases (show u = Value.ref a from rx)
    obtain ⟨_, _, vs, _, p⟩ := (show ObjOk X.prog X.w H s.heap a (.dK kvs) from I.hok a _ ea)
    obtain ⟨o, es, ep, h1, h2, _⟩ := p
    exact PySem.W.kia_one PySem.W.kitx_dict I.kIn ⟨o, h1, h2.1⟩ e (fun z => nomatch z) h
  | @dT a kvs ea =>
    cases (show u = Value.ref a from rx)
    obtain ⟨_, _, xs, _, o, es, ep, h1, h2, _⟩ := (show ObjOk X.prog X.w H s.heap a (.dT kvs) from I.hok a _ ea)
    exact PySem.W.kia_one PySem.W.kitx_dict I.kIn ⟨o, h1, h2.1⟩ e (fun z => nomatch z) h
  | @ins a C dx fs ea cl ha hn htk hm =>
    cases (show u = Value.ref a from rx)
    obtain ⟨mA, O, _⟩ := ins_get I.hok ea
    obtain ⟨od, J, _⟩ := O.look
    exact PySem.W.kia_one (PySem.W.kitx_own (cl.get _) cl.hd ha hn htk hm) I.kIn J e (fun z => nomatch z) h
end
end L2

namespace L2
open PySem PySem.Spec PyProof.Rows

/-! ### room -/
structure Room (k : Nat) (A : Around) : Prop where
  hd : A.handled = none
  dp : A.depth + 3 * k + 5 < recursionLimit
  un : A.units + 16 * k + 200 < cLine
theorem Room.mono {j k : Nat} {A : Around} (r : Room k A) (h : j ≤ k) : Room j A := ⟨r.hd, by have := r.dp; omega, by have := r.un; omega⟩
theorem Room.deeper {k : Nat} {A : Around} (r : Room (k + 1) A) (env : Env) : Room k (A.deeper env) :=
  ⟨r.hd, by have := r.dp; show A.depth + 1 + 3 * k + 5 < _; omega, by have := r.un; show A.units + 3 + 16 * k + 200 < _; omega⟩
theorem Room.in1 {k : Nat} {A : Around} (r : Room (k + 1) A) : Room k A.in1 :=
  ⟨r.hd, by have := r.dp; show A.depth + 3 * k + 5 < _; omega, by have := r.un; show A.units + 1 + 16 * k + 200 < _; omega⟩
theorem Room.depth {k : Nat} {A : Around} (r : Room k A) : A.depth < recursionLimit := by have := r.dp; omega
theorem Room.units {k : Nat} {A : Around} (r : Room k A) : A.units + 64 < cLine := by have := r.un; omega
/-! ### argument lists and displays -/
def tNil : TA := fun _ H Q => Q [] H
def tCons (ta : TE) (tr : TA) : TA := fun σ H Q => ta σ H fun x H1 => tr σ H1 fun xs H2 => Q (x :: xs) H2
section
variable {X : Cx} {e : Expr} {es : List Expr} {te : TE} {t : TA} {pos : Pos}
theorem pa_nil : PA X [] tNil := fun _ _ _ _ H Q I h => Calls.spliced_nil ⟨[], H, I, .nil, h⟩
theorem pa_cons (ha : PE X e te) (hr : PA X es t) (hs : starEach (e :: es) X.env = (false, eval e X.env) :: starEach es X.env := by rfl) : PA X (e :: es) (tCons te t) := by
  intro pos pins s σ H Q I h
  rw [hs]
  show wpAny _ _ (spliced ((false, eval e X.env) :: backTo pos (starEach es X.env))) _ _ s
  refine Calls.spliced_cons (thn (ha pins s σ H _ I h) fun u s1 ⟨x, H1, I1, r1, q1⟩ => ?_)
  exact thn (hr pos pins s1 σ H1 _ I1 q1) fun us s2 ⟨xs, H2, I2, r2, q2⟩ => ⟨x :: xs, H2, I2, .cons r1 r2, q2⟩

/-- a tuple, a list of written items -/
def tTup (t : TA) : TE := fun σ H Q => t σ H fun xs H1 => xs.length ≤ sizeLine ∧ ∀ p, H1 p = none → Q (.ref p) (upd H1 p (.tup xs))
def tLst (t : TA) : TE := fun σ H Q => t σ H fun xs H1 => xs.length ≤ sizeLine ∧ ∀ p, H1 p = none → Q (.ref p) (upd H1 p (.lst xs))
theorem pe_tup {x1} (h : PA X es t) : PE X (.Tuple es x1 pos) (tTup t) := by
  intro pins s σ H Q I hq
  refine wpAny_Tuple_spliced (thn (h pos pins s σ H _ I hq) fun us s1 ⟨xs, H1, I1, r, z, q⟩ => ⟨by rw [← r.length]; exact z, ?_⟩)
  have hf : H1 s1.heap.objs.size = none := I1.hok.fresh (Nat.le_refl _)
  refine ⟨.ref s1.heap.objs.size, upd H1 s1.heap.objs.size (.tup xs), I1.laid (t' := s1.toks) (fun b u e => Heap.get?_push_of_some _ e) (Nat.le_refl _) ?_, rfl, q _ hf⟩
  exact ⟨z, us, r, ⟨_, Heap.get?_push_size _ rfl, rfl, _, rfl⟩⟩
theorem pe_lst (h : PA X es t) : PE X (.List es pos) (tLst t) := by
  intro pins s σ H Q I hq
  refine wpAny_List_spliced (thn (h pos pins s σ H _ I hq) fun us s1 ⟨xs, H1, I1, r, z, q⟩ => ⟨by rw [← r.length]; exact z, ?_⟩)
  have hf : H1 s1.heap.objs.size = none := I1.hok.fresh (Nat.le_refl _)
  refine ⟨.ref s1.heap.objs.size, upd H1 s1.heap.objs.size (.lst xs), I1.laid (t' := s1.toks) (fun b u e => Heap.get?_push_of_some _ e) (Nat.le_refl _) ?_, rfl, q _ hf⟩
  exact ⟨z, us, 0, r, Heap.get?_push_size _ rfl⟩
end

/-! ### what a def promises -/
/-- a def's promise: the bound arguments in the parameters' order, the heap, the wanted end, the wanted exception -/
abbrev Sp := List V → Hp → VK → XK → Prop
/-- how an exception lies behind a call (file 08 gives it): the callers' frames, abstract heap and state ahead of the call, the wish, the exception, the state -/
abbrev CXT := List Env → Hp → Shared → XK → Value → Shared → Prop

/-- the state at a call -/
structure Env0 (P : Program) (w : World) (K : PySem.W.Frag) (mg : Str → Option Value) (base : Heap) (A : Around) (outer : List Env) (s : Shared) (H : Hp) : Prop where
  frames : A.frames = some outer
  mod : Mod K mg base
  bs : ∀ b o, base.get? b = some o → s.heap.get? b = some o ∧ H b = none
  bsz : base.objs.size ≤ s.heap.objs.size
  funs : s.heap.FunFrames base outer
  frf : ∀ b ∈ frs outer, H b = none
  hok : HOk P w H s.heap
  bare : AllBare s.gens
/-- a call's end -/
def CE (outer : List Env) (P : Program) (w : World) (H : Hp) (s : Shared) (Q : VK) (u : Value) (s' : Shared) : Prop :=
  ∃ v H', s'.os = s.os ∧ AllBare s'.gens ∧ Un (frs outer) [] H H' s.heap s'.heap ∧ HOk P w H' s'.heap ∧ RelV v u ∧ Q v H'
def CR (CX : CXT) (outer : List Env) (P : Program) (w : World) (H : Hp) (s : Shared) (Q : VK) (E : XK) (r : Result) (s' : Shared) : Prop :=
  match r with
  | .ok (.ret u) => CE outer P w H s Q u s'
  | .ok _ => False
  | .error e => CX outer H s E e s'
structure FnOk (P : Program) (w : World) (K : PySem.W.Frag) (mg : Str → Option Value) (base : Heap) (CX : CXT) (k : Nat) (f : Addr) (fd : FuncData) (ps : List Str) (sp : Sp) : Prop where
  len : ∀ vs H Q E, sp vs H Q E → vs.length = ps.length
  run : ∀ (A : Around) (outer : List Env) (s : Shared) (H : Hp) (args : Args) (us : List Value) (vs : List V) (Q : VK) (E : XK), Room k A → Env0 P w K mg base A outer s H → BindsTo s fd args (ps.zip us) → Vals vs us → sp vs H Q E →
    codeAny (model P w) A (.call (.ref f) args) (CR CX outer P w H s Q E) s
/-- a weaker promise -/
theorem FnOk.imp {P : Program} {w : World} {K : PySem.W.Frag} {mg : Str → Option Value} {base : Heap} {CX : CXT} {k : Nat} {f : Addr} {fd : FuncData} {ps : List Str} {sp sp' : Sp} (F : FnOk P w K mg base CX k f fd ps sp)
    (h : ∀ vs H Q E, sp' vs H Q E → sp vs H Q E) : FnOk P w K mg base CX k f fd ps sp' :=
  ⟨fun vs H Q E q => F.len vs H Q E (h _ _ _ _ q), fun A outer s H args us vs Q E hr he hb hv hs => F.run A outer s H args us vs Q E hr he hb hv (h _ _ _ _ hs)⟩

section
variable {X : Cx} {pins : List (Addr × Obj)} {σ : St} {H : Hp} {s s' : Shared}
/-- from a body: what a callee wants -/
theorem Inv.env0 (I : Inv X pins σ H s) : Env0 X.prog X.w X.K X.mg X.base X.A X.stack s H :=
  ⟨I.ok.frames, I.ok.mod, I.bs, Nat.le_trans I.ok.bsz I.sz, I.stack, I.stkFree, I.hok, I.bare⟩
/-- behind a call -/
theorem Inv.after {Q : VK} {u : Value} (I : Inv X pins σ H s) (h : CE X.stack X.prog X.w H s Q u s') : EP X pins σ Q u s' := by
  obtain ⟨v, H', os, bare, un, hok, r, q⟩ := h
  obtain ⟨hh, g, d, t, os'⟩ := s'
  obtain rfl : os' = s.os := os
  exact ⟨v, H', I.call (h' := hh) (g' := g) (d' := d) (t' := t) (ch := []) un hok bare (fun b z => absurd z (by simp)), r, q⟩
end

/-! ### calls -/
/-- f(..): the written arguments, then the defaults dvs; E: what is wanted of an exception -/
def tCall (sp : Sp) (dvs : List V) (E : XK) (t : TA) : TE := fun σ H Q => t σ H fun vs H1 => sp (vs ++ dvs) H1 Q E
/-- how the parameters are bound: us the positional arguments, kw the keywords' values by name, ds the defaults that fill up -/
def Binds (K : PySem.W.Frag) (fd : FuncData) (ps : List Str) (ds : List Value) : Prop :=
  ∀ (s : Shared) (us : List Value), K.In s.heap → (us ++ ds).length = ps.length → BindsTo s fd ⟨us, []⟩ (ps.zip (us ++ ds))
/-- every parameter is given -/
theorem Binds.all {K : PySem.W.Frag} {fd : FuncData} {ps : List Str} (h : ∀ us : List Value, us.length = ps.length → bindArgs fd ⟨us, []⟩ = pure (ps.zip us)) : Binds K fd ps [] := fun s us _ hl => by
  rw [List.append_nil] at hl ⊢
  exact .of_eq (h us hl)

/-- an exception of a callee reaches what this body wants of exceptions -/
def Passes (CX : CXT) (X : Cx) (E : XK) : Prop := ∀ (pins : List (Addr × Obj)) (σ : St) (H : Hp) (s : Shared) (e : Value) (s' : Shared), Inv X pins σ H s → CX X.stack H s E e s' → X.xe e s'

section
variable {X : Cx} {CX : CXT} {k : Nat} {f C : Addr} {fd : FuncData} {ps : List Str} {sp : Sp} {dvs : List V} {ds : List Value} {E : XK} {x m : Str} {p pos apos : Pos} {e o : Expr} {es : List Expr} {ta : TE} {t : TA}

/-- the callee runs -/
theorem run_fn {pins : List (Addr × Obj)} {σ : St} {H : Hp} {s : Shared} {Q : VK} {us : List Value} {vs : List V} (F : FnOk X.prog X.w X.K X.mg X.base CX k f fd ps sp) (hr : Room k X.A) (hb : Binds X.K fd ps ds) (hd : Vals dvs ds) (hx : Passes CX X E)
    (I : Inv X pins σ H s) (r : Vals vs us) (h : sp (vs ++ dvs) H Q E) : wpAny (model X.prog X.w) X.A (call (.ref f) us) (EP X pins σ Q) X.xe s := by
  have r2 : Vals (vs ++ dvs) (us ++ ds) := r.append hd
  have hl : (us ++ ds).length = ps.length := by rw [← r2.length]; exact F.len _ _ _ _ h
  refine wpAny_call (codeAny_mono (F.run X.A X.stack s H ⟨us, []⟩ (us ++ ds) (vs ++ dvs) Q E hr I.env0 (hb s us I.kIn hl) r2 h) fun r s' hq => ?_)
  cases r with
  | error e => exact hx pins σ H s e s' I hq
  | ok fl =>
    cases fl with
    | ret u => exact I.after hq
    | next => exact False.elim hq
    | brk => exact False.elim hq
    | cont => exact False.elim hq

theorem pe_call (F : FnOk X.prog X.w X.K X.mg X.base CX k f fd ps sp) (hr : Room k X.A) (hg : Gl X x) (hm : X.mg x = some (.ref f)) (hk : PySem.W.keepIn X.K (.ref f) = true) (hb : Binds X.K fd ps ds) (hd : Vals dvs ds) (hx : Passes CX X E)
    (ha : PA X (e :: es) t) (hdb : (x == ("__debug__" : Str)) = false := by decide) (he : starEach (e :: es) X.env = (false, eval e X.env) :: starEach es X.env := by rfl) (hpl : (backTo pos (starEach es X.env)).any (·.1) = false := by rfl) :
    PE X (.Call (.Name x p) (e :: es) [] pos) (tCall sp dvs E t) := by
  intro pins s σ H Q I h
  refine wpAny_Call_Name_kw (ld_glob I hg hm ?_ hdb)
  refine PySem.W.callWith_K (h₀ := X.base) I.ok.mod.kin hk (thn (ha pos pins s σ H _ I h) fun us s1 ⟨vs, H1, I1, r, q⟩ => ⟨I1.kIn, ?_⟩) he hpl
  exact run_fn F hr hb hd hx I1 r q
end

/-! ### keywords -/
/-- the values of the keywords, from the left -/
def PK (X : Cx) (kws : List Keyword) (t : TA) : Prop :=
  ∀ (pos : Pos) (pins : List (Addr × Obj)) (s : Shared) (σ : St) (H : Hp) (Q : List V → Hp → Prop), Inv X pins σ H s → t σ H Q → wpAny (model X.prog X.w) X.A (evalAll ((backToKw pos (keywordEach kws X.env)).map (·.2))) (AP X pins σ Q) X.xe s
section
variable {X : Cx} {CX : CXT} {k : Nat} {f C : Addr} {fd : FuncData} {ps ks : List Str} {sp : Sp} {E : XK} {x m : Str} {p pos apos kpos : Pos} {e o : Expr} {es : List Expr} {kws : List Keyword} {te ta : TE} {t tk : TA} {nm : Option Str}
theorem pk_nil : PK X [] tNil := fun _ _ _ _ H Q I h => wpAny_evalAll_nil ⟨[], H, I, .nil, h⟩
theorem pk_cons (ha : PE X e te) (hr : PK X kws t) : PK X (⟨nm, e, kpos⟩ :: kws) (tCons te t) := by
  intro pos pins s σ H Q I h
  show wpAny _ _ (evalAll ((do let v ← eval e X.env; standAt pos; pure v) :: (backToKw pos (keywordEach kws X.env)).map (·.2))) _ _ s
  refine wpAny_evalAll_cons (wpAny_bind (thn (ha pins s σ H _ I h) fun u s1 ⟨x, H1, I1, r1, q1⟩ => wpAny_bind (wpAny_standAt (wpAny_pure ?_))))
  exact thn (hr pos pins s1 σ H1 _ I1 q1) fun us s2 ⟨xs, H2, I2, r2, q2⟩ => ⟨x :: xs, H2, I2, .cons r1 r2, q2⟩

variable {g : List Value → List Value → List Value} {gV : List V → List V → List V}
end

/-! ### a def's body keeps its promise -/
/-- names: the parameters first -/
structure FnScope (N P : List Str) (sc : Scope) : Prop where
  kind : sc.kind = .function
  co : sc.isCoroutine = false
  gen : sc.isGenerator = false
  nd : N.Nodup
  pre : N.take P.length = P
  par : ∀ x ∈ P, sc.names.lookup x = some .local ∨ sc.names.lookup x = some .cell
  nofree : ∀ y ∈ sc.names, y.2 ≠ .free

theorem bindL_out {kindOf : Str → Option NameKind} {x : Str} : ∀ {binds : List (Str × Value)} {m : Str → Option Value}, (∀ v, (x, v) ∉ binds) → bindL kindOf binds m x = m x
  | [], _, _ => rfl
  | (n, v) :: r, m, h => by
    unfold bindL
    rw [bindL_out fun w hw => h w (List.mem_cons_of_mem _ hw)]
    split
    · have : x ≠ n := by rintro rfl; exact h v List.mem_cons_self
      simp [this]
    · rfl
theorem bindC_out {kindOf : Str → Option NameKind} {x : Str} : ∀ {binds : List (Str × Value)} {m : Str → Option Value}, (∀ v, (x, v) ∉ binds) → bindC kindOf binds m x = m x
  | [], _, _ => rfl
  | (n, v) :: r, m, h => by
    unfold bindC
    rw [bindC_out fun w hw => h w (List.mem_cons_of_mem _ hw)]
    split
    · rfl
    · have : x ≠ n := by rintro rfl; exact h v List.mem_cons_self
      simp [this]
theorem bindL_get {kindOf : Str → Option NameKind} {x : Str} {v : Value} : ∀ {P : List Str} {vs : List Value} {i : Nat} {m : Str → Option Value}, P.Nodup → P[i]? = some x → vs[i]? = some v → kindOf x = some .local →
    bindL kindOf (P.zip vs) m x = some v
  | [], _, _, _, _, h, _, _ => by simp at h
  | _ :: _, [], _, _, _, _, h, _ => by simp at h
  | p :: P, w :: vs, 0, m, nd, h1, h2, hk => by
    simp at h1 h2; subst h1; subst h2
    show bindL kindOf ((p, w) :: P.zip vs) m p = _
    unfold bindL
    rw [bindL_out fun v hv => (List.nodup_cons.mp nd).1 (List.of_mem_zip hv).1, if_pos hk]
    simp
  | p :: P, w :: vs, i + 1, m, nd, h1, h2, hk => by
    show bindL kindOf ((p, w) :: P.zip vs) m x = _
    unfold bindL
    exact bindL_get (i := i) (List.nodup_cons.mp nd).2 (by simpa using h1) (by simpa using h2) hk
theorem bindC_get {kindOf : Str → Option NameKind} {x : Str} {v : Value} : ∀ {P : List Str} {vs : List Value} {i : Nat} {m : Str → Option Value}, P.Nodup → P[i]? = some x → vs[i]? = some v → kindOf x ≠ some .local →
    bindC kindOf (P.zip vs) m x = some v
  | [], _, _, _, _, h, _, _ => by simp at h
  | _ :: _, [], _, _, _, _, h, _ => by simp at h
  | p :: P, w :: vs, 0, m, nd, h1, h2, hk => by
    simp at h1 h2; subst h1; subst h2
    show bindC kindOf ((p, w) :: P.zip vs) m p = _
    unfold bindC
    rw [bindC_out fun v hv => (List.nodup_cons.mp nd).1 (List.of_mem_zip hv).1, if_neg hk]
    simp
  | p :: P, w :: vs, i + 1, m, nd, h1, h2, hk => by
    show bindC kindOf ((p, w) :: P.zip vs) m x = _
    unfold bindC
    exact bindC_get (i := i) (List.nodup_cons.mp nd).2 (by simpa using h1) (by simpa using h2) hk

/-- the names' values at the entry -/
def start (N : List Str) (vs : List V) : St := vs.map some ++ List.replicate (N.length - vs.length) none

/-- the context of a def's body, at its entry; an exception leaves the frame, then lies as CX says -/
def cxOf (CX : CXT) (P : Program) (w : World) (K : PySem.W.Frag) (mg : Str → Option Value) (base : Heap) (N : List Str) (qual : Str) (scope : Scope) (f : Addr) (cd : Value) (A : Around) (outer : List Env) (s : Shared) (H : Hp) (E : XK) : Cx where
  prog := P
  w := w
  K := K
  mg := mg
  base := base
  A := A.deeper (envOfC qual scope s.heap.objs.size f cd)
  N := N
  s₀ := s
  H₀ := H
  env := envOfC qual scope s.heap.objs.size f cd
  outer := outer
  stack := envOfC qual scope s.heap.objs.size f cd :: outer
  ex := []
  calm := true
  fn := fun _ => true
  pn := []
  xe := fun e s' => wpAny (model P w) (A.deeper (envOfC qual scope s.heap.objs.size f cd)) (leaving (envOfC qual scope s.heap.objs.size f cd) e) (fun _ s'' => CX outer H s E e s'') (fun e' s'' => CX outer H s E e' s'') s'

theorem cell_has {sc : Scope} {n : Nat} {x : Str} (h : sc.names.lookup x = some .cell) : ∃ c, (cellsFrom n sc.names []).lookup x = some c := by
  have q := PySem.W.cellsFrom_some sc.names n [] (.inl h)
  exact Option.isSome_iff_exists.mp q

theorem inv_start {CX : CXT} {P : Program} {w : World} {K : PySem.W.Frag} {mg : Str → Option Value} {base : Heap} {N ps : List Str} {qual : Str} {scope : Scope} {f : Addr} {cd : Value} {A : Around} {outer : List Env} {s s1 : Shared} {H : Hp} {E : XK} {us : List Value} {vs : List V}
    (S : FnScope N ps scope) (hd : A.handled = none) (e0 : Env0 P w K mg base A outer s H) (hl : vs.length = ps.length) (r : Vals vs us)
    (x : InCallC s s.heap.objs.size (bindL (envOfC qual scope s.heap.objs.size f cd).kindOf (ps.zip us) fun _ => none) (cellsFrom (s.heap.objs.size + 1) scope.names []) (bindC (envOfC qual scope s.heap.objs.size f cd).kindOf (ps.zip us) fun _ => none) s1) :
    Inv (cxOf CX P w K mg base N qual scope f cd A outer s H E) [] (start N vs) H s1 := by
  have hpl : ps.length ≤ N.length := by have := congrArg List.length S.pre; rw [List.length_take] at this; omega
  obtain ⟨h1, tk, rfl, hk⟩ := x.done
  have noA : ∀ b : Addr, b ∉ (cxOf CX P w K mg base N qual scope f cd A outer s H E).ex := fun b z => absurd (show b ∈ ([] : List Addr) from z) (by simp)
  refine ⟨⟨e0.mod, S.kind, rfl, rfl, Nat.le_refl _, fun y z c h1 h2 => ?_, fun y hy => ?_, fun y c _ h => ?_, fun _ => hd, Around.frames_deeper e0.frames, .inr ⟨rfl, rfl⟩, fun b z => absurd z (noA b), e0.bs, e0.bsz, fun b _ _ => noA b, fun b z => absurd z (noA b), e0.funs, e0.frf⟩,
    rfl, e0.bare, Un.kept hk, ⟨_, x.toInCall.ns, fun i y v h1 h2 h3 => ?_⟩, fun y c h => ⟨_, x.cell y c h⟩, e0.hok.fresh (Nat.le_refl _), fun y c h => ?_, fun p hp => absurd (show p ∈ ([] : List (Addr × Obj)) from hp) (by simp), e0.hok.kept hk, ?_⟩
  · exact name_of_addr x.apart (PySem.mem_of_lookup h1) (PySem.mem_of_lookup h2)
  · have hy : scope.names.lookup y = some .cell ∨ scope.names.lookup y = some .free := hy
    rcases hy with hy | hy
    · exact cell_has hy
    · exact absurd rfl (S.nofree _ (PySem.mem_of_lookup hy))
  · exact Nat.le_of_lt (x.above y c (PySem.mem_of_lookup h))
  · have hi : i < vs.length := by
      unfold start at h2
      by_cases hi : i < vs.length
      · exact hi
      · rw [List.getElem?_append_right (by simpa using hi)] at h2
        rw [List.getElem?_replicate] at h2
        split at h2 <;> cases h2
    have ha : vs[i]? = some v := by
      unfold start at h2
      rw [List.getElem?_append_left (by simpa using hi), List.getElem?_map] at h2
      cases e : vs[i]? with
      | none => rw [e] at h2; cases h2
      | some a => rw [e] at h2; cases h2; rfl
    obtain ⟨u, hu, rv⟩ := r.get ha
    have hp : ps[i]? = some y := by
      rw [← S.pre, List.getElem?_take_of_lt (by omega)]; exact h1
    have ndP : ps.Nodup := by rw [← S.pre]; exact S.nd.sublist (List.take_sublist _ _)
    refine ⟨u, rv, ?_⟩
    rcases S.par y (List.mem_of_getElem? hp) with k | k
    · exact .inl ⟨k, bindL_get ndP hp hu k⟩
    · obtain ⟨c, e⟩ := cell_has (n := s.heap.objs.size + 1) k
      refine .inr ⟨.inl k, c, e, ?_⟩
      have q := x.cell y c e
      rw [bindC_get ndP hp hu (by show scope.names.lookup y ≠ _; rw [k]; decide)] at q
      exact q
  · exact e0.hok.fresh (Nat.le_of_lt (x.above y c (PySem.mem_of_lookup h)))
  · unfold start
    show _ = N.length
    rw [List.length_append, List.length_map, List.length_replicate]
    omega

/-- THE RULE: a def (or a method) of the text, by its body. The body's reading t is chosen for each entry; it is run at the parameters' values -/
theorem fn_of {CX : CXT} {P : Program} {w : World} {K : PySem.W.Frag} {mg : Str → Option Value} {base : Heap} {k : Nat} {f : Addr} {name qual : Str} {params : Arguments} {body : List Stmt} {scope : Scope} {dV kV doc pm cdv ct oc : Value} {an od : Option Addr}
    {osl : Array (Option Value)} {N ps : List Str} {sp : Sp} (lk : K.lookup f = some ⟨oc, od, .func (PySem.W.fnOf name qual params body scope dV kV doc pm an cdv ct), osl⟩) (hcd : PySem.W.codeIn K cdv qual = true) (S : FnScope N ps scope)
    (len : ∀ vs H Q E, sp vs H Q E → vs.length = ps.length)
    (hbody : ∀ (A : Around) (outer : List Env) (s : Shared) (H : Hp) (vs : List V) (Q : VK) (E : XK), Room k (A.deeper (envOfC qual scope s.heap.objs.size f cdv)) → sp vs H Q E →
      ∃ t, PSs (cxOf CX P w K mg base N qual scope f cdv A outer s H E) body t ∧ t { nx := fun _ H' => Q .non H', rt := Q } (start N vs) H) :
    FnOk P w K mg base CX (k + 1) f (PySem.W.fnOf name qual params body scope dV kV doc pm an cdv ct) ps sp := by
  refine ⟨len, fun A outer s H args us vs Q E hr e0 hb r hsp => ?_⟩
  have hl := len _ _ _ _ hsp
  have KX : K.In s.heap := e0.mod.kin.keeps fun b o e => (e0.bs b o e).1
  have lim : s.heap.NoLimit := e0.mod.nolimit.keeps fun b o e => (e0.bs b o e).1
  have hkind : ∀ y ∈ ps.zip us, scope.names.lookup y.1 = some .local ∨ (scope.names.lookup y.1 = some .cell ∧ ((cellsFrom (s.heap.objs.size + 1) scope.names []).lookup y.1).isSome = true) := fun ⟨n, v⟩ hy => by
    rcases S.par n (List.of_mem_zip hy).1 with q | q
    · exact .inl q
    · exact .inr ⟨q, PySem.W.cellsFrom_some _ _ _ (.inl q)⟩
  refine codeAny_call_function hr.depth (KX _ _ lk) rfl S.co S.gen rfl (PySem.W.codeRec_of KX hcd) (hb _ _ _ _ ?_)
  refine wpAny_newFunctionEnv_cells S.kind hkind fun env he s1 x => ?_
  subst he
  refine ⟨lim.keeps x.toInCall.keep, codeAny_func ?_⟩
  obtain ⟨t, ht, hq⟩ := hbody A outer s H vs Q E (hr.deeper _) hsp
  have I : Inv (cxOf CX P w K mg base N qual scope f cdv A outer s H E) [] (start N vs) H s1 := inv_start S hr.hd e0 hl r x
  refine wpAny_mono (ht [] s1 (start N vs) H _ I hq) (fun fl s' hs => ?_) fun e s' hs => hs
  have fin : ∀ {σ' : St} {H' : Hp} {v : V} {u : Value}, Inv (cxOf CX P w K mg base N qual scope f cdv A outer s H E) [] σ' H' s' → RelV v u → Q v H' → CE outer P w H s Q u s' :=
    fun {σ' H' v u} J rv q => ⟨v, H', J.os, J.bare, J.base, J.hok, rv, q⟩
  cases fl with
  | ret u =>
    obtain ⟨v, σ', H', J, rv, q⟩ := hs
    exact fin J rv q
  | next =>
    obtain ⟨σ', H', J, q⟩ := hs
    exact fin (v := V.non) (u := Value.none) J rfl q
  | brk =>
    obtain ⟨_, _, _, q⟩ := hs
    exact False.elim q
  | cont =>
    obtain ⟨_, _, _, q⟩ := hs
    exact False.elim q
end L2

namespace L2
open PySem PySem.Spec PyProof.Rows
section
variable {X : Cx} {x : Str} {p pos : Pos} {e : Expr} {es : List Expr} {t : TA} {id T : String} {r : List V → Hp → VK → Prop}

def tCB (r : List V → Hp → VK → Prop) (t : TA) : TE := fun σ H Q => t σ H fun vs H1 => r vs H1 Q
/-- f(e, ..), f a built-in function -/
theorem pe_callB (hc : CallR X (.builtin id) r) (hg : Gl X x) (hm : X.mg x = none) (hv : bootBuiltins x = some (.builtin id)) (ha : PA X (e :: es) t) (hn : x ≠ "__name__" := by decide) (hdb : (x == ("__debug__" : Str)) = false := by decide)
    (he : starEach (e :: es) X.env = (false, eval e X.env) :: starEach es X.env := by rfl) (hpl : (backTo pos (starEach es X.env)).any (·.1) = false := by rfl) : PE X (.Call (.Name x p) (e :: es) [] pos) (tCB r t) := by
  intro pins s σ H Q I h
  refine wpAny_Call_Name_kw (ld_blt I hg hm hv ?_ hn hdb)
  exact PyProof.Rows.callWith_builtin1 (thn (ha pos pins s σ H _ I h) fun us s1 ⟨vs, H1, I1, r1, q1⟩ => hc pins s1 σ H1 vs us Q I1 r1 q1) he hpl
/-- T(e, ..), T a built-in type -/
theorem pe_callTy (hc : CallR X (.type T) r) (hg : Gl X x) (hm : X.mg x = none) (hv : bootBuiltins x = some (.type T)) (ha : PA X (e :: es) t) (hn : x ≠ "__name__" := by decide) (hdb : (x == ("__debug__" : Str)) = false := by decide)
    (he : starEach (e :: es) X.env = (false, eval e X.env) :: starEach es X.env := by rfl) (hpl : (backTo pos (starEach es X.env)).any (·.1) = false := by rfl) : PE X (.Call (.Name x p) (e :: es) [] pos) (tCB r t) := by
  intro pins s σ H Q I h
  refine wpAny_Call_Name_kw (ld_blt I hg hm hv ?_ hn hdb)
  exact PyProof.Rows.callWith_type1 (thn (ha pos pins s σ H _ I h) fun us s1 ⟨vs, H1, I1, r1, q1⟩ => hc pins s1 σ H1 vs us Q I1 r1 q1) he hpl
end
end L2

namespace HT
open PySem PyProof.Rows

section
open PySem.SeqAt
open PySem.AutoSeq1 (wpAny_loadPart')
open PySem.MeetsSeq PySem.MeetsSeq2 PySem.MeetsSeq3

end

section
variable {prog : Program} {w : World} {A : Around} {E : Value → Shared → Prop} {s : Shared}

/-! ### t[a:b], not the whole -/
/-- a slice's bound as a place among n (d where it is left out) -/
def sIx (n d : Nat) : Option Int → Nat
  | none => d
  | some v => if v < 0 then (v + (n : Int)).toNat else min v.toNat n
theorem sIx_le (n d : Nat) (hd : d ≤ n) (o : Option Int) : sIx n d o ≤ n := by
  cases o with
  | none => exact hd
  | some v =>
    show (if v < 0 then (v + (n : Int)).toNat else min v.toNat n) ≤ n
    by_cases hv : v < 0
    · rw [if_pos hv]; omega
    · rw [if_neg hv]; exact Nat.min_le_right _ _
theorem clip_eq (v : Int) (n d : Nat) : (if v < 0 then max (v + (n : Int)) 0 else min v (n : Int)) = ((sIx n d (some v) : Nat) : Int) := by
  show (if v < 0 then max (v + (n : Int)) 0 else min v (n : Int)) = (((if v < 0 then (v + (n : Int)).toNat else min v.toNat n) : Nat) : Int)
  by_cases hv : v < 0
  · simp only [if_pos hv]; omega
  · simp only [if_neg hv]; omega
theorem adjust_gen (lo hi : Option Int) (n : Nat) : Builtin.Slice.sliceAdjust lo hi 1 (n : Int) = (((sIx n 0 lo : Nat) : Int), ((sIx n n hi : Nat) : Int)) := by
  have h1 : ¬ ((1 : Int) < 0) := by omega
  unfold Builtin.Slice.sliceAdjust
  simp only [h1, if_false]
  refine Prod.ext ?_ ?_
  · cases lo with
    | none => rfl
    | some v => exact clip_eq v n 0
  · cases hi with
    | none => rfl
    | some v => exact clip_eq v n n
theorem places_gen (i j : Nat) : Builtin.Slice.slicePlaces (i : Int) (j : Int) 1 = j - i := by
  unfold Builtin.Slice.slicePlaces
  have h1 : (1 : Int) > 0 := by omega
  simp only [h1, if_true, Int.ediv_one]
  split <;> omega
theorem slicePart_ {v : Value} {o : Option Int} {Q : Option Int → Shared → Prop} (p : IsPart v o) (h : Q o s) : wpAny (model prog w) A (Builtin.Slice.slicePartIndex v) Q E s := by
  cases p with
  | none => exact slicePart_none h
  | int i t => exact slicePart_int h
theorem sliceApplied_gen {sl : Addr} {vl vu : Value} {lo hi : Option Int} {n : Nat} {Q : Int × Int × Nat → Shared → Prop} (hs : s.heap.IsSliceOf sl vl vu .none) (pl : IsPart vl lo) (pu : IsPart vu hi)
    (h : Q (((sIx n 0 lo : Nat) : Int), 1, sIx n n hi - sIx n 0 lo) s) : wpAny (model prog w) A (Builtin.Slice.sliceApplied (.ref sl) (pure (n : Int))) Q E s := by
  obtain ⟨os, hos, hcs, hds⟩ := id hs
  unfold Builtin.Slice.sliceApplied Builtin.Slice.sliceFields
  refine wpAny_bind (wpAny_bind (wpAny_field hos hds (x := vl) rfl (wpAny_bind (wpAny_field hos hds (x := vu) rfl (wpAny_bind (wpAny_field hos hds (x := .none) rfl (wpAny_pure ?_)))))))
  refine wpAny_bind (slicePart_none ?_)
  show wpAny _ _ (if ((1 : Int) == 0) = true then _ else _) _ _ s
  rw [if_neg (by decide)]
  refine wpAny_bind (slicePart_ pl (wpAny_bind (slicePart_ pu (wpAny_bind (wpAny_pure ?_)))))
  show wpAny _ _ (match Builtin.Slice.sliceAdjust lo hi 1 (n : Int) with | (lo, hi) => pure (lo, (1 : Int), Builtin.Slice.slicePlaces lo hi 1)) _ _ s
  rw [adjust_gen lo hi n]
  show wpAny _ _ (pure (((sIx n 0 lo : Nat) : Int), (1 : Int), Builtin.Slice.slicePlaces ((sIx n 0 lo : Nat) : Int) ((sIx n n hi : Nat) : Int) 1)) _ _ s
  rw [places_gen]
  exact wpAny_pure h
theorem pick_gen (xs : Array Value) (i k : Nat) : ((List.range k).filterMap fun (m : Nat) => xs[((i : Int) + (m : Int) * 1).toNat]?).toArray = ((xs.toList.drop i).take k).toArray := by
  have e : (fun (m : Nat) => xs[((i : Int) + (m : Int) * 1).toNat]?) = fun m => xs[i + m]? := by
    funext m
    have : ((i : Int) + (m : Int) * 1).toNat = i + m := by omega
    rw [this]
  rw [e]
  have := pick_run xs i k
  rw [List.filterMap_map] at this
  have e2 : ((fun x => xs[x]?) ∘ fun x => i + x) = fun m => xs[i + m]? := rfl
  rw [e2] at this
  rw [this]

theorem getItem_tuple_cut {t sl : Addr} {items : Array Value} {vl vu : Value} {lo hi : Option Int} {Q : Value → Shared → Prop} (ht : IsTup s.heap t items) (hs : s.heap.IsSliceOf sl vl vu .none) (pl : IsPart vl lo) (pu : IsPart vu hi)
    (hw : ¬ (sIx items.size 0 lo = 0 ∧ sIx items.size items.size hi = items.size))
    (h : Q (.ref s.heap.objs.size) { s with heap := s.heap.push { cls := .type "tuple", data := .seq ((items.toList.drop (sIx items.size 0 lo)).take (sIx items.size items.size hi - sIx items.size 0 lo)).toArray } })
    (hsz : items.size ≤ sizeLine) : wpAny (model prog w) A (getItem (.ref t) (.ref sl)) Q E s := by
  have htake : sizeOk (.seq ((items.toList.drop (sIx items.size 0 lo)).take (sIx items.size items.size hi - sIx items.size 0 lo)).toArray) := by
    show ((items.toList.drop (sIx items.size 0 lo)).take (sIx items.size items.size hi - sIx items.size 0 lo)).toArray.size ≤ sizeLine
    rw [List.size_toArray, List.length_take, List.length_drop, Array.length_toList]
    omega
  have hj : sIx items.size items.size hi ≤ items.size := sIx_le _ _ (Nat.le_refl _) hi
  obtain ⟨os, hos, hcs, hds⟩ := id hs
  have hTs : s.TypeIs (.ref sl) "slice" := ⟨os, hos, hcs⟩
  unfold getItem
  try with_reducible refine wpAny_holding ?_
  first | refine wpAny_bind (wpAny_pure ?_) | skip
  refine wpAny_bind (wpAny_sequenceKey ht.typeIs (by decide) ?_)
  refine wpAny_bind (wpAny_callSpecial?_slot (name := Str.ofString "__getitem__") ht.typeIs PyProof.Rows.slot_tuple_getitem
    (wpAny_call_entry PyProof.Rows.slot_tuple_getitem ht.typeIs entry_tuple_getitem ?_ (args_tuple_getitem _ _)))
  show wpAny _ _ (Builtin.Tuple.tupleItemsOf (.ref t) >>= _) _ _ s
  refine wpAny_bind (tupleItemsOf_ ht ?_)
  refine wpAny_bind (wpAny_typeOf hTs ?_)
  rw [if_pos (by decide)]
  refine wpAny_bind (sliceApplied_gen hs pl pu ?_)
  have hno : ¬ ((((sIx items.size 0 lo : Nat) : Int) == 0 && (1 : Int) == 1 && (sIx items.size items.size hi - sIx items.size 0 lo) == items.size) = true) := by
    intro q
    rw [Bool.and_eq_true, Bool.and_eq_true] at q
    have q1 : ((sIx items.size 0 lo : Nat) : Int) = 0 := eq_of_beq q.1.1
    have q2 : sIx items.size items.size hi - sIx items.size 0 lo = items.size := eq_of_beq q.2
    exact hw ⟨by omega, by omega⟩
  show wpAny _ _ (if (((sIx items.size 0 lo : Nat) : Int) == 0 && (1 : Int) == 1 && (sIx items.size items.size hi - sIx items.size 0 lo) == items.size) = true then _ else _) _ _ s
  rw [if_neg hno, pick_gen]
  first
    | exact wpAny_bind (m := Builtin.Tuple.tupleExact _) (wpAny_newObj_type (wpAny_pure ⟨_, rfl, wpAny_pure h⟩) htake)
    | exact wpAny_bind (m := Builtin.Tuple.tupleExact _) (wpAny_newObj_type (wpAny_bind (wpAny_pure (wpAny_pure ⟨_, rfl, wpAny_pure h⟩))) htake)
    | exact wpAny_bind (wpAny_bind (m := Builtin.Tuple.tupleExact _) (wpAny_newObj_type (wpAny_pure (wpAny_pure ⟨_, rfl, wpAny_pure h⟩)) htake))
    | exact wpAny_bind (wpAny_bind (m := Builtin.Tuple.tupleExact _) (wpAny_newObj_type (wpAny_pure ⟨_, rfl, wpAny_pure h⟩) htake))
end
end HT

namespace L2
open PySem PySem.Spec PyProof.Rows

/-! ### the parts of a slice -/
abbrev TO := St → Hp → (Option Int → Hp → Prop) → Prop
/-- a slice's part (left out, or an int) -/
def PO (X : Cx) (e : Option Expr) (t : TO) : Prop :=
  ∀ (pins : List (Addr × Obj)) (s : Shared) (σ : St) (H : Hp) (Q : Option Int → Hp → Prop), Inv X pins σ H s → t σ H Q →
    wpAny (model X.prog X.w) X.A (evalPart e X.env) (fun u s' => ∃ o H', Inv X pins σ H' s' ∧ IsPart u o ∧ Q o H') X.xe s
def tNoPart : TO := fun _ H Q => Q none H
def tPart (t : TE) : TO := fun σ H Q => t σ H fun x H1 => ∃ i, x = .int i ∧ Q (some i) H1

theorem intsAre_of {ns : List Int} : ∀ {us : List Value}, Vals (ns.map V.int) us → IntsAre us ns := by
  induction ns with
  | nil => intro us r; rw [List.map_nil] at r; cases r; exact .nil
  | cons n ns ih =>
    intro us r
    rw [List.map_cons] at r
    cases r with
    | cons r1 r2 =>
      obtain ⟨t, e⟩ := r1
      subst e
      exact .cons n t (ih r2)

section
variable {X : Cx} {e : Expr} {te : TE} {lo hi : Option Expr} {tl th : TO} {pos p2 : Pos}

theorem po_none : PO X none tNoPart := by
  intro pins s σ H Q I h
  rw [evalPart_none]
  exact wpAny_pure ⟨none, H, I, .none, h⟩
theorem po_some (h : PE X e te) : PO X (some e) (tPart te) := by
  intro pins s σ H Q I hw
  rw [evalPart_some]
  refine thn (h pins s σ H _ I hw) fun u s1 ⟨x, H1, I1, r1, q1⟩ => ?_
  obtain ⟨i, rfl, q⟩ := q1
  obtain ⟨t, rfl⟩ := r1
  exact ⟨some i, H1, I1, .int i t, q⟩

/-- what a slice of a value is, by values: the slice object stands at sl -/
def SlR (X : Cx) (r : V → Option Int → Option Int → Hp → VK → Prop) : Prop :=
  ∀ (pins : List (Addr × Obj)) (s : Shared) (σ : St) (H : Hp) (x : V) (v vl vu : Value) (lo hi : Option Int) (sl : Addr) (Q : VK), Inv X pins σ H s → RelV x v → s.heap.IsSliceOf sl vl vu .none → IsPart vl lo → IsPart vu hi → r x lo hi H Q →
    ∃ T id, typeLookup (.type T) "__getitem__" = pure (some (.builtin id)) ∧ s.TypeIs v T ∧ wpAny (model X.prog X.w) X.A (getItem v (.ref sl)) (EP X pins σ Q) X.xe s
def tSl (r : V → Option Int → Option Int → Hp → VK → Prop) (te : TE) (tl th : TO) : TE := fun σ H Q => te σ H fun x H1 => tl σ H1 fun l H2 => th σ H2 fun u H3 => r x l u H3 Q
/-- a[lo:hi], any a -/
theorem pe_slice {r : V → Option Int → Option Int → Hp → VK → Prop} (hr : SlR X r) (he : PE X e te) (hl : PO X lo tl) (hu : PO X hi th) : PE X (.Subscript e (.Slice lo hi none p2) pos) (tSl r te tl th) := by
  intro pins s σ H Q I h
  refine Subscript_ (thn (he pins s σ H _ I h) fun v s1 ⟨x, H1, I1, r1, q1⟩ => ?_)
  refine wpAny_Slice (thn (hl pins s1 σ H1 _ I1 q1) fun vl s2 ⟨l, H2, I2, pl, q2⟩ => thn (hu pins s2 σ H2 _ I2 q2) fun vu s3 ⟨u, H3, I3, pu, q3⟩ => ?_)
  rw [evalPart_none]
  refine wpAny_pure ?_
  have I4 : Inv X pins σ H3 { s3 with heap := s3.heap.push { cls := .type "slice", data := .fields #[vl, vu, .none] } } := I3.kept (t' := s3.toks) fun b ob q => Heap.get?_push_of_some _ q
  obtain ⟨T, id, hT, ht, hg⟩ := hr pins { s3 with heap := s3.heap.push { cls := .type "slice", data := .fields #[vl, vu, .none] } } σ H3 x v vl vu l u s3.heap.objs.size Q I4 r1 (Heap.IsSliceOf.new ..) pl pu q3
  show wpAny (model X.prog X.w) X.A (subscriptTail e (.Slice lo hi none p2) v (.ref s3.heap.objs.size)) (EP X pins σ Q) X.xe { s3 with heap := s3.heap.push { cls := .type "slice", data := .fields #[vl, vu, .none] } }
  exact tail_any (ops := [.ref s3.heap.objs.size, v]) ht hT hg (by with_unfolding_all rfl)

/-- the items of xs[lo:hi] -/
def cutV (xs : List V) (lo hi : Option Int) : List V := (xs.drop (HT.sIx xs.length 0 lo)).take (HT.sIx xs.length xs.length hi - HT.sIx xs.length 0 lo)
theorem cutV_length (xs : List V) (lo hi : Option Int) : (cutV xs lo hi).length ≤ xs.length := by
  unfold cutV
  rw [List.length_take, List.length_drop]
  omega
/-- t[lo:hi], not the whole of it (the whole would be t itself) -/
def rSlT (K : PySem.W.Frag) : V → Option Int → Option Int → Hp → VK → Prop := fun x lo hi H Q => ∃ a xs, x = .ref a ∧ SqT K H a xs ∧
  ¬ (HT.sIx xs.length 0 lo = 0 ∧ HT.sIx xs.length xs.length hi = xs.length) ∧ ∀ p, H p = none → Q (.ref p) (upd H p (.tup (cutV xs lo hi)))
theorem sl_tup : SlR X (rSlT X.K) := by
  intro pins s σ H x v vl vu lo hi sl Q I rx hs pl pu h
  obtain ⟨a, xs, rfl, hx, hw, q⟩ := h
  cases rx
  obtain ⟨its, r, ht, hz⟩ := I.tuple hx
  have hlen : its.toArray.size = xs.length := by rw [List.size_toArray]; exact r.length.symm
  refine ⟨"tuple", _, PyProof.Rows.slot_tuple_getitem.lookup, ht.typeIs, ?_⟩
  refine HT.getItem_tuple_cut ht hs pl pu (by rw [hlen]; exact hw) ?_ (by rw [hlen]; exact hz)
  rw [hlen]
  refine ⟨.ref s.heap.objs.size, _, I.laid (t' := s.toks) (o := .tup (cutV xs lo hi)) (fun b ob q => Heap.get?_push_of_some _ q) (Nat.le_refl _) ?_, rfl, q _ (I.hok.fresh (Nat.le_refl _))⟩
  exact ⟨Nat.le_trans (cutV_length xs lo hi) hz, _, (r.drop (HT.sIx xs.length 0 lo)).take (HT.sIx xs.length xs.length hi - HT.sIx xs.length 0 lo), IsTup.new _ _⟩

/-! ### t < u, t + u -/
end
end L2

namespace L2
open PySem PySem.Spec PyProof.Rows

/-! ### places -/
/-- the place that an index of any sign means -/
def ixN (n : Nat) (i : Int) : Option Nat := if 0 ≤ i then (if i < n then some i.toNat else none) else if -(n : Int) ≤ i then some (i + n).toNat else none
def atI {α : Type} (xs : List α) (i : Int) : Option α := (ixN xs.length i).bind fun j => xs[j]?
theorem ixN_seq {n : Nat} {i : Int} {j : Nat} (h : ixN n i = some j) : seqIndex? i n = some j ∧ j < n ∧ -(n : Int) ≤ i ∧ i < n := by
  unfold ixN at h
  by_cases h0 : 0 ≤ i
  · rw [if_pos h0] at h
    by_cases h1 : i < n
    · rw [if_pos h1] at h
      have e : i.toNat = j := Option.some.inj h
      exact ⟨by rw [seqIndex_of h0 h1, e], by omega, by omega, h1⟩
    · rw [if_neg h1] at h; cases h
  · rw [if_neg h0] at h
    by_cases h1 : -(n : Int) ≤ i
    · rw [if_pos h1] at h
      have e : (i + n).toNat = j := Option.some.inj h
      exact ⟨by rw [seqIndex_neg (by omega) h1, e], by omega, h1, by omega⟩
    · rw [if_neg h1] at h; cases h
theorem atI_get {α : Type} {xs : List α} {i : Int} {v : α} (h : atI xs i = some v) : ∃ j, seqIndex? i xs.length = some j ∧ xs[j]? = some v ∧ j < xs.length ∧ -(xs.length : Int) ≤ i ∧ i < xs.length := by
  unfold atI at h
  cases e : ixN xs.length i with
  | none => rw [e] at h; cases h
  | some j =>
    rw [e] at h
    obtain ⟨h1, h2, h3, h4⟩ := ixN_seq e
    exact ⟨j, h1, h, h2, h3, h4⟩
theorem atI_nat {α : Type} {xs : List α} {j : Nat} {v : α} (h : xs[j]? = some v) : atI xs (j : Int) = some v := by
  have hj : j < xs.length := (List.getElem?_eq_some_iff.mp h).1
  have e : ixN xs.length (j : Int) = some j := by
    unfold ixN
    rw [if_pos (by omega), if_pos (by omega)]; simp
  unfold atI; rw [e]; exact h
/-! ### what may be subscripted -/
/-- what stands as an index of a plain subscript -/
def PlainIx (b : Expr) : Prop := ∀ o i, subscripted b false o i = operate [o, i] (getItem o i)
/-- a subscript by values -/
def IxR (X : Cx) (r : R2) : Prop :=
  ∀ (value slice : Expr) (pins : List (Addr × Obj)) (s : Shared) (σ : St) (H : Hp) (x y : V) (v u : Value) (Q : VK), Inv X pins σ H s → RelV x v → RelV y u → r x y H Q →
    subscripted slice false v u = operate [v, u] (getItem v u) → wpAny (model X.prog X.w) X.A (subscriptTail value slice v u) (EP X pins σ Q) X.xe s
/-- a call of a builtin's method by values: the receiver, the arguments -/
def MtR (X : Cx) (id : String) (r : V → List V → Hp → VK → Prop) : Prop :=
  ∀ (pins : List (Addr × Obj)) (s : Shared) (σ : St) (H : Hp) (x : V) (xs : List V) (v : Value) (us : List Value) (Q : VK), Inv X pins σ H s → RelV x v → Vals xs us → r x xs H Q →
    wpAny (model X.prog X.w) X.A (call (.builtin id) (v :: us)) (EP X pins σ Q) X.xe s
section
variable {X : Cx} {a b : Expr} {ta tb : TE} {pos : Pos}
/-- a[b] -/
theorem pe_ix {r : R2} (hr : IxR X r) (ha : PE X a ta) (hb : PE X b tb) (hs : PlainIx b) : PE X (.Subscript a b pos) (tOp r ta tb) := by
  intro pins s σ H Q I h
  exact Subscript_ (binT ha hb I h fun v u s2 x y H2 I2 rx ry q => hr a b pins s2 σ H2 x y v u Q I2 rx ry q (hs _ _))

def rIxL (K : PySem.W.Frag) : R2 := fun x y H Q => ∃ p xs i v, x = .ref p ∧ y = .int i ∧ SqL K H p xs ∧ atI xs i = some v ∧ Q v H
def rIxT (K : PySem.W.Frag) : R2 := fun x y H Q => ∃ p xs i v, x = .ref p ∧ y = .int i ∧ SqT K H p xs ∧ atI xs i = some v ∧ Q v H
theorem ix_list : IxR X (rIxL X.K) := by
  intro value slice pins s σ H x y v u Q I rx ry h hs
  obtain ⟨p, xs, i, z, rfl, rfl, hq, he, q⟩ := h
  cases rx
  obtain ⟨t, rfl⟩ := ry
  obtain ⟨its, r, pl, hz⟩ := I.list hq
  obtain ⟨j, h1, h2, h3, h4, h5⟩ := atI_get he
  obtain ⟨w, ew, rw'⟩ := r.get h2
  have hl := r.length
  have hn := line63
  have fin : EP X pins σ Q w s := ⟨z, H, I, rw', q⟩
  by_cases h0 : 0 ≤ i
  · have hj : i.toNat = j := by
      rw [seqIndex_of h0 h5] at h1
      exact Option.some.inj h1
    exact item_listR pl.isList h0 (by omega) (by rw [hj]; simpa using ew) fin hs
  · have hj : (i + (its.toArray.size : Int)).toNat = j := by
      rw [seqIndex_neg (by omega) h4] at h1
      rw [List.size_toArray, ← hl]
      exact Option.some.inj h1
    exact subscriptTail_builtinR (x := w) pl.isList.typeIs slot_list_getitem.lookup
      (wpAny_getItem_list_neg (Q := fun r s' => r = w ∧ EP X pins σ Q r s') pl.isList (by omega) (by rw [List.size_toArray] <;> omega) (by omega) (by rw [hj]; simpa using ew) ⟨rfl, fin⟩) hs
theorem ix_tup : IxR X (rIxT X.K) := by
  intro value slice pins s σ H x y v u Q I rx ry h hs
  obtain ⟨p, xs, i, z, rfl, rfl, hq, he, q⟩ := h
  cases rx
  obtain ⟨t, rfl⟩ := ry
  obtain ⟨its, r, pl, hz⟩ := I.tuple hq
  obtain ⟨j, h1, h2, h3, h4, h5⟩ := atI_get he
  obtain ⟨w, ew, rw'⟩ := r.get h2
  have hl := r.length
  have hn := line63
  have fin : EP X pins σ Q w s := ⟨z, H, I, rw', q⟩
  exact subscriptTail_builtinR (x := w) pl.typeIs slot_tuple_getitem.lookup
    (getItem_tuple (j := j) (Q := fun r s' => r = w ∧ EP X pins σ Q r s') pl (by omega) (by omega) (by rw [List.size_toArray, ← hl]; exact h1) (by simpa using ew) ⟨rfl, fin⟩) hs
/-! ### xs[i] = v, any sign -/
/-- the list's object behind a store -/
theorem mapSeq_set (its : List Value) (n j : Nat) (u : Value) : Obj.mapSeq (·.setIfInBounds j u) { cls := .type "list", data := .seq its.toArray n } = { cls := .type "list", data := .seq (its.set j u).toArray n } := by
  simp [Obj.mapSeq]
theorem Inv.lst {pins : List (Addr × Obj)} {σ : St} {H : Hp} {s : Shared} {p : Addr} {xs : List V} (I : Inv X pins σ H s) (h : H p = some (.lst xs)) :
    ∃ (its : List Value) (n : Nat), Vals xs its ∧ s.heap.get? p = some { cls := .type "list", data := .seq its.toArray n } ∧ xs.length ≤ sizeLine := by
  obtain ⟨z, its, n, r, e⟩ := I.hok p _ h
  exact ⟨its, n, r, e, z⟩
/-- the list at p is written by an update of its object -/
theorem Inv.lstUpd {pins : List (Addr × Obj)} {σ : St} {H : Hp} {s : Shared} {p : Addr} {xs ys : List V} {its its' : List Value} {n n' : Nat} {f : Obj → Obj} (I : Inv X pins σ H s) (h : H p = some (.lst xs))
    (ho : s.heap.get? p = some { cls := .type "list", data := .seq its.toArray n }) (hf : f { cls := .type "list", data := .seq its.toArray n } = { cls := .type "list", data := .seq its'.toArray n' }) (r : Vals ys its') (hz : ys.length ≤ sizeLine) (t : Nat) :
    Inv X pins σ (upd H p (.lst ys)) { s with heap := s.heap.update p f, toks := t } := by
  have e : (s.heap.update p f).get? p = some { cls := .type "list", data := .seq its'.toArray n' } := by
    rw [Heap.get?_update_self f ho (by rw [hf] <;> rfl), hf]
  refine I.write (x := p) (e := p) (by rw [h]; trivial) (.inl rfl) (fun b u hb q => (Heap.get?_update_other _ _ (Ne.symm hb)).trans q) ⟨_, e⟩ ?_
  exact ⟨hz, its', n', r, e⟩
def rSetL : V → V → V → Hp → (Hp → Prop) → Prop := fun o i v H Q => ∃ p xs k j, o = .ref p ∧ i = .int k ∧ H p = some (.lst xs) ∧ ixN xs.length k = some j ∧ Q (upd H p (.lst (xs.set j v)))
theorem set_list : PSet X rSetL := by
  intro pins s σ H o i v ov iv u Q I ro ri rv h
  obtain ⟨p, xs, k, j, rfl, rfl, hp, hj, q⟩ := h
  cases ro
  obtain ⟨t, rfl⟩ := ri
  obtain ⟨its, n, r, ho, hz⟩ := I.lst hp
  obtain ⟨h1, h2, h3, h4⟩ := ixN_seq hj
  have hl := r.length
  have hn := line63
  have I' : Inv X pins σ (upd H p (.lst (xs.set j v))) { s with heap := s.heap.update p (Obj.mapSeq (·.setIfInBounds j u)) } :=
    I.lstUpd hp ho (mapSeq_set its n j u) (r.set rv j) (by rw [List.length_set]; exact hz) s.toks
  by_cases h0 : 0 ≤ k
  · have hk : k.toNat = j := by
      rw [seqIndex_of h0 h4] at h1
      exact Option.some.inj h1
    exact PySem.W.ki_setAt ho h0 (by omega) (by rw [List.size_toArray, ← hl]; exact h4) (by rw [hk]; exact ⟨_, I', q⟩)
  · have hk : (k + (its.toArray.size : Int)).toNat = j := by
      rw [seqIndex_neg (by omega) h3] at h1
      rw [List.size_toArray, ← hl]
      exact Option.some.inj h1
    exact PySem.W.ki_setBack ho (by omega) (by rw [List.size_toArray, ← hl]; exact h3) (by omega) (by rw [hk]; exact ⟨_, I', q⟩)

/-! ### slices -/
/-! ### in, not in: flat items -/
def flatV : V → Bool
  | .non => true
  | .bl _ => true
  | .int _ => true
  | .str _ => true
  | _ => false
/-- == of flat values -/
def eqV : V → V → Bool
  | .non, .non => true
  | .bl a, .bl b => a == b
  | .bl a, .int b => (if a then 1 else 0) == b
  | .int a, .bl b => a == (if b then 1 else 0)
  | .int a, .int b => a == b
  | .str a, .str b => a == b
  | _, _ => false
theorem eqAt_V {A : Around} {s : Shared} {y x : V} {u v : Value} (ry : RelV y u) (rx : RelV x v) (fy : flatV y = true) (fx : flatV x = true) : SeqAt.EqAt A s u v (eqV y x) := by
  cases y with
  | non =>
    cases ry
    cases x with
    | non => cases rx; exact SeqAt.EqAt.same _
    | bl b => cases rx; exact SeqAt.EqAt.none_bool b
    | int b => obtain ⟨t, rfl⟩ := rx; exact SeqAt.EqAt.none_int b t
    | str b => obtain ⟨t, rfl⟩ := rx; exact SeqAt.EqAt.none_str b t
    | _ => exact absurd (show false = true from fx) Bool.false_ne_true
  | bl a =>
    cases ry
    cases x with
    | non => cases rx; exact SeqAt.EqAt.bool_none a
    | bl b => cases rx; exact SeqAt.EqAt.bool_bool a b
    | int b => obtain ⟨t, rfl⟩ := rx; exact SeqAt.EqAt.bool_int a b t
    | str b => obtain ⟨t, rfl⟩ := rx; exact SeqAt.EqAt.bool_str a b t
    | _ => exact absurd (show false = true from fx) Bool.false_ne_true
  | int a =>
    obtain ⟨t', rfl⟩ := ry
    cases x with
    | non => cases rx; exact SeqAt.EqAt.int_none a t'
    | bl b => cases rx; exact SeqAt.EqAt.int_bool a t' b
    | int b => obtain ⟨t, rfl⟩ := rx; exact SeqAt.EqAt.int_int a t' b t
    | str b => obtain ⟨t, rfl⟩ := rx; exact SeqAt.EqAt.int_str a t' b t
    | _ => exact absurd (show false = true from fx) Bool.false_ne_true
  | str a =>
    obtain ⟨t', rfl⟩ := ry
    cases x with
    | non => cases rx; exact SeqAt.EqAt.str_none a t'
    | bl b => cases rx; exact SeqAt.EqAt.str_bool a t' b
    | int b => obtain ⟨t, rfl⟩ := rx; exact SeqAt.EqAt.str_int a t' b t
    | str b => obtain ⟨t, rfl⟩ := rx; exact SeqAt.EqAt.str_str a t' b t
    | _ => exact absurd (show false = true from fx) Bool.false_ne_true
  | _ => exact absurd (show false = true from fy) Bool.false_ne_true
/-- the items' answers, read off the values (a value's own answer does not lean on its token) -/
def eqU (x : V) (u : Value) : Bool := match u with
  | .none => eqV .non x
  | .bool b => eqV (.bl b) x
  | .int i _ => eqV (.int i) x
  | .str z _ => eqV (.str z) x
  | _ => false
theorem eqU_of {x y : V} {u : Value} (r : RelV y u) (f : flatV y = true) : eqU x u = eqV y x := by
  cases y with
  | non => cases r; rfl
  | bl b => cases r; rfl
  | int i => obtain ⟨t, rfl⟩ := r; rfl
  | str z => obtain ⟨t, rfl⟩ := r; rfl
  | _ => exact absurd (show false = true from f) Bool.false_ne_true
theorem any_eqU {x : V} : ∀ {xs : List V} {us : List Value}, Vals xs us → xs.all flatV = true → us.any (eqU x) = xs.any fun y => eqV y x
  | _, _, .nil, _ => rfl
  | y :: xs, u :: us, .cons r t, f => by
    rw [List.all_cons, Bool.and_eq_true] at f
    rw [List.any_cons, List.any_cons, eqU_of r f.1, any_eqU t f.2]
theorem mem_eqAt {A : Around} {s : Shared} {x : V} {v : Value} (rx : RelV x v) (fx : flatV x = true) : ∀ {xs : List V} {us : List Value}, Vals xs us → xs.all flatV = true → ∀ u ∈ us, SeqAt.EqAt A s u v (eqU x u)
  | _, _, .nil, _ => fun u hu => by cases hu
  | y :: xs, u :: us, .cons r t, f => fun u' hu => by
    rw [List.all_cons, Bool.and_eq_true] at f
    rcases List.mem_cons.mp hu with rfl | hu
    · rw [eqU_of r f.1]; exact eqAt_V r rx f.1 fx
    · exact mem_eqAt rx fx t f.2 u' hu
def inV (x : V) (xs : List V) : Bool := xs.any fun y => eqV y x
/-- x in a list or tuple of flat items -/
def rIn (K : PySem.W.Frag) (neg : Bool) : R2 := fun x y H Q => ∃ p xs, y = .ref p ∧ (SqL K H p xs ∨ SqT K H p xs) ∧ flatV x = true ∧ xs.all flatV = true ∧ Q (.bl (if neg then !inV x xs else inV x xs)) H
theorem op_notIn_seq : OpR X (compareOp .NotIn) (rIn X.K true) := by
  intro pins s σ H x y v u Q I rx ry h
  obtain ⟨p, xs, rfl, hq, fx, fs, q⟩ := h
  cases ry
  rcases hq with hq | hq
  · obtain ⟨its, r, pl, hz⟩ := I.list hq
    refine SeqAt.notIn_listAt (eqU x) pl.isList (fun w hw => mem_eqAt rx fx r fs w (by simpa using hw)) ⟨.bl _, H, I, rfl, ?_⟩
    rw [show its.toArray.any (eqU x) = its.any (eqU x) by simp, any_eqU r fs]
    exact q
  · obtain ⟨its, r, pl, hz⟩ := I.tuple hq
    refine SeqAt.notIn_tupleAt (eqU x) pl (fun w hw => mem_eqAt rx fx r fs w (by simpa using hw)) ⟨.bl _, H, I, rfl, ?_⟩
    rw [show its.toArray.any (eqU x) = its.any (eqU x) by simp, any_eqU r fs]
    exact q
/-! ### len, list(x), tuple(x) of any list or tuple that is read -/
theorem call_len_seq : CallR X (.builtin "len") (fun xs H Q => ∃ p ys, xs = [.ref p] ∧ (SqL X.K H p ys ∨ SqT X.K H p ys) ∧ Q (.int ys.length) H) := by
  intro pins s σ H xs us Q I r h
  obtain ⟨p, ys, rfl, hq, q⟩ := h
  obtain ⟨u, rfl, rx⟩ := vals1 r
  cases rx
  have hn := line63
  rcases hq with hq | hq
  · obtain ⟨its, r', pl, hz⟩ := I.list hq
    have hlen := r'.length
    exact Calls.call_len_list pl.isList (by simp only [List.size_toArray] <;> omega) ⟨.int ys.length, H, I.tok _, ⟨s.toks + 1, by rw [List.size_toArray, hlen]⟩, q⟩
  · obtain ⟨its, r', pl, hz⟩ := I.tuple hq
    have hlen := r'.length
    exact len_tuple pl (by simp only [List.size_toArray] <;> omega) ⟨.int ys.length, H, I.tok _, ⟨s.toks + 1, by rw [List.size_toArray, hlen]⟩, q⟩
theorem call_list_of : CallR X (.type "list") (fun xs H Q => ∃ p ys, xs = [.ref p] ∧ (SqL X.K H p ys ∨ SqT X.K H p ys) ∧ ∀ l, H l = none → Q (.ref l) (upd H l (.lst ys))) := by
  intro pins s σ H xs us Q I r h
  obtain ⟨p, ys, rfl, hq, q⟩ := h
  obtain ⟨u, rfl, rx⟩ := vals1 r
  cases rx
  have fin : ∀ (its : List Value), Vals ys its → ys.length ≤ sizeLine → ∀ (h' : Heap) (c' : Nat), (∀ b o', s.heap.get? b = some o' → h'.get? b = some o') →
      h'.get? s.heap.objs.size = some { cls := .type "list", dict := none, data := .seq its.toArray c', slots := #[] } → EP X pins σ Q (.ref s.heap.objs.size) { s with heap := h' } := fun its r' hz h' c' kp e =>
    ⟨.ref s.heap.objs.size, _, I.laid (t' := s.toks) kp (Nat.le_refl _) (show ObjOk X.prog X.w _ h' _ (.lst ys) from ⟨hz, its, c', r', e⟩), rfl, q _ (I.hok.fresh (Nat.le_refl _))⟩
  rcases hq with hq | hq
  · obtain ⟨its, r', pl, hz⟩ := I.list hq
    have hlen := r'.length
    obtain ⟨o, ho, hc, n, hd⟩ := pl.isList
    exact call_list_seq p (.inl rfl) ho hc hd (fun h' c' kp e => fin its r' hz h' c' kp e) (by simp only [List.size_toArray] <;> omega)
  · obtain ⟨its, r', pl, hz⟩ := I.tuple hq
    have hlen := r'.length
    obtain ⟨o, ho, hc, n, hd⟩ := pl
    exact call_list_seq p (.inr rfl) ho hc hd (fun h' c' kp e => fin its r' hz h' c' kp e) (by simp only [List.size_toArray] <;> omega)
theorem call_tuple_of : CallR X (.type "tuple") (fun xs H Q => ∃ p ys, xs = [.ref p] ∧ ((SqL X.K H p ys ∧ ∀ l, H l = none → Q (.ref l) (upd H l (.tup ys))) ∨ (SqT X.K H p ys ∧ Q (.ref p) H))) := by
  intro pins s σ H xs us Q I r h
  obtain ⟨p, ys, rfl, h⟩ := h
  obtain ⟨u, rfl, rx⟩ := vals1 r
  cases rx
  rcases h with ⟨hq, q⟩ | ⟨hq, q⟩
  · obtain ⟨its, r', pl, hz⟩ := I.list hq
    have hlen := r'.length
    refine call_tuple_list pl.isList (fun h' kp => ?_) (by simp only [List.size_toArray] <;> omega)
    have I1 : Inv X pins σ H { s with heap := h' } := I.kept (t' := s.toks) kp
    have I2 : Inv X pins σ (upd H h'.objs.size (.tup ys)) { s with heap := h'.push { cls := .type "tuple", data := .seq its.toArray } } :=
      I1.laid (t' := s.toks) (fun b o e => Heap.get?_push_of_some _ e) (Nat.le_refl _) (show ObjOk X.prog X.w _ _ _ (.tup ys) from ⟨hz, its, r', IsTup.new _ _⟩)
    exact ⟨.ref h'.objs.size, _, I2, rfl, q _ (I1.hok.fresh (Nat.le_refl _))⟩
  · obtain ⟨its, r', pl, hz⟩ := I.tuple hq
    exact call_tuple_same pl ⟨.ref p, H, I, rfl, q⟩

/-! ### the call of a builtin's method: o.m(..) -/
/-- the value is of that builtin type -/
def tyV (K : PySem.W.Frag) (T : String) (x : V) (H : Hp) : Prop := match x with
  | .str _ => T = "str"
  | .int _ => T = "int"
  | .ref p => (T = "list" ∧ ∃ xs, SqL K H p xs) ∨ (T = "tuple" ∧ ∃ o, K.lookup p = some o ∧ o.cls = .type "tuple" ∧ o.dict = none) ∨
      (T = "dict" ∧ ((∃ kvs, H p = some (.dK kvs)) ∨ ∃ kvs, H p = some (.dT kvs))) ∨ (T = "set" ∧ ∃ S n, H p = some (.set S n))
  | _ => False
theorem tyV_is {pins : List (Addr × Obj)} {σ : St} {H : Hp} {s : Shared} {T : String} {x : V} {v : Value} (I : Inv X pins σ H s) (r : RelV x v) (ty : tyV X.K T x H) :
    s.TypeIs v T ∧ ∀ a, v = .ref a → ∃ ob, s.heap.get? a = some ob ∧ ob.dict = none := by
  cases x with
  | str z =>
    obtain ⟨t, rfl⟩ := r
    cases (show T = "str" from ty)
    exact ⟨typeIs_str s z t, fun _ e => nomatch e⟩
  | int i =>
    obtain ⟨t, rfl⟩ := r
    cases (show T = "int" from ty)
    exact ⟨typeIs_int s i t, fun _ e => nomatch e⟩
  | ref p =>
    cases r
    rcases ty with ⟨rfl, xs, hq⟩ | ⟨rfl, o, hk, hc, hd⟩ | ⟨rfl, hk⟩ | ⟨rfl, S, n, hk⟩
    · obtain ⟨its, _, pl, _⟩ := I.list hq
      refine ⟨pl.isList.typeIs, fun a e => ?_⟩
      cases e
      obtain ⟨o, n, e, c, hd, _⟩ := pl
      exact ⟨o, e, hd⟩
    · refine ⟨⟨o, I.kIn p o hk, hc⟩, fun a e => ?_⟩
      cases e
      exact ⟨o, I.kIn _ o hk, hd⟩
    · have z : ∃ o, s.heap.get? p = some o ∧ o.ExactDict := by
        rcases hk with ⟨kvs, hk⟩ | ⟨kvs, hk⟩
        · obtain ⟨_, _, _, _, o, _, _, e, ex, _⟩ := I.hok p _ hk
          exact ⟨o, e, ex⟩
        · obtain ⟨_, _, _, _, o, _, _, e, ex, _⟩ := I.hok p _ hk
          exact ⟨o, e, ex⟩
      obtain ⟨o, e, ex⟩ := z
      refine ⟨⟨o, e, ex.1⟩, fun a e2 => ?_⟩
      cases e2
      exact ⟨o, e, ex.2.1⟩
    · obtain ⟨o, _, _, _, e, ex, _⟩ := I.hok p _ hk
      refine ⟨⟨o, e, ex.1⟩, fun a e2 => ?_⟩
      cases e2
      exact ⟨o, e, ex.2.1⟩
  | _ => exact False.elim ty
def tBM0 (K : PySem.W.Frag) (T : String) (r : V → List V → Hp → VK → Prop) (to : TE) : TE := fun σ H Q => to σ H fun x H1 => tyV K T x H1 ∧ r x [] H1 Q
def tBM (K : PySem.W.Frag) (T : String) (r : V → List V → Hp → VK → Prop) (to : TE) (t : TA) : TE := fun σ H Q => to σ H fun x H1 => tyV K T x H1 ∧ t σ H1 fun xs H2 => r x xs H2 Q
variable {o e : Expr} {es : List Expr} {to : TE} {t : TA} {name : Str} {apos cpos : Pos} {T id : String} {r : V → List V → Hp → VK → Prop}
theorem pe_bm0 (pa : PlainAttrs T) (slot : Slot T name id) (hty : typeOf (.builtin id) = pure (.type "method_descriptor")) (hm : MtR X id r) (ho : PE X o to)
    (hbase : attributeBase o name X.env (eval o X.env) = eval o X.env := by rfl) (hline : (apos.endLine == cpos.line) = true := by rfl) : PE X (.Call (.Attribute o name apos) [] [] cpos) (tBM0 X.K T r to) := by
  intro pins s σ H Q I h
  refine wpAny_Call_method0_late hbase hline (thn (ho pins s σ H _ I h) fun v s1 ⟨x, H1, I1, r1, ty, q1⟩ => ?_)
  obtain ⟨h1, h2⟩ := tyV_is I1 r1 ty
  exact ⟨T, id, pa, slot, hty, h1, h2, Calls.callWith_builtin rfl (PySem.evalArgs_none (hm pins s1 σ H1 x [] v [] Q I1 r1 .nil q1))⟩
theorem pe_bm (pa : PlainAttrs T) (slot : Slot T name id) (hty : typeOf (.builtin id) = pure (.type "method_descriptor")) (hm : MtR X id r) (ho : PE X o to) (ha : PA X (e :: es) t)
    (hbase : attributeBase o name X.env (eval o X.env) = eval o X.env := by rfl)
    (hfew : ((backTo cpos (starEach (e :: es) X.env)).all (fun x => !x.1) && (backToKw cpos (keywordEach [] X.env)).all (fun x => x.1.isSome)
      && decide ((e :: es).length + ([] : List Keyword).length + (if ([] : List Keyword).isEmpty then 0 else 1) < 30)) = true := by rfl)
    (hline : (apos.endLine == cpos.line) = true := by rfl) (hs : starEach (e :: es) X.env = (false, eval e X.env) :: starEach es X.env := by rfl) (hplain : (backTo cpos (starEach es X.env)).any (·.1) = false := by rfl) :
    PE X (.Call (.Attribute o name apos) (e :: es) [] cpos) (tBM X.K T r to t) := by
  intro pins s σ H Q I h
  refine wpAny_Call_method_late hbase hfew hline rfl (thn (ho pins s σ H _ I h) fun v s1 ⟨x, H1, I1, r1, ty, q1⟩ => ?_)
  obtain ⟨h1, h2⟩ := tyV_is I1 r1 ty
  refine ⟨T, id, pa, slot, hty, h1, h2, ?_⟩
  have hA := ha cpos pins s1 σ H1 _ I1 q1
  rw [hs] at hA ⊢
  refine Calls.callWith_builtin (by show (false || (backTo cpos (starEach es X.env)).any (·.1)) = false; rw [hplain] <;> rfl) (Calls.evalArgs_plain ?_)
  exact thn hA fun us s2 ⟨vs, H2, I2, r2, q2⟩ => hm pins s2 σ H2 x vs v us Q I2 r1 r2 q2
/- xs.append(e), list.index on a module's tuple .. are MtR facts of 06m -/
end
end L2

namespace L2
open PySem PySem.Spec PyProof.Rows

def MtM (X : Cx) (id : String) (r : V → List V → Hp → VK → Prop) : Prop :=
  ∀ (pins : List (Addr × Obj)) (s : Shared) (σ : St) (H : Hp) (x : V) (xs : List V) (v : Value) (us : List Value) (Q : VK), Inv X pins σ H s → RelV x v → Vals xs us → r x xs H Q →
    wpAny (model X.prog X.w) X.A (call (.builtin id) (v :: us)) (EP X pins σ Q) X.xe s

/-! ### lists of values -/
theorem Vals.one : ∀ {x : V} {us : List Value}, Vals [x] us → ∃ u, us = [u] ∧ RelV x u
  | _, _, .cons r .nil => ⟨_, rfl, r⟩
theorem Vals.zero : ∀ {us : List Value}, Vals [] us → us = []
  | _, .nil => rfl
theorem Vals.dropLast {xs : List V} {us : List Value} (h : Vals xs us) : Vals xs.dropLast us.dropLast := by
  induction h with
  | nil => exact .nil
  | cons r t ih =>
    cases t with
    | nil => exact .nil
    | cons q t' => exact .cons r ih
theorem erase_last {α : Type} (l : List α) : l.eraseIdx (l.length - 1) = l.dropLast := by
  induction l with
  | nil => rfl
  | cons a r ih =>
    cases r with
    | nil => rfl
    | cons b r =>
      have e : (a :: b :: r).length - 1 = ((b :: r).length - 1) + 1 := by
        have h1 : (a :: b :: r).length = r.length + 2 := rfl
        have h2 : (b :: r).length = r.length + 1 := rfl
        omega
      rw [e, List.eraseIdx_cons_succ, ih]
      all_goals rfl
section
variable {X : Cx} {pins : List (Addr × Obj)} {σ : St} {H : Hp} {s : Shared} {l b : Addr} {xs ys zs : List V}

/-! ### the two steps: a tracked list is rewritten, a new list is laid -/
theorem Inv.lset {its its' : List Value} {n : Nat} {f : Array Value → Array Value} {t' : Nat} (I : Inv X pins σ H s) (hH : H l = some (.lst xs))
    (e : s.heap.get? l = some { cls := .type "list", data := .seq its.toArray n }) (hf : f its.toArray = its'.toArray) (hv : Vals ys its') (hz : ys.length ≤ sizeLine) :
    Inv X pins σ (upd H l (.lst ys)) { s with heap := s.heap.update l (Obj.mapSeq f), toks := t' } := by
  have q := PySem.IsL.update e f
  rw [hf] at q
  refine I.write (x := l) (e := l) (by rw [hH]; exact trivial) (.inl rfl) (fun b' u hb hu => (Heap.get?_update_other s.heap (Obj.mapSeq f) (Ne.symm hb)).trans hu) ⟨_, q⟩ ?_
  exact ⟨hz, its', _, hv, q⟩
theorem Inv.lnew {its : List Value} {t' : Nat} (I : Inv X pins σ H s) (hv : Vals ys its) (hz : ys.length ≤ sizeLine) :
    Inv X pins σ (upd H s.heap.objs.size (.lst ys)) { s with heap := s.heap.push { cls := .type "list", data := .seq its.toArray }, toks := t' } :=
  I.laid (fun _ _ q => Heap.get?_push_of_some _ q) (Nat.le_refl _) ⟨hz, its, 0, hv, Heap.get?_push_size _ rfl⟩
theorem Inv.fresh (I : Inv X pins σ H s) : H s.heap.objs.size = none := I.hok.fresh (Nat.le_refl _)
theorem Inv.lstM (I : Inv X pins σ H s) (hH : H l = some (.lst xs)) : xs.length ≤ sizeLine ∧ ∃ (its : List Value) (n : Nat), Vals xs its ∧ xs.length = its.length ∧ s.heap.get? l = some { cls := .type "list", data := .seq its.toArray n } := by
  obtain ⟨z, its, n, r, e⟩ := I.hok l _ hH
  exact ⟨z, its, n, r, r.length, e⟩

end

section
variable {X : Cx}

/-! ### methods -/
def rAppend : V → List V → Hp → VK → Prop := fun x vs H Q => ∃ l xs y, x = .ref l ∧ vs = [y] ∧ H l = some (.lst xs) ∧ xs.length < sizeLine ∧ Q .non (upd H l (.lst (xs ++ [y])))
theorem mt_append : MtM X "list.append" rAppend := by
  intro pins s σ H x vs v us Q I rx rv h
  obtain ⟨l, xs, y, rfl, rfl, hH, hz, q⟩ := h
  cases rx
  obtain ⟨u, rfl, ru⟩ := rv.one
  obtain ⟨z, its, n, r, hl, e⟩ := I.lstM hH
  refine call_meets F.slot_list_append ⟨_, e, rfl⟩ F.entry_list_append (F.args_list_append_2 _ _) (PySem.list_append l its.toArray n u (by rw [List.size_toArray]; omega)) ⟨e, ?_⟩
  refine ⟨.non, _, I.lset (its' := its ++ [u]) hH e (by simp) (r.append (.cons ru .nil)) ?_, rfl, q⟩
  rw [List.length_append, List.length_singleton]
  omega

def rPop : V → List V → Hp → VK → Prop := fun x vs H Q => ∃ l xs y, x = .ref l ∧ vs = [] ∧ H l = some (.lst xs) ∧ xs[xs.length - 1]? = some y ∧ Q y (upd H l (.lst xs.dropLast))
theorem mt_pop : MtM X "list.pop" rPop := by
  intro pins s σ H x vs v us Q I rx rv h
  obtain ⟨l, xs, y, rfl, rfl, hH, hy, q⟩ := h
  cases rx
  have hus := rv.zero
  subst hus
  obtain ⟨z, its, n, r, hl, e⟩ := I.lstM hH
  obtain ⟨u, hu, ru⟩ := r.get hy
  have hy' : its.toArray[its.toArray.size - 1]? = some u := by
    show its.toArray[its.length - 1]? = some u
    rw [← Array.getElem?_toList, ← hl]
    exact hu
  refine call_meets F.slot_list_pop ⟨_, e, rfl⟩ F.entry_list_pop (F.args_list_pop_1 _) (MeetsSeq.list_pop_last l its.toArray n u hy' (by rw [List.size_toArray]; omega)) ⟨e, ?_⟩
  refine ⟨y, _, I.lset (its' := its.dropLast) hH e ?_ r.dropLast ?_, ru, q⟩
  · show its.toArray.eraseIdxIfInBounds (its.toArray.size - 1) = its.dropLast.toArray
    rw [List.size_toArray, List.eraseIdxIfInBounds_toArray, erase_last]
  · rw [List.length_dropLast]
    omega

/-! ### list + list, list += list, list * int -/
def rCat : R2 := fun x y H Q => ∃ l b xs zs, x = .ref l ∧ y = .ref b ∧ H l = some (.lst xs) ∧ H b = some (.lst zs) ∧ xs.length + zs.length ≤ sizeLine ∧ ∀ p, H p = none → Q (.ref p) (upd H p (.lst (xs ++ zs)))
theorem op_cat : OpR X (binaryOp .Add) rCat := by
  intro pins s σ H x y v u Q I rx ry h
  obtain ⟨l, b, xs, zs, rfl, rfl, hH, hB, hz, q⟩ := h
  cases rx
  cases ry
  obtain ⟨z, its, n, r, hl, e⟩ := I.lstM hH
  obtain ⟨z2, its2, n2, r2, hl2, e2⟩ := I.lstM hB
  refine PySem.P.add_list e e2 ?_ (by rw [List.size_toArray, List.size_toArray]; omega)
  have ea : its.toArray ++ its2.toArray = (its ++ its2).toArray := by simp
  rw [ea]
  exact ⟨.ref _, _, I.lnew (t' := s.toks) (r.append r2) (by rw [List.length_append]; omega), rfl, q _ I.fresh⟩
/-! ### del xs[i] -/
end

/-! ### xs[a:b] = ys -/
section
variable {prog : Program} {w : World} {A : Around} {E : Value → Shared → Prop} {s : Shared}
set_option maxRecDepth 100000 in
end

section
variable {X : Cx}
end
end L2

namespace Att
open PySem PySem.W PySem.Calls PyProof.Rows

/-! ### the script -/
theorem ints_of_wellAll {P : Params} {h : Heap} : ∀ (ns : List Int) (vs : List Value), WellAll P h vs (ns.map WData.int) → IntsAre vs ns := by
  intro ns
  induction ns with
  | nil =>
    intro vs w
    rw [List.map_nil] at w
    cases w
    exact .nil
  | cons n ns ih =>
    intro vs w
    rw [List.map_cons] at w
    cases w with
    | cons a b =>
      cases a
      exact .cons _ _ (ih _ b)

theorem script_of {l : OpenLaw} {n : Nat} (hn : l.most = some n) {P : Params} {h : Heap} {args : List WData} {vals : List Value}
    (hpre : l.row.toRowW.claim.pre args = true) (hwl : WellAll P h vals args) :
    ∃ a vs ns, vals = [Value.ref a] ∧ args = [WData.list (ns.map WData.int)] ∧ h.get? a = some { cls := .type "list", data := .seq vs.toArray } ∧ IntsAre vs ns ∧ ns.length ≤ n := by
  have hsh : WShape.hasAll [] args [.list .int] = true := (pre_splitW hpre).1
  have hc : l.pre.holds [] { args := args } = true := (pre_splitW hpre).2
  obtain ⟨d, r, rfl, h1, h2⟩ := hasAllW_cons hsh
  obtain rfl := hasAllW_nil h2
  obtain ⟨xs, rfl, h3⟩ := hasW_list h1
  obtain ⟨ns, rfl⟩ := items_int h3
  have hlen : ns.length ≤ n := by
    unfold OpenLaw.pre at hc
    have h4 : (WTm.not (.lt (.lit (.int (n : Int))) (.len (.arg 0)))).holds [] { args := [.list (ns.map .int)] } = true := by
      have h4 := (holds_andW hc).1
      rw [hn] at h4
      exact h4
    have h5 := condW_of h4 (w_not (w_lt w_lit (w_len_list (w_arg rfl))))
    rw [List.length_map] at h5
    refine Nat.le_of_not_lt fun q => ?_
    have q' : (n : Int) < ((ns.length : Nat) : Int) := by omega
    first
      | (rw [decide_eq_true q'] at h5; exact absurd h5 (by decide))
      | (simp at h5; omega)
  cases hwl with
  | cons w1 w2 =>
    cases w2
    cases w1 with
    | list ho hall => exact ⟨_, _, ns, rfl, rfl, ho, ints_of_wellAll ns _ hall, hlen⟩

theorem post_true (l : OpenLaw) (args : List WData) : l.row.toRowW.claim.post args (.bool true) args = true :=
  postW_of (r := l.row.toRowW) (X := (true == true))
    (show WShape.has [] (.bool true) .bool = true by first | rfl | decide | simp [WShape.has, WShape.arms, WShape.armsAll])
    (show (WTm.eq .res (.lit (.bool true))).value [] { args := args, res := some (.bool true), after := args } = some (.bool (true == true)) from w_eq_bool (w_res rfl) w_lit) rfl

/-! ### the attachment: holds_open's last premise (the goal 'hc' behind k_head) from a wpAny of the law's body -/
/-- the same from a codeAny of the CALL (for a layer whose function contracts speak of calls) -/
theorem attach_call {l : OpenLaw} {n : Nat} {q : Program} {loose : List Str} {XP : (Str → Option Value) → Heap → Prop} {YP : World → Heap → Prop} {d : DefRec}
    (hn : l.most = some n) (hdf : d.params.defaults = [])
    (call : ∀ (w : World) (s₀ s₁ : Shared) (mg mb : Str → Option Value) (fa : Addr) (o : Obj) (pm cd doc : Value) (a : Addr) (vs : List Value) (ns : List Int),
      Ground q loose [] XP w s₀ mg mb s₁.heap → YP w s₁.heap →
      s₁.heap.get? fa = some o → o.data = .func (docDef d.name d.params d.body d.scope pm cd doc) → s₁.heap.CodeRec cd d.name → mg d.name = some (.ref fa) →
      s₁.heap.get? a = some { cls := .type "list", data := .seq vs.toArray } → IntsAre vs ns → ns.length ≤ n → s₁.gens = #[] →
      codeAny (model l.prog w) callerA (.call (.ref fa) ⟨[.ref a], []⟩) (fun r s' => r = .ok (.ret (.bool true)) ∧ OldK s₁.heap s'.heap ∧ s'.os = s₁.os ∧ AllBare s'.gens) s₁) :
    WalkO q loose XP YP l.row.toRowW d [] (fun f vs => PySem.call f vs) := by
  intro w s₀ s₁ mg mb G Y fa o pm cd doc dV kV ho hd hcd hD hmg hg args vals as hpre hlay hrd hwl hlo
  obtain rfl : dV = .none := Dflts.none hD hdf
  obtain rfl : kV = .none := Dflts.noKw hD
  obtain ⟨a, vs, ns, rfl, rfl, hobj, hints, hlen⟩ := script_of hn hpre hwl
  refine enter_call (codeAny_mono (call w s₀ s₁ mg mb fa o pm cd doc a vs ns G Y ho (fd_plain hd) hcd hmg hobj hints hlen hg) fun r s' hq => ?_)
  obtain ⟨rfl, h2, h3, h4⟩ := hq
  exact ⟨.inl ⟨.bool true, .bool true, [], rfl, fun _ => rfl, .bool true, post_true l _, fun _ => ⟨List.Pairwise.nil, fun _ hm => (nomatch hm)⟩⟩, h2, h3, h4⟩

/-! ### rules over ANY heap (no ledger) from facts about the written part K: the library's own take a ledger (News) for what they write -/
section
variable {prog : Program} {w : World} {A : Around} {E : Value → Shared → Prop} {s : Shared} {K : Frag}

/-! the whole heap as the ledger: makes every rule that writes through a ledger a rule over any heap -/
end
end Att

namespace L2
open PySem PySem.Spec PyProof.Rows

theorem vals_ints : ∀ {vs : List Value} {ns : List Int}, IntsAre vs ns → Vals (ns.map V.int) vs
  | _, _, .nil => .nil
  | _, _, .cons n t h => .cons ⟨t, rfl⟩ (vals_ints h)

end L2

namespace L2
open PySem PySem.Spec PyProof.Rows

end L2

/- THE LAST THEOREM (shape; LID, My.* are yours):
   My.Adr: a structure of the addresses that your layer names (classes, functions); My.Txt K t: a structure (Prop) of the equations over K;
   My.txt_mk : {K} {implicit addresses ..} (e1 : nsIn K mainGlobals "law" = some (some (.ref f))) (e2 : K.lookup f = some ⟨oc, od, .func (fnOf "law" "law" params body scope dV kV doc pm an cdv ct), sl⟩) (e3 : codeIn K cdv "law" = true) .. : ∃ t, My.Txt K t

set_option maxRecDepth 100000 in
set_option maxHeartbeats 0 in
theorem PySem.Challenge.cw_LID_holds : PySem.Challenge.rw_LID.Holds := by
  w_on; o_law; k_head; (case hw => w_witness2)
  k_fill
  refine L2.walk_of (l := PySem.Challenge.rw_LID) (n := 63) (k := 40) (x := "script") (CX := fun w => ..) (sp := fun _ => My.sp_law) rfl (by decide) rfl ⟨rfl, by decide, by decide⟩ (fun w h Y => PySem.W.kIn_of Y) ?F ?S ?C
  case F =>
    intro w mg fa h KX G hmg
    have T : ∃ t, My.Txt (L2.KOf KX) t := by
      dsimp only [L2.KOf]                          -- K must stand as «<heap const> w.params» for k_is
      refine' My.txt_mk ?e1 ?e2 ?e3 ..
      (case e1 => PySem.W.k_is)                    -- in the order: a name -> its address -> its object -> its parts
      (case e2 => PySem.W.k_is)
      ..
    obtain ⟨t, T⟩ := T
    have e0 := hmg.symm.trans (PySem.W.mg_of KX G T.law)
    cases e0                                       -- fa is the law's own address
    exact ⟨_, fun s u => .of_eq rfl, fun base kb nb => My.law_fn T kb nb⟩     -- if «.of_eq rfl» comes too early: refine' ⟨_, ?b, fun base kb nb => My.law_fn T kb nb⟩; exact fun s u => .of_eq rfl
  case S => exact fun w H a ns hl hO hS => ..
  case C => exact ..
(the tactic k_is has no namespace: write k_is) -/

/-! SHORT WORDS over the layer: a def of the text, its body, what a loop and a test want. -/
namespace L2
open PySem PySem.Spec PyProof.Rows

/-! ### the text by places -/
def defArgs (s : Stmt) : Arguments := match s with
  | .FunctionDef _ a _ _ _ _ _ _ _ _ => a
  | _ => { posonlyargs := [], args := [], vararg := none, kwonlyargs := [], kw_defaults := [], kwarg := none, defaults := [] }
def defBody (s : Stmt) : List Stmt := match s with
  | .FunctionDef _ _ b _ _ _ _ _ _ _ => b
  | _ => []
def defScope (s : Stmt) : Scope := match s with
  | .FunctionDef _ _ _ _ _ _ sc _ _ _ => sc
  | _ => { kind := .function, names := [], isGenerator := false, isCoroutine := false }

/-! ### no exception leaves a def -/
abbrev CX0 : CXT := fun _ _ _ _ _ _ => False
abbrev E0 : XK := fun _ _ _ => False
theorem pass0 {X : Cx} : Passes CX0 X E0 := fun _ _ _ _ _ _ _ h => h.elim

/-! ### a def (or method) of the text as it stands behind the top -/
structure Fun (K : PySem.W.Frag) (x qual : Str) (st : Stmt) (f : Addr) (fd : FuncData) : Prop where
  ex : ∃ (oc : Value) (od : Option Addr) (kV doc pm : Value) (an : Option Addr) (cdv ct : Value) (osl : Array (Option Value)),
    fd = PySem.W.fnOf x qual (defArgs st) (defBody st) (defScope st) .none kV doc pm an cdv ct ∧ K.lookup f = some ⟨oc, od, .func fd, osl⟩ ∧ PySem.W.codeIn K cdv qual = true
  kp : PySem.W.keepIn K (.ref f) = true
section
variable {P : Program} {w : World} {K : PySem.W.Frag} {mg : Str → Option Value} {base : Heap}
/-- THE RULE for a def: its body as a term of rules, and the reading of that term -/
theorem Fun.ok {x qual : Str} {st : Stmt} {f : Addr} {fd : FuncData} {N ps : List Str} {k : Nat} {sp : Sp} (F : Fun K x qual st f fd) (S : FnScope N ps (defScope st)) (len : ∀ vs H Q E, sp vs H Q E → vs.length = ps.length)
    (hbody : ∀ (cdv : Value) (A : Around) (outer : List Env) (s : Shared) (H : Hp) (vs : List V) (Q : VK) (E : XK), Room k (A.deeper (envOfC qual (defScope st) s.heap.objs.size f cdv)) → sp vs H Q E →
      ∃ t, PSs (cxOf CX0 P w K mg base N qual (defScope st) f cdv A outer s H E).nox (defBody st) t ∧ t { nx := fun _ H' => Q .non H', rt := Q } (start N vs) H) : FnOk P w K mg base CX0 (k + 1) f fd ps sp := by
  obtain ⟨oc, od, kV, doc, pm, an, cdv, ct, osl, rfl, lk, hcd⟩ := F.ex
  refine fn_of lk hcd S len fun A outer s H vs Q E hr hsp => ?_
  obtain ⟨t, h, q⟩ := hbody cdv A outer s H vs Q E hr hsp
  exact ⟨t, h.nox, q⟩
/-- how its arguments bind (no defaults): h is «fun _ _ _ _ _ _ us hl => match us, hl with | [_, _], _ => rfl», one _ a parameter -/
theorem Fun.binds {x qual : Str} {st : Stmt} {f : Addr} {fd : FuncData} {ps : List Str} (F : Fun K x qual st f fd)
    (h : ∀ (kV doc pm : Value) (an : Option Addr) (cdv ct : Value) (us : List Value), us.length = ps.length → bindArgs (PySem.W.fnOf x qual (defArgs st) (defBody st) (defScope st) .none kV doc pm an cdv ct) ⟨us, []⟩ = pure (ps.zip us)) : Binds K fd ps [] := by
  obtain ⟨oc, od, kV, doc, pm, an, cdv, ct, osl, rfl, lk, hcd⟩ := F.ex
  exact .all (h kV doc pm an cdv ct)
theorem fun_mk {x qual : Str} {st : Stmt} {f : Addr} {oc : Value} {od an : Option Addr} {osl : Array (Option Value)} {kV doc pm cdv ct : Value} (l : K.lookup f = some ⟨oc, od, .func (PySem.W.fnOf x qual (defArgs st) (defBody st) (defScope st) .none kV doc pm an cdv ct), osl⟩)
    (c : PySem.W.codeIn K cdv qual = true) (k : PySem.W.keepIn K (.ref f) = true) : Fun K x qual st f (PySem.W.fnOf x qual (defArgs st) (defBody st) (defScope st) .none kV doc pm an cdv ct) := ⟨⟨oc, od, kV, doc, pm, an, cdv, ct, osl, rfl, l, c⟩, k⟩
end
theorem small1000 {n : Nat} (h : n ≤ 1000) : n < sizeLine := Nat.lt_of_le_of_lt h (by decide)

/-! ### expressions in short: the name that stands in the i-th slot -/
section
variable {X : Cx}
theorem pv (i : Nat) {x : Str} {pos : Pos} (hN : X.N[i]? = some x := by rfl) (hv : Vis X.env.scope x := by first | exact Or.inl rfl | exact Or.inr (Or.inl rfl) | exact Or.inr (Or.inr rfl)) (hd : (x == ("__debug__" : Str)) = false := by decide)
    (hcd : (x == ("__classdict__" : Str)) = false := by decide) : PE X (.Name x pos) (tVar i) := pe_var hN hv hd hcd
end

/-! ### tests -/
theorem iteF {A B : Prop} (h : B) : if false = true then A else B := by
  rw [if_neg Bool.false_ne_true]
  exact h
theorem iteT {A B : Prop} (h : A) : if true = true then A else B := by
  rw [if_pos rfl]
  exact h
theorem ite2 {c A B : Prop} [Decidable c] (h1 : c → A) (h2 : ¬ c → B) : if c then A else B := by
  by_cases h : c
  · rw [if_pos h]
    exact h1 h
  · rw [if_neg h]
    exact h2 h
theorem iteNS {c A B : Prop} [Decidable c] (hc : c) (h : B) : if (!decide c) = true then A else B := by
  rw [decide_eq_true hc]
  exact iteF h

end L2

set_option maxRecDepth 100000
set_option maxHeartbeats 4000000
namespace L2
open PySem PySem.Spec PyProof.Rows

/-! ### heaps: what is tracked stays, but for the tables of code, which may grow -/
/-- what is known of a code object that a table names: it is a record with a name -/
def codeP (c : Addr) : Heap → Prop := fun h => ∃ (o : Obj) (vs : Array Value) (q : Str) (t : Nat), h.get? c = some o ∧ o.data = .fields vs ∧ vs[1]? = some (.str q t)
/-- a table of code: all that it names is tracked -/
def TabOk (H : Hp) (P : Addr) : Prop := ∃ ps : Array Value, H P = some (.tbl ps) ∧ TriplesOk ps.toList ∧ ∀ pos : Pos, codeAmong pos ps.toList = none ∨ ∃ c : Addr, codeAmong pos ps.toList = some (.ref c) ∧ H c = some (.ext (codeP c))
def Kp (H H' : Hp) (b : Addr) : HO → Prop
  | .tbl _ => (∃ ps, H' b = some (.tbl ps)) ∧ (TabOk H b → TabOk H' b)
  | o => H' b = some o
/-- all that was tracked is as it was; tables of code may have grown -/
def Same (H H' : Hp) : Prop := ∀ b o, H b = some o → Kp H H' b o
theorem Kp.of {H H' : Hp} {b : Addr} {o : HO} (h : H b = some o) (e : H' b = some o) (hc : ∀ c, H c = some (.ext (codeP c)) → H' c = some (.ext (codeP c))) : Kp H H' b o := by
  cases o
  case tbl ps =>
    refine ⟨⟨ps, e⟩, fun ⟨qs, hq, tr, hp⟩ => ?_⟩
    rw [h] at hq
    cases hq
    exact ⟨_, e, tr, fun pos => (hp pos).imp id fun ⟨c, z1, z2⟩ => ⟨c, z1, hc c z2⟩⟩
  all_goals exact e
theorem same_of {H H' : Hp} (h : ∀ b o, H b = some o → H' b = some o) : Same H H' := fun b o e => Kp.of e (h b o e) fun c z => h c _ z
theorem Same.refl (H : Hp) : Same H H := same_of fun _ _ h => h
theorem Same.trans {H H1 H2 : Hp} (a : Same H H1) (b : Same H1 H2) : Same H H2 := fun c o h => by
  have z := a c o h
  cases o
  case tbl ps =>
    obtain ⟨⟨qs, hq⟩, k⟩ := z
    obtain ⟨q2, k2⟩ := b c _ hq
    exact ⟨q2, fun t => k2 (k t)⟩
  all_goals exact b c _ z
theorem Kp.some {H H' : Hp} {b : Addr} {o : HO} (k : Kp H H' b o) : ∃ u, H' b = some u := by
  cases o
  case tbl ps => exact ⟨_, k.1.choose_spec⟩
  all_goals exact ⟨_, k⟩
theorem Same.free {H H' : Hp} (e : Same H H') {l : Addr} (h : H' l = Option.none) : H l = Option.none := by
  cases q : H l with
  | none => rfl
  | some o =>
    obtain ⟨u, z⟩ := (e l o q).some
    rw [z] at h
    cases h
theorem Same.tab {H H' : Hp} {P : Addr} (e : Same H H') (t : TabOk H P) : TabOk H' P := by
  obtain ⟨ps, h, _⟩ := id t
  exact (e _ _ h).2 t
theorem codeAmong_grow {pos pos' : Pos} {c : Value} (l : List Value) (h : TriplesOk l) : codeAmong pos (l ++ [rawInt pos'.line, rawInt pos'.col, c]) = codeAmong pos l ∨ codeAmong pos (l ++ [rawInt pos'.line, rawInt pos'.col, c]) = some c := by
  fun_induction TriplesOk l with
  | case1 =>
    by_cases hc : ((pos'.line : Int) == (pos.line : Int) && (pos'.col : Int) == (pos.col : Int)) = true
    · exact .inr (by simp only [List.nil_append, codeAmong, rawInt]; rw [if_pos hc])
    · exact .inl (by simp only [List.nil_append, codeAmong, rawInt]; rw [if_neg hc])
  | case2 a t b u x rest ih =>
    simp only [List.cons_append, codeAmong]
    split
    · exact .inl rfl
    · exact ih h
  | case3 => exact h.elim
end L2

set_option maxRecDepth 100000
set_option maxHeartbeats 4000000
namespace L2
open PySem PySem.Spec PyProof.Rows

/-! ### A. List comprehensions of one clause -/
/-- a loop in the machine's monad whose every step is pure -/
theorem forIn_all {α β : Type} (g : α → β → β) {f : α → β → Sem (ForInStep β)} : ∀ (l : List α) (b : β), (∀ x ∈ l, ∀ c, f x c = pure (ForInStep.yield (g x c))) →
    forIn l b f = (pure (l.foldl (fun c x => g x c) b) : Sem β)
  | [], b, _ => by simp only [List.forIn_nil, List.foldl_nil]
  | x :: r, b, h => by
    rw [List.forIn_cons, h x List.mem_cons_self b, pure_bind]
    exact forIn_all g r (g x b) fun y hy c => h y (List.mem_cons_of_mem _ hy) c

/-- the cells that a block takes over from its def -/
def clOf (sc : Scope) (env : Env) : List (Str × Addr) :=
  sc.names.foldl (fun cs y => if (y.2 == NameKind.free) = true then (y.1, (env.cells.lookup y.1).getD 0) :: cs else cs) []
theorem clOf_eq {sc : Scope} {env : Env} (h : ∀ y ∈ sc.names, y.2 = .free → ∃ c, env.cells.lookup y.1 = some c) : closureFor sc env = pure (clOf sc env) := by
  simp only [closureFor]
  rw [forIn_all (fun (y : Str × NameKind) (cs : List (Str × Addr)) => if (y.2 == NameKind.free) = true then (y.1, (env.cells.lookup y.1).getD 0) :: cs else cs) sc.names [] (fun y hy c => by
    obtain ⟨n, k⟩ := y
    by_cases hk : k = .free
    · obtain ⟨a, ha⟩ := h _ hy hk
      subst hk
      simp only [cellOf, ha, beq_self_eq_true, if_true, pure_bind, Option.getD_some]
    · have z : (k == NameKind.free) = false := by simpa using hk
      simp only [z, Bool.false_eq_true, if_false])]
  rfl
theorem foldl_mem {α β : Type} {P : β → Prop} {g : α → List β → List β} : ∀ (l : List α) (b : List β), (∀ p ∈ b, P p) → (∀ x ∈ l, ∀ c, (∀ p ∈ c, P p) → ∀ p ∈ g x c, P p) → ∀ p ∈ l.foldl (fun c x => g x c) b, P p
  | [], b, hb, _ => hb
  | x :: r, b, hb, h => foldl_mem r (g x b) (h x List.mem_cons_self b hb) fun y hy => h y (List.mem_cons_of_mem _ hy)
theorem clOf_mem {sc : Scope} {env : Env} (h : ∀ y ∈ sc.names, y.2 = .free → ∃ c, env.cells.lookup y.1 = some c) : ∀ p ∈ clOf sc env, env.cells.lookup p.1 = some p.2 := by
  refine foldl_mem (P := fun p : Str × Addr => env.cells.lookup p.1 = some p.2) sc.names [] (fun _ z => nomatch z) fun y hy c hc p hp => ?_
  by_cases hk : y.2 = .free
  · have z : (y.2 == NameKind.free) = true := by simpa using hk
    rw [if_pos z] at hp
    rcases List.mem_cons.mp hp with e | hp
    · obtain ⟨a, ha⟩ := h y hy hk
      rw [e]
      show env.cells.lookup y.1 = some ((env.cells.lookup y.1).getD 0)
      rw [ha]
      rfl
    · exact hc p hp
  · have z : ¬ (y.2 == NameKind.free) = true := by simpa using hk
    rw [if_neg z] at hp
    exact hc p hp
theorem foldl_keep {α β : Type} {q : β} {g : α → List β → List β} (hg : ∀ x c, q ∈ c → q ∈ g x c) : ∀ (l : List α) (b : List β), q ∈ b → q ∈ l.foldl (fun c x => g x c) b
  | [], _, hb => hb
  | x :: r, b, hb => foldl_keep hg r (g x b) (hg x b hb)
theorem clOf_has {sc : Scope} {env : Env} {x : Str} {c : Addr} (hx : (x, NameKind.free) ∈ sc.names) (hc : env.cells.lookup x = some c) : (x, c) ∈ clOf sc env := by
  have kp : ∀ (y : Str × NameKind) (cs : List (Str × Addr)), (x, c) ∈ cs → (x, c) ∈ (if (y.2 == NameKind.free) = true then (y.1, (env.cells.lookup y.1).getD 0) :: cs else cs) := fun y cs h => by
    by_cases z : (y.2 == NameKind.free) = true
    · rw [if_pos z]
      exact List.mem_cons_of_mem _ h
    · rw [if_neg z]
      exact h
  unfold clOf
  obtain ⟨l1, l2, e⟩ := List.append_of_mem hx
  rw [e, List.foldl_append, List.foldl_cons]
  refine foldl_keep (g := fun (y : Str × NameKind) (cs : List (Str × Addr)) => if (y.2 == NameKind.free) = true then (y.1, (env.cells.lookup y.1).getD 0) :: cs else cs) kp l2 _ ?_
  rw [if_pos (by simp)]
  rw [hc]
  exact List.mem_cons_self
theorem lookup_some {β : Type} {x : Str} {b : β} : ∀ {l : List (Str × β)}, (x, b) ∈ l → ∃ c, l.lookup x = some c
  | [], h => nomatch h
  | (y, d) :: r, h => by
    by_cases e : x = y
    · subst e
      exact ⟨d, by rw [List.lookup_cons_self]⟩
    · have z : (x == y) = false := by simpa using e
      rcases List.mem_cons.mp h with q | q
      · cases q
        exact absurd rfl e
      · obtain ⟨c, hc⟩ := lookup_some q
        exact ⟨c, by rw [List.lookup_cons, z]; exact hc⟩
theorem clOf_look {sc : Scope} {env : Env} (h : ∀ y ∈ sc.names, y.2 = .free → ∃ c, env.cells.lookup y.1 = some c) {x : Str} {c : Addr} (e : (clOf sc env).lookup x = some c) : env.cells.lookup x = some c :=
  clOf_mem h _ (PySem.mem_of_lookup e)
theorem clOf_at {sc : Scope} {env : Env} (h : ∀ y ∈ sc.names, y.2 = .free → ∃ c, env.cells.lookup y.1 = some c) {x : Str} {c : Addr} (hx : (x, NameKind.free) ∈ sc.names) (hc : env.cells.lookup x = some c) : (clOf sc env).lookup x = some c := by
  obtain ⟨d, hd⟩ := lookup_some (clOf_has hx hc)
  have := clOf_look h hd
  rw [hc] at this
  cases this
  exact hd

/-- a block's scope as it is run, by its def's scope -/
def relS (sc sc0 : Scope) : Scope :=
  { sc with names := sc.names.map fun (n, k) => if (k == .free && sc0.kind == .function && sc0.names.lookup n == some .cell) then (n, .cell) else (n, k) }
/-- what a comprehension's table must be: n of its own names ahead in N', behind them the def's slots kp -/
def lcOk (sc0 sc : Scope) (XN N' : List Str) (n : Nat) (kp : List Nat) : Bool :=
  decide (sc.kind = .function) && sc.names.all (fun y => decide (y.2 ≠ .cell)) && sc.names.all (fun y => decide (y.2 = .local → sc.names.lookup y.1 = some .local)) &&
  sc.names.all (fun y => decide (y.2 = .free → sc0.names.lookup y.1 = some .cell)) && decide (N'.length = n + kp.length) &&
  (List.range kp.length).all (fun i => match N'[n + i]?, kp[i]? with
    | some x, some j => decide (XN[j]? = some x ∧ (x, NameKind.free) ∈ sc.names ∧ ((relS sc sc0).names.lookup x = some .cell ∨ (relS sc sc0).names.lookup x = some .free))
    | _, _ => false)
theorem lcOk_parts {sc0 sc : Scope} {XN N' : List Str} {n : Nat} {kp : List Nat} (h : lcOk sc0 sc XN N' n kp = true) :
    sc.kind = .function ∧ (∀ y ∈ sc.names, y.2 ≠ .cell) ∧ (∀ y ∈ sc.names, y.2 = .local → sc.names.lookup y.1 = some .local) ∧ (∀ y ∈ sc.names, y.2 = .free → sc0.names.lookup y.1 = some .cell) ∧ N'.length = n + kp.length ∧
    ∀ (i : Nat) (x : Str), N'[n + i]? = some x → ∃ j, kp[i]? = some j ∧ XN[j]? = some x ∧ (x, NameKind.free) ∈ sc.names ∧ ((relS sc sc0).names.lookup x = some .cell ∨ (relS sc sc0).names.lookup x = some .free) := by
  unfold lcOk at h
  simp only [Bool.and_eq_true, List.all_eq_true, decide_eq_true_eq] at h
  obtain ⟨⟨⟨⟨⟨h1, h2⟩, h3⟩, h4⟩, h5⟩, h6⟩ := h
  refine ⟨h1, h2, h3, h4, h5, fun i x hx => ?_⟩
  have hi : i < kp.length := by
    have := (List.getElem?_eq_some_iff.mp hx).1
    omega
  have q := h6 i (List.mem_range.mpr hi)
  rw [hx, List.getElem?_eq_getElem hi] at q
  exact ⟨kp[i], List.getElem?_eq_getElem hi, of_decide_eq_true q⟩

abbrev NoX : Value → Shared → Prop := fun _ _ => False
/-- a comprehension's block running, in the context of its def -/
def blk (X : Cx) (N' : List Str) (sc : Scope) (C : Addr) (fp : List Addr) (pins : List (Addr × Obj)) (s : Shared) (H : Hp) : Cx :=
  { X with N := N', s₀ := s, H₀ := H, env := compEnvC sc (clOf sc X.env) C X.env, outer := X.stack, stack := X.stack, ex := fp, fn := fun _ => false, pn := X.pn ++ pins, xe := NoX }
/-- the tests of a clause, one behind another -/
abbrev lcIfs (cs : List Expr) (env : Env) : Sem Bool := forIn cs true fun c r => if r = true then do let ok ← isTrue c env (eval c env); pure (ForInStep.yield ok) else pure (ForInStep.yield r)
def PTs (X : Cx) (cs : List Expr) (t : TT) : Prop :=
  ∀ (pins : List (Addr × Obj)) (s : Shared) (σ : St) (H : Hp) (Q : Bool → Hp → Prop), Inv X pins σ H s → t σ H Q → wpAny (model X.prog X.w) X.A (lcIfs cs X.env) (TP X pins σ Q) X.xe s
def tNoT : TT := fun _ H Q => Q true H
theorem pts_nil {X : Cx} : PTs X [] tNoT := fun _ _ _ H _ I h => wpAny_tests_nil ⟨H, I, h⟩
theorem pts_one {X : Cx} {c : Expr} {t : TT} (hc : PT X c t) : PTs X [c] t := fun pins s σ H Q I h => wpAny_tests_one (hc pins s σ H Q I h)

theorem lc_loop {prog : Program} {w : World} {A : Around} {R : Result → Shared → Prop} {elt tg iter : Expr} {cs : List Expr} {sc : Scope} {pos : Pos} {it acc : Value} {env : Env} (J : Nat → Shared → Prop)
    (turn : ∀ n s, J n s → wpAny (model prog w) A (pyNext it) (fun r s1 => match r with
      | none => R (.ok .next) s1
      | some v => wpAny (model prog w) A (letOwnedTupleGo tg it v) (fun _ s2 => wpAny (model prog w) A (assign tg env v) (fun _ s3 => wpAny (model prog w) A (lcIfs cs env) (fun ok s4 =>
          if ok = true then wpAny (model prog w) A (eval elt env) (fun x s5 => wpAny (model prog w) A (call (.builtin "list.append") [acc, x]) (fun _ s6 => ∃ m, m < n ∧ J m s6) NoX s5) NoX s4
          else ∃ m, m < n ∧ J m s4) NoX s3) NoX s2) NoX s1) NoX s)
    (n : Nat) (s : Shared) (h : J n s) : codeAny (model prog w) A (.compLoop (.ListComp elt [⟨tg, iter, cs, 0⟩] sc pos) 0 it acc env) R s := by
  refine codeAny_loop rfl J (fun n s hJ => ?_) n h
  show wpAny _ A ((compTurn (.ListComp elt [⟨tg, iter, cs, 0⟩] sc pos) 0 it acc env).onRaise (fun x => do noteFrame x env; theTreesLotGoes x)) _ _ s
  refine wpAny_noted ?_
  rw [compTurn_list]
  have no : ∀ {E : Value → Shared → Prop} (e : Value) (z : Shared), NoX e z → E e z := fun _ _ f => f.elim
  refine wpAny_bind (wpAny_standAt (wpAny_bind (wpAny_mono (turn n s hJ) (fun r s1 h1 => ?_) no)))
  cases r with
  | none => exact wpAny_pure h1
  | some v =>
    refine wpAny_bind (wpAny_mono h1 (fun _ s2 h2 => ?_) no)
    refine wpAny_bind (wpAny_mono h2 (fun _ s3 h3 => ?_) no)
    refine wpAny_bind (wpAny_mono h3 (fun ok s4 h4 => ?_) no)
    cases ok with
    | false => exact wpAny_pure ⟨rfl, h4⟩
    | true =>
      exact wpAny_bind (wpAny_bind (wpAny_mono h4 (fun x s5 h5 => wpAny_bind (wpAny_mono h5 (fun _ s6 h6 => wpAny_pure (wpAny_pure ⟨rfl, h6⟩)) no)) no))

/-- a comprehension from its iterator on: W is the invariant, by the turn, a measure, the list so far, the block's slots, the heap -/
def lcGo (J : It) (g : TG) (tc : TT) (te : TE) (σ0 : St) (H1 : Hp) (Q : VK) : Prop := ∃ W : Nat → Nat → List V → St → Hp → Prop,
  (∃ m, W 0 m [] σ0 H1) ∧ ∀ i m ys σ' H', W i m ys σ' H' → ys.length ≤ sizeLine ∧
    ((J.stop i H' ∧ ∀ p, H' p = none → Q (.ref p) (upd H' p (.lst ys))) ∨
     (J.go i H' ∧ ∃ N : List V → St → Hp → Prop, (∀ ys' σ2 H2, N ys' σ2 H2 → ∃ m', m' < m ∧ W (i + 1) m' ys' σ2 H2) ∧ ∀ x H2, J.yld i H' x H2 → g x σ' H2 fun σ3 H3 => tc σ3 H3 fun b H4 =>
       if b = true then te σ3 H4 fun v H5 => N (ys ++ [v]) σ3 H5 else N ys σ3 H4))
/-- the reading of a comprehension -/
def tLc (n : Nat) (kp : List Nat) (wi : TI) (g : TG) (tc : TT) (te : TE) : TE := fun σ H Q => wi σ H fun J H1 => lcGo J g tc te (List.replicate n none ++ kp.map fun j => (σ[j]?).join) H1 Q

/-- a comprehension over a range, by what holds at each turn -/
theorem lc_range {lo : Int} {k : Nat} {σ0 : St} {H : Hp} {g : TG} {tc : TT} {te : TE} {Q : VK} (Pv : Nat → List V → St → Hp → Prop) (h0 : Pv 0 [] σ0 H) (hz : ∀ i ys σ H, i ≤ k → Pv i ys σ H → ys.length ≤ sizeLine)
    (hs : ∀ i ys σ H, i < k → Pv i ys σ H → g (.int (lo + i)) σ H fun σ3 H3 => tc σ3 H3 fun b H4 => if b = true then te σ3 H4 fun v H5 => Pv (i + 1) (ys ++ [v]) σ3 H5 else Pv (i + 1) ys σ3 H4)
    (hd : ∀ ys σ H, Pv k ys σ H → ∀ p, H p = none → Q (.ref p) (upd H p (.lst ys))) :
    lcGo (Itr lo k) g tc te σ0 H Q := by
  refine ⟨fun i m ys σ H => m = k - i ∧ i ≤ k ∧ Pv i ys σ H, ⟨k, by simp, Nat.zero_le _, h0⟩, ?_⟩
  rintro i m ys σ H ⟨rfl, hi, p⟩
  refine ⟨hz i ys σ H hi p, ?_⟩
  by_cases hlt : i < k
  · refine .inr ⟨hlt, Pv (i + 1), fun ys' σ' H' p' => ⟨k - (i + 1), by omega, rfl, hlt, p'⟩, fun x H' y => ?_⟩
    obtain ⟨e1, e2⟩ := y
    subst e1
    subst e2
    exact hs i ys σ _ hlt p
  · have e : i = k := by omega
    subst e
    exact .inl ⟨Nat.le_refl _, hd ys σ H p⟩
/-- .. over a list that stays as it is -/
theorem lc_list {K : PySem.W.Frag} {a : Addr} {xs : List V} {σ0 : St} {H : Hp} {g : TG} {tc : TT} {te : TE} {Q : VK} (Pv : Nat → List V → St → Hp → Prop) (h0 : Pv 0 [] σ0 H) (hz : ∀ i ys σ H, i ≤ xs.length → Pv i ys σ H → ys.length ≤ sizeLine)
    (hl : ∀ i ys σ H, i ≤ xs.length → Pv i ys σ H → SqL K H a xs)
    (hs : ∀ i x ys σ H, xs[i]? = some x → Pv i ys σ H → g x σ H fun σ3 H3 => tc σ3 H3 fun b H4 => if b = true then te σ3 H4 fun v H5 => Pv (i + 1) (ys ++ [v]) σ3 H5 else Pv (i + 1) ys σ3 H4)
    (hd : ∀ ys σ H, Pv xs.length ys σ H → ∀ p, H p = none → Q (.ref p) (upd H p (.lst ys))) :
    lcGo (Itl K a) g tc te σ0 H Q := by
  refine ⟨fun i m ys σ H => m = xs.length - i ∧ i ≤ xs.length ∧ Pv i ys σ H, ⟨xs.length, by simp, Nat.zero_le _, h0⟩, ?_⟩
  rintro i m ys σ H ⟨rfl, hi, p⟩
  refine ⟨hz i ys σ H hi p, ?_⟩
  have q := hl i ys σ H hi p
  by_cases hlt : i < xs.length
  · refine .inr ⟨⟨xs, xs[i], q, by simp [hlt]⟩, Pv (i + 1), fun ys' σ' H' p' => ⟨xs.length - (i + 1), by omega, rfl, hlt, p'⟩, fun x H' y => ?_⟩
    obtain ⟨e, y⟩ := y
    subst e
    exact hs i x ys σ _ (y xs q) p
  · have e : i = xs.length := by omega
    subst e
    exact .inl ⟨⟨xs, q, Nat.le_refl _⟩, hd ys σ H p⟩

/-- .. over a tuple that stays as it is -/
theorem lc_tup {K : PySem.W.Frag} {a : Addr} {xs : List V} {σ0 : St} {H : Hp} {g : TG} {tc : TT} {te : TE} {Q : VK} (Pv : Nat → List V → St → Hp → Prop) (h0 : Pv 0 [] σ0 H) (hz : ∀ i ys σ H, i ≤ xs.length → Pv i ys σ H → ys.length ≤ sizeLine)
    (hl : ∀ i ys σ H, i ≤ xs.length → Pv i ys σ H → SqT K H a xs)
    (hs : ∀ i x ys σ H, xs[i]? = some x → Pv i ys σ H → g x σ H fun σ3 H3 => tc σ3 H3 fun b H4 => if b = true then te σ3 H4 fun v H5 => Pv (i + 1) (ys ++ [v]) σ3 H5 else Pv (i + 1) ys σ3 H4)
    (hd : ∀ ys σ H, Pv xs.length ys σ H → ∀ p, H p = none → Q (.ref p) (upd H p (.lst ys))) :
    lcGo (Itt K a) g tc te σ0 H Q := by
  refine ⟨fun i m ys σ H => m = xs.length - i ∧ i ≤ xs.length ∧ Pv i ys σ H, ⟨xs.length, by simp, Nat.zero_le _, h0⟩, ?_⟩
  rintro i m ys σ H ⟨rfl, hi, p⟩
  refine ⟨hz i ys σ H hi p, ?_⟩
  have q := hl i ys σ H hi p
  by_cases hlt : i < xs.length
  · refine .inr ⟨⟨xs, xs[i], q, by simp [hlt]⟩, Pv (i + 1), fun ys' σ' H' p' => ⟨xs.length - (i + 1), by omega, rfl, hlt, p'⟩, fun x H' y => ?_⟩
    obtain ⟨e, y⟩ := y
    subst e
    exact hs i x ys σ _ (y xs q) p
  · have e : i = xs.length := by omega
    subst e
    exact .inl ⟨⟨xs, q, Nat.le_refl _⟩, hd ys σ H p⟩

section
variable {X : Cx} {tg iter elt : Expr} {cs : List Expr} {sc sc0 : Scope} {pos : Pos} {wi : TI} {g : TG} {tc : TT} {te : TE} {XN N' : List Str} {n : Nat} {kp : List Nat}

theorem blk_ok {pins : List (Addr × Obj)} {σ : St} {H : Hp} {s : Shared} {fp : List Addr} {C : Addr} (I : Inv X pins σ H s) (hk : sc.kind = .function) (hcell : ∀ y ∈ sc.names, y.2 ≠ .cell)
    (hfr : ∀ y ∈ sc.names, y.2 = .free → ∃ c, X.env.cells.lookup y.1 = some c) (hf : ∀ b ∈ fp, FpOk X pins H b) (hl : ∀ b ∈ fp, b < s.heap.objs.size) (hC : s.heap.objs.size ≤ C) : (blk X N' sc C fp pins s H).Ok where
  mod := I.ok.mod
  kind := hk
  glob := I.ok.glob
  blt := I.ok.blt
  above := hC
  inj := fun x y c h1 h2 => I.ok.inj x y c (clOf_look hfr h1) (clOf_look hfr h2)
  has := fun x hx => by
    have q : ∃ k, (x, k) ∈ sc.names ∧ k = .free := by
      have hx' : (relS sc X.env.scope).names.lookup x = some .cell ∨ (relS sc X.env.scope).names.lookup x = some .free := hx
      have go : ∀ k, (relS sc X.env.scope).names.lookup x = some k → (k = .cell ∨ k = .free) → (x, NameKind.free) ∈ sc.names := fun k e hk' => by
        have hm := PySem.mem_of_lookup e
        obtain ⟨⟨y, ky⟩, hy, ey⟩ := List.mem_map.mp hm
        dsimp only at ey
        split at ey
        · rename_i hc
          cases ey
          have z : ky = .free := by
            simp only [Bool.and_eq_true] at hc
            simpa using hc.1.1
          subst z
          exact hy
        · cases ey
          rcases hk' with z | z
          · exact absurd z (hcell _ hy)
          · subst z
            exact hy
      rcases hx' with e | e
      · exact ⟨_, go _ e (.inl rfl), rfl⟩
      · exact ⟨_, go _ e (.inr rfl), rfl⟩
    obtain ⟨k, hm, rfl⟩ := q
    obtain ⟨c, hc⟩ := hfr _ hm rfl
    exact ⟨c, clOf_at hfr hm hc⟩
  cab := fun x c h => absurd h (by simp [blk])
  hd := I.ok.hd
  frames := I.ok.frames
  stk := .inl rfl
  exf := fun b hb => ⟨Nat.ne_of_lt (Nat.lt_of_lt_of_le (hl b hb) hC), fun x c e => (hf b hb).2.2.2.2.1 x c (clOf_look hfr e)⟩
  bs := I.bs
  bsz := Nat.le_trans I.ok.bsz I.sz
  noex := fun b o e hb => by
    rcases (hf b hb).2.2.2.1 with z | z
    · exact I.ok.noex b o e z
    · exact absurd (Nat.lt_of_lt_of_le (Heap.lt_size e) (Nat.le_trans I.ok.bsz z)) (Nat.lt_irrefl _)
  exfs := fun b hb z => by
    rcases List.mem_cons.mp (I.stkSub b z) with q | q
    · exact (hf b hb).2.1 q
    · exact (hf b hb).2.2.1 q
  funs := I.stack
  frf := I.stkFree
end
end L2

set_option maxRecDepth 100000
set_option maxHeartbeats 4000000
namespace L2
open PySem PySem.Spec PyProof.Rows
section
variable {X : Cx} {tg iter elt : Expr} {cs : List Expr} {sc sc0 : Scope} {pos : Pos} {wi : TI} {g : TG} {tc : TT} {te : TE} {XN N' : List Str} {n : Nat} {kp : List Nat}

theorem blk_start {pins : List (Addr × Obj)} {σ : St} {H : Hp} {s : Shared} {fp : List Addr} {C : Addr} {h1 : Heap} {tk : Nat} {m : Str → Option Value} (I : Inv X pins σ H s) (h0 : X.env.scope = sc0) (hN : X.N = XN) (ok : lcOk sc0 sc XN N' n kp = true)
    (hf : ∀ b ∈ fp, FpOk X pins H b) (hl : ∀ b ∈ fp, b < s.heap.objs.size) (hC : s.heap.objs.size ≤ C) (old : ∀ b o, s.heap.get? b = some o → h1.get? b = some o) (ns : h1.Ns C m) :
    Inv (blk X N' sc C fp pins s H) [] (List.replicate n none ++ kp.map fun j => (σ[j]?).join) H { s with heap := h1, toks := tk } := by
  obtain ⟨o1, o2, o3, o4, o5, o6⟩ := lcOk_parts ok
  subst h0
  subst hN
  have hfr : ∀ y ∈ sc.names, y.2 = .free → ∃ c, X.env.cells.lookup y.1 = some c := fun y hy e => I.ok.has y.1 (.inl (o4 y hy e))
  have below : ∀ b, b < s.heap.objs.size → b ≠ C := fun b hb => Nat.ne_of_lt (Nat.lt_of_lt_of_le hb hC)
  refine ⟨blk_ok I o1 o2 hfr hf hl hC, rfl, I.bare, Un.kept old, ⟨m, ns, fun i x v e1 e2 e3 => ?_⟩, fun x c e => ?_, I.hok.fresh hC, fun x c e => ?_, fun p hp => ?_, I.hok.kept old, ?_⟩
  · have hi : n ≤ i := by
      by_cases z : n ≤ i
      · exact z
      · rw [List.getElem?_append_left (by rw [List.length_replicate]; omega), List.getElem?_replicate] at e2
        split at e2 <;> cases e2
    obtain ⟨j, rfl⟩ : ∃ j, i = n + j := ⟨i - n, by omega⟩
    obtain ⟨q, hq, hx, hm, hkd⟩ := o6 j x e1
    rw [List.getElem?_append_right (by rw [List.length_replicate]; omega), List.length_replicate, Nat.add_sub_cancel_left, List.getElem?_map, hq] at e2
    have e4 : (σ[q]?).join = some v := Option.some.inj e2
    have e2' : σ[q]? = some (some v) := by
      cases z : σ[q]? with
      | none => rw [z] at e4; cases e4
      | some w => rw [z] at e4; cases e4; rfl
    obtain ⟨c, hc⟩ := hfr _ hm rfl
    have kx : X.env.kindOf x = some .cell := o4 _ hm rfl
    obtain ⟨m', hn', hl'⟩ := I.loc
    obtain ⟨u, r, lk⟩ := hl' q x v hx e2' (.inr (.inl kx))
    refine ⟨u, r, .inr ⟨hkd, c, clOf_at hfr hm hc, ?_⟩⟩
    rcases lk with ⟨k, _⟩ | ⟨_, c', hc', hv⟩
    · rw [kx] at k
      cases k
    · rw [hc] at hc'
      cases hc'
      exact hv.keeps old
  · obtain ⟨v, hv⟩ := I.cell x c (clOf_look hfr e)
    exact ⟨v, hv.keeps old⟩
  · exact I.freeC x c (clOf_look hfr e)
  · have hp' : p ∈ X.pn ++ pins := by
      have : p ∈ (X.pn ++ pins) ++ ([] : List (Addr × Obj)) := hp
      rw [List.append_nil] at this
      exact this
    obtain ⟨q1, q2, q3, q4, q5⟩ := I.pin p hp'
    refine ⟨old _ _ q1, q2, below _ (Heap.lt_size q1), fun z => ?_, q5⟩
    rcases List.mem_cons.mp (I.stkSub _ z) with r | r
    · exact q3 r
    · exact q4 r
  · show (List.replicate n none ++ kp.map fun j => (σ[j]?).join).length = N'.length
    rw [List.length_append, List.length_replicate, List.length_map, o5]

/-- the run of a comprehension up to its end; what comes then is asked by fin -/
theorem lc_run {pins : List (Addr × Obj)} {s : Shared} {σ : St} {H : Hp} {Q : VK} {use : Option (Value → Sem Unit)} {Qf : Value → Shared → Prop} (hc : X.calm = true) (hi : PI X tg iter wi) (h0 : X.env.scope = sc0) (hN : X.N = XN) (ok : lcOk sc0 sc XN N' n kp = true)
    (hg : ∀ C fp pins s H, PG (blk X N' sc C fp pins s H) tg g) (ht : ∀ C fp pins s H, PTs (blk X N' sc C fp pins s H) cs tc) (he : ∀ C fp pins s H, PE (blk X N' sc C fp pins s H) elt te) (hs : ∀ x, foldedSetIterable iter X.env x = pure x)
    (I : Inv X pins σ H s) (h : tLc n kp wi g tc te σ H Q)
    (fin : ∀ D C ys H' s', Inv X pins σ (upd H' D (.lst ys)) s' → (∃ m, s'.heap.Ns C m) → FpOk X pins (upd H' D (.lst ys)) C → Q (.ref D) (upd H' D (.lst ys)) → compPost (model X.prog X.w) X.A X.xe use Qf (.ref D) C (.ok .next) s') {pos' : Pos} :
    wpAny (model X.prog X.w) X.A (comprehension (.ListComp elt [⟨tg, iter, cs, 0⟩] sc pos) sc X.env pos' (newList []) false (firstIter [⟨tg, iter, cs, 0⟩] X.env) use) Qf X.xe s := by
  obtain ⟨o1, o2, o3, o4, o5, o6⟩ := lcOk_parts ok
  have hfr : ∀ y ∈ sc.names, y.2 = .free → ∃ c, X.env.cells.lookup y.1 = some c := fun y hy e => I.ok.has y.1 (.inl (by rw [Env.kindOf, h0]; exact o4 y hy e))
  refine wpAny_comprehension_free (use := use) rfl hs (clOf_eq hfr) o1 o3 (thn (hi pins s σ H _ I h) fun v s1 h1 => thn h1 fun itv s2 h2 => ?_)
  obtain ⟨it, fp, tn, J, H2, rfl, I2, T, st2, f2, W, ⟨m0, w0⟩, turn⟩ := h2
  have hl : ∀ b ∈ fp, b < s2.heap.objs.size := fun b hb => by
    obtain ⟨o, e, _⟩ := T.obj 0 _ st2 b hb
    exact Heap.lt_size e
  refine wpAny_newObj_type (wpAny_newFunctionEnv o2 (by intro y hy; simp at hy) (fun h1 ns1 sb1 => ?_) o1)
  dsimp only at ns1 sb1 ⊢
  generalize hG : s2.heap.push { cls := .type "list", dict := none, data := .seq ([] : List Value).toArray } = G at ns1 sb1 ⊢
  have hGs : G.objs.size = s2.heap.objs.size + 1 := by rw [← hG, Heap.size_push]
  have hCl : s2.heap.objs.size ≤ G.objs.size := by omega
  have hDC : s2.heap.objs.size ≠ G.objs.size := by omega
  have old : ∀ b o, s2.heap.get? b = some o → h1.get? b = some o := fun b o e => by
    have lt := Heap.lt_size e
    exact sb1.extBut b o (Nat.ne_of_lt (Nat.lt_of_lt_of_le lt hCl)) (Heap.get?_push_of_some _ (hG ▸ Heap.get?_push_of_some _ e))
  have hD1 : h1.get? s2.heap.objs.size = some { cls := .type "list", data := .seq ([] : List Value).toArray 0 } :=
    sb1.extBut _ _ hDC (Heap.get?_push_of_some _ (hG ▸ Heap.get?_push_size _ rfl))
  have nD2 : H2 s2.heap.objs.size = none := I2.hok.fresh (Nat.le_refl _)
  have nC2 : H2 G.objs.size = none := I2.hok.fresh hCl
  -- the loop from any state that the block may begin with
  have loop : ∀ s3 : Shared, s3 = { s2 with heap := h1, toks := s2.toks + ([] : List (Str × Value)).length } →
      codeAny (model X.prog X.w) X.A (.compLoop (.ListComp elt [⟨tg, iter, cs, 0⟩] sc pos) 0 (.ref it) (.ref s2.heap.objs.size) (compEnvC sc (clOf sc X.env) G.objs.size X.env))
        (compPost (model X.prog X.w) X.A X.xe use Qf (.ref s2.heap.objs.size) G.objs.size) s3 := by
    rintro s3 rfl
    have I3 := blk_start (fp := fp) (C := G.objs.size) (h1 := h1) (tk := s2.toks + ([] : List (Str × Value)).length) I2 h0 hN ok f2 hl hCl old ns1
    have stat : ∀ {H' : Hp} {o : Obj}, (∀ b ∈ fp, H' b = none) → ∀ b ∈ fp, FpOk (blk X N' sc G.objs.size fp pins s2 H2) [(s2.heap.objs.size, o)] H' b := fun hn b hb => by
      have lt := hl b hb
      refine ⟨hn b hb, Nat.ne_of_lt (Nat.lt_of_lt_of_le lt hCl), I3.ok.exfs b hb, .inl hb, (I3.ok.exf b hb).2, fun p hp => ?_⟩
      rcases List.mem_append.mp hp with z | z
      · exact (f2 b hb).2.2.2.2.2 p z
      · have e : p.1 = s2.heap.objs.size := by rw [List.mem_singleton.mp z]
        rw [e]
        exact Nat.ne_of_gt lt
    have pinD : ∀ {σ' : St} {H' : Hp} {s' : Shared} {o : Obj}, Inv (blk X N' sc G.objs.size fp pins s2 H2) [] σ' H' s' → s'.heap.get? s2.heap.objs.size = some o → (∀ v, o.data ≠ .cell v) → H' s2.heap.objs.size = none →
        Inv (blk X N' sc G.objs.size fp pins s2 H2) [(s2.heap.objs.size, o)] σ' H' s' := fun {σ' H' s' o} J' e hd hn => J'.pins_of fun p hp => by
      rw [List.mem_singleton.mp hp]
      exact ⟨e, hn, hDC, fun z => by
        rcases List.mem_cons.mp (I2.stkSub _ z) with r | r
        · exact absurd I2.lt (by rw [← r]; exact Nat.lt_irrefl _)
        · exact I2.nofs (Nat.le_refl _) r, hd⟩
    refine lc_loop (fun k s' => ∃ (i : Nat) (ys : List V) (its : List Value) (c : Nat) (σ' : St) (H' : Hp), Inv (blk X N' sc G.objs.size fp pins s2 H2) [] σ' H' s' ∧ tn i s'.heap ∧ (∀ b ∈ fp, H' b = none) ∧
      s'.heap.get? s2.heap.objs.size = some { cls := .type "list", data := .seq its.toArray c } ∧ Vals ys its ∧ H' s2.heap.objs.size = none ∧ W i k ys σ' H') ?_ m0 _
      ⟨0, [], [], 0, _, H2, I3, T.keep _ _ _ st2 fun b _ o e => old b o e, fun b hb => (f2 b hb).1, hD1, .nil, nD2, w0⟩
    rintro k s' ⟨i, ys, its, c, σ', H', I', st', fr', hD', hv, nD, w'⟩
    obtain ⟨hz, cases⟩ := turn i k ys σ' H' w'
    have I'' := pinD I' hD' (fun v => by intro z; cases z) nD
    rcases cases with ⟨stop, q⟩ | ⟨go, N, hN2, step⟩
    · refine thn (T.done (blk X N' sc G.objs.size fp pins s2 H2) rfl rfl rfl hc i _ s' σ' H' NoX I'' (stat fr') st' stop) fun r s4 ⟨hr, I4⟩ => ?_
      subst hr
      obtain ⟨e4, n4, _⟩ := I4.pin (s2.heap.objs.size, { cls := .type "list", data := .seq its.toArray c }) (List.mem_append_right _ (List.mem_singleton.mpr rfl))
      have u4 : Un (frs X.stack) fp H2 H' s2.heap s4.heap := I4.base
      have nC4 : H' G.objs.size = none := I4.free
      obtain ⟨m4, ns4, _⟩ := I4.loc
      have neD : ∀ b o, s2.heap.get? b = some o → b ≠ s2.heap.objs.size := fun b o e => Nat.ne_of_lt (Heap.lt_size e)
      have u5 : Un (frs X.stack) fp H2 (upd H' s2.heap.objs.size (.lst ys)) s2.heap s4.heap :=
        ⟨u4.keep, u4.slot, fun b o e nb hx => by rw [upd_ne (neD b o e)]; exact u4.free b o e nb hx, u4.there, fun b xs e => by rw [upd_ne (ne_of_none e nD2)]; exact u4.tups b xs e,
          fun b o u e => by rw [upd_ne (ne_of_none e nD2)]; exact u4.frzs b o u e, fun b ps e => by rw [upd_ne (ne_of_none e nD2)]; exact u4.tbls b ps e⟩
      have hok5 : HOk X.prog X.w (upd H' s2.heap.objs.size (.lst ys)) s4.heap := fun a o e => by
        by_cases ea : a = s2.heap.objs.size
        · subst ea
          rw [upd_same] at e
          cases e
          exact ⟨hz, its, c, hv, e4⟩
        · rw [upd_ne ea] at e
          exact (I4.hok a o e).stay (fun _ _ _ q => q) (fun b q => by rw [upd_ne (ne_of_none q nD)]; exact q) fun b xs q => by rw [upd_ne (ne_of_none q nD)]; exact q
      have I5 : Inv X pins σ (upd H' s2.heap.objs.size (.lst ys)) s4 := I2.call' I4.os u5 hok5 I4.bare fun b hb => ⟨(f2 b hb).2.2.2.1, (f2 b hb).2.1, (f2 b hb).2.2.2.2.1, (f2 b hb).2.2.2.2.2⟩
      refine fin _ _ ys H' s4 I5 ⟨m4, ns4⟩ (I2.fpOk hCl ?_) (q _ nD)
      rw [upd_ne (Ne.symm hDC)]
      exact nC4
    · refine thn (T.item (blk X N' sc G.objs.size fp pins s2 H2) rfl rfl rfl hc i _ s' σ' H' NoX I'' (stat fr') st' go) fun r s4 ⟨u, hr, h4⟩ => ?_
      subst hr
      refine thn h4 fun _ s5 ⟨x, H5, I5, r5, y5, st5, fr5⟩ => ?_
      have I5' := I5.pinned (stat fr5) (T.obj _ _ st5)
      refine thn (hg _ _ _ _ _ _ s5 σ' H5 x u _ I5' r5 (step x H5 y5)) fun _ s6 ⟨σ6, H6, I6, q6⟩ => ?_
      refine thn (ht _ _ _ _ _ _ s6 σ6 H6 _ I6 q6) fun b s7 ⟨H7, I7, q7⟩ => ?_
      have back : ∀ {s8 : Shared} {H8 : Hp} (m' : Nat), Inv (blk X N' sc G.objs.size fp pins s2 H2) ([(s2.heap.objs.size, { cls := .type "list", data := .seq its.toArray c })] ++ pinsAt fp s5.heap) σ6 H8 s8 →
          tn (i + 1) s8.heap ∧ (∀ b ∈ fp, H8 b = none) ∧ s8.heap.get? s2.heap.objs.size = some { cls := .type "list", data := .seq its.toArray c } ∧ H8 s2.heap.objs.size = none := fun {s8 H8} m' I8 => by
        have pn : ∀ p ∈ [(s2.heap.objs.size, ({ cls := .type "list", data := .seq its.toArray c } : Obj))] ++ pinsAt fp s5.heap, s8.heap.get? p.1 = some p.2 ∧ H8 p.1 = none := fun p hp =>
          let ⟨a, b, _⟩ := I8.pin p (List.mem_append_right _ hp); ⟨a, b⟩
        refine ⟨T.keep _ _ _ st5 fun b hb o e => (pn (b, o) (List.mem_append_right _ (mem_pinsAt hb e))).1, fun b hb => ?_, pn _ (List.mem_append_left _ (List.mem_singleton.mpr rfl))⟩
        obtain ⟨o, e, _⟩ := T.obj _ _ st5 b hb
        exact (pn (b, o) (List.mem_append_right _ (mem_pinsAt hb e))).2
      have bare : ∀ {s8 : Shared} {H8 : Hp} {pl : List (Addr × Obj)}, Inv (blk X N' sc G.objs.size fp pins s2 H2) pl σ6 H8 s8 → Inv (blk X N' sc G.objs.size fp pins s2 H2) [] σ6 H8 s8 := fun I8 => I8.pins_of fun p hp => nomatch hp
      cases b with
      | false =>
        rw [if_neg Bool.false_ne_true] at q7 ⊢
        obtain ⟨m', lt, w7⟩ := hN2 _ _ _ q7
        obtain ⟨b1, b2, b3, b4⟩ := back m' I7
        exact ⟨m', lt, i + 1, ys, its, c, σ6, H7, bare I7, b1, b2, b3, hv, b4, w7⟩
      | true =>
        rw [if_pos rfl] at q7 ⊢
        refine thn (he _ _ _ _ _ _ s7 σ6 H7 _ I7 q7) fun y s8 ⟨yv, H8, I8, r8, q8⟩ => ?_
        obtain ⟨m', lt, w8⟩ := hN2 _ _ _ q8
        obtain ⟨b1, b2, b3, b4⟩ := back m' I8
        have hlen := hv.length
        refine append_at (hsz := by rw [List.size_toArray, ← hlen]; exact hz) b3 fun h9 sb9 e9 => ?_
        have I9 : Inv (blk X N' sc G.objs.size fp pins s2 H2) [] σ6 H8 { s8 with heap := h9 } := (bare I8).turned (t' := s8.toks) (it := s2.heap.objs.size) (fun b o hb e => sb9.extBut b o hb e) b4 hDC (.inr (Nat.le_refl _))
          (fun x c e z => by
            obtain ⟨v, hv⟩ := I2.cell x c (clOf_look hfr e)
            exact absurd hv.lt (by rw [z]; exact Nat.lt_irrefl _))
          fun p hp z => by
            have hp' : p ∈ X.pn ++ pins := by
              have : p ∈ (X.pn ++ pins) ++ ([] : List (Addr × Obj)) := hp
              rw [List.append_nil] at this
              exact this
            exact absurd (Heap.lt_size (I2.pin p hp').1) (by rw [z]; exact Nat.lt_irrefl _)
        refine ⟨m', lt, i + 1, ys ++ [yv], its ++ [y], c + 1, σ6, H8, I9, T.keep _ _ _ b1 fun b hb o e => sb9.extBut b o (Nat.ne_of_lt (hl b hb)) e, b2, ?_, hv.append (.cons r8 .nil), b4, w8⟩
        rw [e9]
        simp
  exact codeAny_compStart_list (loop _ rfl) (T.self _ 0 _ _ _ (T.keep _ _ _ st2 fun b _ o e => old b o e) (loop _ rfl))

/-- a comprehension as a value -/
theorem pe_lc (hc : X.calm = true) (hi : PI X tg iter wi) (h0 : X.env.scope = sc0) (hN : X.N = XN) (ok : lcOk sc0 sc XN N' n kp = true)
    (hg : ∀ C fp pins s H, PG (blk X N' sc C fp pins s H) tg g) (ht : ∀ C fp pins s H, PTs (blk X N' sc C fp pins s H) cs tc) (he : ∀ C fp pins s H, PE (blk X N' sc C fp pins s H) elt te)
    (hs : ∀ x, foldedSetIterable iter X.env x = pure x := by intro _; rfl) : PE X (.ListComp elt [⟨tg, iter, cs, 0⟩] sc pos) (tLc n kp wi g tc te) := by
  intro pins s σ H Q I h
  rw [eval_ListComp]
  refine lc_run hc hi h0 hN ok hg ht he hs I h fun D C ys H' s' I' ns fp q => ?_
  obtain ⟨m, hm⟩ := ns
  refine ⟨m, hm, fun h' sb => ⟨.ref D, _, ?_, rfl, q⟩⟩
  obtain ⟨f1, f2, f3, f4, f5, f6⟩ := fp
  exact I'.turned (t' := s'.toks) (it := C) (fun b o hb e => sb.extBut b o hb e) f1 f2 f4 f5 f6
end
end L2

set_option maxRecDepth 100000
set_option maxHeartbeats 4000000
namespace L2
open PySem PySem.Spec PyProof.Rows
section
variable {X : Cx} {tg iter elt : Expr} {cs : List Expr} {sc sc0 : Scope} {pos : Pos} {wi : TI} {g : TG} {tc : TT} {te : TE} {XN N' : List Str} {n : Nat} {kp : List Nat}
/-- name = [ .. for .. ], where the store is exchanged with the letting go of the block's names -/
theorem ps_setLc {i : Nat} {y : Str} {py spos : Pos} (hNd : X.N.Nodup) (hiy : X.N[i]? = some y) (hy : X.env.scope.names.lookup y = some .local) (hsw : swapsWith (.ListComp elt [⟨tg, iter, cs, 0⟩] sc pos) (some (.Name y py)) spos.line X.env = pure true)
    (hc : X.calm = true) (hi : PI X tg iter wi) (h0 : X.env.scope = sc0) (hN : X.N = XN) (ok : lcOk sc0 sc XN N' n kp = true)
    (hg : ∀ C fp pins s H, PG (blk X N' sc C fp pins s H) tg g) (ht : ∀ C fp pins s H, PTs (blk X N' sc C fp pins s H) cs tc) (he : ∀ C fp pins s H, PE (blk X N' sc C fp pins s H) elt te)
    (hs : ∀ x, foldedSetIterable iter X.env x = pure x := by intro _; rfl) : PS X (.Assign [.Name y py] (.ListComp elt [⟨tg, iter, cs, 0⟩] sc pos) spos) (tAsg (tLc n kp wi g tc te) (gName i)) := by
  intro pins s σ H D I h
  rw [exec_Assign_Name_used _ _ _ _ hsw]
  refine wpAny_bind (wpAny_standAt (wpAny_bind ?_))
  have fin : wpAny (model X.prog X.w) X.A (comprehension (.ListComp elt [⟨tg, iter, cs, 0⟩] sc pos) sc X.env (firstIterPos [⟨tg, iter, cs, 0⟩] pos) (newList []) false (firstIter [⟨tg, iter, cs, 0⟩] X.env) (some (assign (.Name y py) X.env)))
      (fun _ s' => SP X pins D .next s') X.xe s := by
    refine lc_run (Q := fun x H1 => gName i x σ H1 D.nx) hc hi h0 hN ok hg ht he hs I h fun D' C ys H' s' I' ns fp q => ?_
    obtain ⟨m, hm⟩ := ns
    obtain ⟨f1, f2, f3, f4, f5, f6⟩ := fp
    obtain ⟨o, es, ep, ho, rest⟩ := id hm
    have nc : ∀ v, o.data ≠ .cell v := fun v z => by
      rw [rest.1] at z
      cases z
    have I'' : Inv X (pins ++ [(C, o)]) σ (upd H' D' (.lst ys)) s' := I'.pins_of fun p hp => by
      rcases List.mem_append.mp hp with z | z
      · exact I'.pin p (List.mem_append_right _ z)
      · rw [List.mem_singleton.mp z]
        exact ⟨ho, f1, f2, f3, nc⟩
    show wpAny (model X.prog X.w) X.A (assign (.Name y py) X.env (.ref D')) _ X.xe s'
    refine thn (pg_name hNd hiy (.inl hy) (.inr hy) _ s' σ _ (.ref D') (.ref D') D.nx I'' rfl q) fun _ s'' ⟨σ3, H3, I3, q3⟩ => ?_
    obtain ⟨p1, p2, _⟩ := I3.pin (C, o) (List.mem_append_right _ (List.mem_append_right _ (List.mem_singleton.mpr rfl)))
    refine ⟨m, ⟨o, es, ep, p1, rest⟩, fun h' sb => ⟨σ3, H3, ?_, q3⟩⟩
    exact I3.unpinned.turned (t' := s''.toks) (it := C) (fun b o hb e => sb.extBut b o hb e) p2 f2 f4 f5 f6
  show wpAny (model X.prog X.w) X.A (comprehension _ _ _ _ _ _ _ _ >>= _) _ _ s
  exact wpAny_bind (thn fin fun _ s' q => wpAny_pure (wpAny_pure q))
end

/-! ### B. Built-ins that the layer lacks -/
section
variable {X : Cx}
def kitTy (T C : String) : Option Bool := if T = C then some true else if PySem.W.kitMeta C = true then (fastBuiltinMro T).map (·.contains (.type C)) else none
theorem kit_ty {K : PySem.W.Frag} {T C : String} {b : Bool} (h : kitTy T C = some b) : PySem.W.kitOne K (.type T) (.type C) = some b := by
  unfold kitTy at h
  unfold PySem.W.kitOne
  by_cases e : T = C
  · subst e
    rw [if_pos rfl] at h
    rw [if_pos (beq_self_eq_true _)]
    exact h
  · rw [if_neg e] at h
    have z : ¬ (Value.type T == Value.type C) = true := fun q => by
      have q' := eq_of_beq q
      injection q' with q''
      exact e q''
    rw [if_neg z]
    exact h
/-- isinstance(x, T), T a built-in type -/
theorem call_isi : CallR X (.builtin "isinstance") (fun xs H Q => ∃ (x : V) (T C : String) (b : Bool), xs = [x, .ty C] ∧ TyOf X.K H x (.type T) ∧ kitTy T C = some b ∧ Q (.bl b) H) := by
  intro pins s σ H xs us Q I r h
  obtain ⟨x, T, C, b, rfl, ty, e, q⟩ := h
  obtain ⟨u, w', rfl, rx, ry⟩ := vals2 r
  cases (show w' = Value.type C from ry)
  exact isinst_ok I rx ty (kit_ty e) fun tk => ⟨.bl b, H, I.tok tk, rfl, q⟩
/-- n.bit_length() -/
theorem mt_bits : MtR X "int.bit_length" (fun x xs H Q => ∃ i : Int, x = .int i ∧ xs = [] ∧ Q (.int (Builtin.Int.intBits i : Nat)) H) := by
  intro pins s σ H x xs v us Q I rx r h
  obtain ⟨i, rfl, rfl, q⟩ := h
  obtain ⟨t, rfl⟩ := rx
  cases r
  exact call_int_bit_length ⟨.int _, H, I.tok _, ⟨_, rfl⟩, q⟩
/-- two lists of ints compared -/
theorem op_ne_ints (hu : X.A.units + 64 < cLine) : OpR X (compareOp .NotEq) (fun x y H Q => ∃ (a b : Addr) (ns ms : List Int), x = .ref a ∧ y = .ref b ∧ SqL X.K H a (ns.map V.int) ∧ SqL X.K H b (ms.map V.int) ∧ Q (.bl (!decide (ns = ms))) H) := by
  intro pins s σ H x y v u Q I rx ry h
  obtain ⟨a, b, ns, ms, rfl, rfl, ha, hb, q⟩ := h
  cases rx
  cases ry
  obtain ⟨xs, rv, p, _⟩ := I.list ha
  obtain ⟨ys, rv', p', _⟩ := I.list hb
  exact PySem.W.ke_ne_ints p.isList p'.isList (intsAre_of rv) (intsAre_of rv') hu ⟨.bl _, H, I, rfl, q⟩
end
end L2

set_option maxRecDepth 100000
set_option maxHeartbeats 4000000
namespace L2
open PySem PySem.Spec PyProof.Rows

/-! ### C. enumerate of a list or a tuple -/
section
variable {prog : Program} {w : World} {A : Around} {E : Value → Shared → Prop} {s : Shared}
open AutoSeq1 (wpAny_loadPart') in
end

section
variable {X : Cx} {pins : List (Addr × Obj)} {σ : St} {H : Hp} {s : Shared}
end
/-! the iterator of enumerate(e) -/
end L2

set_option maxRecDepth 100000
set_option maxHeartbeats 4000000
namespace L2
open PySem PySem.Spec PyProof.Rows
/-! ### D. More built-ins -/
section
variable {X : Cx}
theorem vals_of {P : Nat → Value → Prop} {f : Nat → V} (hP : ∀ i v, P i v → RelV (f i) v) : ∀ (n k : Nat) (l : List Value), l.length = n → (∀ j v, l[j]? = some v → P (k + j) v) → Vals ((List.range' k n).map f) l
  | 0, k, [], _, _ => .nil
  | n + 1, k, v :: r, hl, h => by
    rw [List.range'_succ, List.map_cons]
    refine .cons (hP _ _ (h 0 v rfl)) (vals_of hP n (k + 1) r (by simpa using hl) fun j v' e => ?_)
    have := h (j + 1) v' (by simpa using e)
    rw [show k + 1 + j = k + (j + 1) by omega]
    exact this
  | 0, _, _ :: _, hl, _ => by simp at hl
  | n + 1, _, [], hl, _ => by simp at hl
/-- list(range) -/
theorem call_list_rng (hc : X.calm = true) : CallR X (.type "list") (fun xs H Q => ∃ (p : Addr) (lo hi : Int), xs = [.ref p] ∧ H p = some (.rng lo hi) ∧ -(2 ^ 62) ≤ lo ∧ lo < 2 ^ 62 ∧ -(2 ^ 62) ≤ hi ∧ hi < 2 ^ 62 ∧ (hi - lo).toNat ≤ 1000 ∧ ∀ l, H l = none → Q (.ref l) (upd H l (.lst ((List.range' 0 (hi - lo).toNat).map fun i : Nat => V.int (lo + i))))) := by
  intro pins s σ H xs us Q I r h
  obtain ⟨p, lo, hi, rfl, hp, b1, b2, b3, b4, hz, q⟩ := h
  obtain ⟨u, rfl, rx⟩ := vals1 r
  cases rx
  obtain ⟨t, u, v, e⟩ := (show ObjOk X.prog X.w H s.heap p (.rng lo hi) from I.hok p _ hp)
  have hn : Builtin.Range.rangeSize lo hi 1 = (((hi - lo).toNat : Nat) : Int) := by
    rw [rangeSize_one]
    split <;> omega
  refine call_list_range (I.ok.hd hc) e (small_one b1 b2 b3 b4) hn (Nat.le_trans hz (by decide)) fun g tk acc c kk eg hi' => ?_
  obtain ⟨sz, it⟩ := hi'
  have vv : Vals ((List.range' 0 (hi - lo).toNat).map fun i : Nat => V.int (lo + i)) acc.toList := by
    refine vals_of (P := fun i v => ∃ t, v = .int (lo + i * 1) t) (fun i v hv => ?_) _ 0 acc.toList (by simpa using sz) fun j v ej => ?_
    · obtain ⟨t, rfl⟩ := hv
      exact ⟨t, by rw [Int.mul_one]⟩
    · have := it j v (by simpa using ej)
      rw [Nat.zero_add]
      exact this
  refine ⟨.ref s.heap.objs.size, _, I.laid (t' := tk) kk (Nat.le_refl _) (show ObjOk X.prog X.w _ _ _ (.lst _) from ⟨?_, acc.toList, c, vv, eg⟩), rfl, q _ (I.hok.fresh (Nat.le_refl _))⟩
  rw [List.length_map, List.length_range']
  exact Nat.le_of_lt (small1000 hz)
open AutoSeq1 (wpAny_loadPart') in
/-- a list or a tuple walked -/
def iSeq (K : PySem.W.Frag) (tl : TE) : TI := fun σ H R => tl σ H fun x H1 => ∃ a, x = .ref a ∧ (((∃ xs, SqL K H1 a xs) ∧ R (Itl K a) H1) ∨ ((∃ xs, SqT K H1 a xs) ∧ R (Itt K a) H1))
theorem pi_seq {tg l : Expr} {tl : TE} (hl : PE X l tl) : PI X tg l (iSeq X.K tl) := by
  intro pins s σ H R I h
  refine thn (hl pins s σ H _ I h) fun v s1 ⟨x, H1, I1, r1, q1⟩ => ?_
  obtain ⟨a, rfl, q⟩ := q1
  cases r1
  rcases q with ⟨⟨xs, hq⟩, q⟩ | ⟨⟨xs, hq⟩, q⟩
  · obtain ⟨its, rv, p, hz⟩ := I1.list hq
    refine wpAny_pyIter_list p.isList ⟨s1.heap.objs.size, [s1.heap.objs.size], _, _, H1, rfl, I1.kept (t' := s1.toks) fun b o e => Heap.get?_push_of_some _ e, turn_list a _, ⟨_, Heap.get?_push_size _ rfl, rfl, rfl⟩, fun b hb => ?_, q⟩
    rw [List.mem_singleton.mp hb]
    exact I1.fpOk (Nat.le_refl _) (I1.hok.fresh (Nat.le_refl _))
  · obtain ⟨its, rv, p, hz⟩ := I1.tuple hq
    refine wpAny_pyIter_tuple (show s1.heap.IsTuple a its.toArray from p) ⟨s1.heap.objs.size, [s1.heap.objs.size], _, _, H1, rfl, I1.kept (t' := s1.toks) fun b o e => Heap.get?_push_of_some _ e, turn_tuple a _, ⟨_, Heap.get?_push_size _ rfl, rfl, rfl⟩, fun b hb => ?_, q⟩
    rw [List.mem_singleton.mp hb]
    exact I1.fpOk (Nat.le_refl _) (I1.hok.fresh (Nat.le_refl _))
/-- the sum of a list of ints -/
theorem call_sum_ints (hc : X.calm = true) : CallR X (.builtin "sum") (fun xs H Q => ∃ (p : Addr) (ns : List Int), xs = [.ref p] ∧ SqL X.K H p (ns.map V.int) ∧ Q (.int ns.sum) H) := by
  intro pins s σ H xs us Q I r h
  obtain ⟨p, ns, rfl, hq, q⟩ := h
  obtain ⟨u, rfl, rx⟩ := vals1 r
  cases rx
  obtain ⟨its, rv, pl, hz'⟩ := I.list hq
  have ia := intsAre_of rv
  obtain ⟨ps, hx⟩ := ia.allInts.items
  have hl' : s.heap.IsList p (intItems ps) := hx ▸ pl.isList
  refine sum_intListG (I.ok.hd hc) hl' fun g tk t' hk => ?_
  have e1 : ns = ps.toList.map (·.1) := by
    rw [← nums_intItems, ← hx]
    exact (show numsOf its.toArray.toList = ns from ia.numsOf).symm
  have e2 : preSum (numAt ps) ps.size = ns.sum := by
    rw [preSum_eq, List.take_of_length_le (by simp), e1]
  rw [e2]
  exact ⟨.int _, H, I.kept (t' := tk) hk, ⟨t', rfl⟩, q⟩
end

/-! the layer's rules with the text's heap named (for blocks) -/
section
variable {X : Cx} {K : PySem.W.Frag}
theorem ixT (h : X.K = K := by rfl) : IxR X (rIxT K) := h ▸ ix_tup
theorem ixL (h : X.K = K := by rfl) : IxR X (rIxL K) := h ▸ ix_list
theorem lenS (h : X.K = K := by rfl) : CallR X (.builtin "len") (fun xs H Q => ∃ p ys, xs = [.ref p] ∧ (SqL K H p ys ∨ SqT K H p ys) ∧ Q (.int ys.length) H) := h ▸ call_len_seq
theorem isiK (h : X.K = K := by rfl) : CallR X (.builtin "isinstance") (fun xs H Q => ∃ (x : V) (T C : String) (b : Bool), xs = [x, .ty C] ∧ TyOf K H x (.type T) ∧ kitTy T C = some b ∧ Q (.bl b) H) := h ▸ call_isi
end
/-! ### E. Data: what a value stands for -/
mutual
def Dn (H : Hp) : PyData → V → Prop
  | .none, v => v = .non
  | .bool b, v => v = .bl b
  | .int i, v => v = .int i
  | .str x, v => v = .str x
  | .list ds, v => ∃ a xs, v = .ref a ∧ H a = some (.lst xs) ∧ DnL H ds xs
  | .tuple ds, v => ∃ a xs, v = .ref a ∧ H a = some (.tup xs) ∧ DnL H ds xs
  | .dict kvs, v => kvs = [] ∧ ∃ a, v = .ref a ∧ H a = some (.dK [])
def DnL (H : Hp) : List PyData → List V → Prop
  | [], xs => xs = []
  | d :: ds, xs => ∃ x r, xs = x :: r ∧ Dn H d x ∧ DnL H ds r
end
mutual
theorem Dn.same {H H' : Hp} (h : Same H H') : ∀ (d : PyData) (v : V), Dn H d v → Dn H' d v
  | .none, _, q => q
  | .bool _, _, q => q
  | .int _, _, q => q
  | .str _, _, q => q
  | .list ds, _, ⟨a, xs, e, q, r⟩ => ⟨a, xs, e, h _ _ q, DnL.same h ds xs r⟩
  | .tuple ds, _, ⟨a, xs, e, q, r⟩ => ⟨a, xs, e, h _ _ q, DnL.same h ds xs r⟩
  | .dict _, _, ⟨e, a, q, r⟩ => ⟨e, a, q, h _ _ r⟩
theorem DnL.same {H H' : Hp} (h : Same H H') : ∀ (ds : List PyData) (xs : List V), DnL H ds xs → DnL H' ds xs
  | [], _, q => q
  | d :: ds, _, ⟨x, r, e, q, z⟩ => ⟨x, r, e, Dn.same h d x q, DnL.same h ds r z⟩
end
theorem DnL.length {H : Hp} : ∀ {ds : List PyData} {xs : List V}, DnL H ds xs → ds.length = xs.length
  | [], _, q => by cases (show _ = [] from q); rfl
  | d :: ds, _, ⟨x, r, e, _, z⟩ => by rw [e, List.length_cons, List.length_cons, DnL.length z]
theorem DnL.get {H : Hp} : ∀ {ds : List PyData} {xs : List V} {i : Nat} {x : V}, DnL H ds xs → xs[i]? = some x → ∃ d, ds[i]? = some d ∧ Dn H d x
  | [], _, i, x, q, e => by rw [(show _ = [] from q)] at e; simp at e
  | d :: ds, _, 0, x, ⟨y, r, e, q, z⟩, h => by rw [e] at h; cases h; exact ⟨d, rfl, q⟩
  | d :: ds, _, i + 1, x, ⟨y, r, e, q, z⟩, h => by
    rw [e] at h
    obtain ⟨d', h1, h2⟩ := DnL.get (i := i) z (by simpa using h)
    exact ⟨d', by simpa using h1, h2⟩
theorem DnL.get' {H : Hp} : ∀ {ds : List PyData} {xs : List V} {i : Nat} {d : PyData}, DnL H ds xs → ds[i]? = some d → ∃ x, xs[i]? = some x ∧ Dn H d x
  | [], _, i, x, q, e => by simp at e
  | d :: ds, _, 0, x, ⟨y, r, e, q, z⟩, h => by cases h; exact ⟨y, by rw [e]; rfl, q⟩
  | d :: ds, _, i + 1, x, ⟨y, r, e, q, z⟩, h => by
    obtain ⟨d', h1, h2⟩ := DnL.get' (i := i) z (by simpa using h)
    exact ⟨d', by rw [e]; simpa using h1, h2⟩
theorem DnL.append {H : Hp} : ∀ {ds es : List PyData} {xs ys : List V}, DnL H ds xs → DnL H es ys → DnL H (ds ++ es) (xs ++ ys)
  | [], es, xs, ys, q, r => by rw [(show xs = [] from q)]; exact r
  | d :: ds, es, _, ys, ⟨x, t, e, q, z⟩, r => ⟨x, t ++ ys, by rw [e]; rfl, q, DnL.append z r⟩
mutual
theorem Dn.reads {X : Cx} {pins : List (Addr × Obj)} {σ : St} {H : Hp} {s : Shared} (I : Inv X pins σ H s) : ∀ (d : PyData) (v : V) (u : Value), Dn H d v → d.canLay0 = true → RelV v u → ∃ as, Reads s.heap u d as
  | .none, v, u, q, _, r => by cases (show v = .non from q); cases (show u = Value.none from r); exact ⟨_, .none⟩
  | .bool b, v, u, q, _, r => by cases (show v = .bl b from q); cases (show u = Value.bool b from r); exact ⟨_, .bool b⟩
  | .int i, v, u, q, _, r => by cases (show v = .int i from q); obtain ⟨t, rfl⟩ := (show ∃ t, u = Value.int i t from r); exact ⟨_, .int i t⟩
  | .str x, v, u, q, _, r => by cases (show v = .str x from q); obtain ⟨t, rfl⟩ := (show ∃ t, u = Value.str x t from r); exact ⟨_, .str x t⟩
  | .list ds, _, u, ⟨a, xs, rfl, q, z⟩, c, r => by
    cases (show u = Value.ref a from r)
    obtain ⟨_, its, n, rv, e⟩ := (show ObjOk X.prog X.w H s.heap a (.lst xs) from I.hok a _ q)
    obtain ⟨as, ra⟩ := DnL.reads I ds xs its z (by simpa [PyData.canLay0] using c) rv
    exact ⟨_, .list e rfl rfl (by simpa using ra)⟩
  | .tuple ds, _, u, ⟨a, xs, rfl, q, z⟩, c, r => by
    cases (show u = Value.ref a from r)
    obtain ⟨_, its, rv, o, e, hc, n, hd⟩ := (show ObjOk X.prog X.w H s.heap a (.tup xs) from I.hok a _ q)
    obtain ⟨as, ra⟩ := DnL.reads I ds xs its z (by simpa [PyData.canLay0] using c) rv
    exact ⟨_, .tuple e hc hd (by simpa using ra)⟩
  | .dict k, v, u, _, c, _ => by simp [PyData.canLay0] at c
theorem DnL.reads {X : Cx} {pins : List (Addr × Obj)} {σ : St} {H : Hp} {s : Shared} (I : Inv X pins σ H s) : ∀ (ds : List PyData) (xs : List V) (us : List Value), DnL H ds xs → PyData.canLayAll0 ds = true → Vals xs us → ∃ as, ReadsAll s.heap us ds as
  | [], xs, us, q, _, r => by
    cases (show xs = [] from q)
    cases r
    exact ⟨_, .nil⟩
  | d :: ds, _, us, ⟨x, t, rfl, q, z⟩, c, r => by
    cases r with
    | cons rx rt =>
      have c' : PyData.canLay0 d = true ∧ PyData.canLayAll0 ds = true := by simpa [PyData.canLayAll0] using c
      obtain ⟨a1, r1⟩ := Dn.reads I d x _ q c'.1 rx
      obtain ⟨a2, r2⟩ := DnL.reads I ds t _ z c'.2 rt
      exact ⟨_, .cons r1 r2⟩
end
/-- two values of the same data: not unequal -/
theorem op_ne_data {X : Cx} (hu : X.A.units + 64 < cLine) : OpR X (compareOp .NotEq) (fun x y H Q => ∃ d e : PyData, Dn H d x ∧ Dn H e y ∧ SeqAt.shaped d = true ∧ SeqAt.shaped e = true ∧ Q (.bl (!PyData.eqv d e)) H) := by
  intro pins s σ H x y v u Q I rx ry h
  obtain ⟨d, e, hd, he, sd, se, q⟩ := h
  obtain ⟨as, ra⟩ := Dn.reads I d x v hd (SeqAt.canLay_of_shaped sd) rx
  obtain ⟨bs, rb⟩ := Dn.reads I e y u he (SeqAt.canLay_of_shaped se) ry
  exact ne_dataH ra rb sd se hu ⟨.bl _, H, I, rfl, q⟩
mutual
theorem eqv_refl : ∀ d : PyData, d.canLay0 = true → PyData.eqv d d = true
  | .none, _ => by simp [PyData.eqv]
  | .bool _, _ => by simp [PyData.eqv]
  | .int _, _ => by simp [PyData.eqv]
  | .str _, _ => by simp [PyData.eqv]
  | .list ds, c => by simpa [PyData.eqv] using eqvAll_refl ds (by simpa [PyData.canLay0] using c)
  | .tuple ds, c => by simpa [PyData.eqv] using eqvAll_refl ds (by simpa [PyData.canLay0] using c)
  | .dict _, c => by simp [PyData.canLay0] at c
theorem eqvAll_refl : ∀ ds : List PyData, PyData.canLayAll0 ds = true → PyData.eqvAll ds ds = true
  | [], _ => by simp [PyData.eqvAll]
  | d :: ds, c => by
    have c' : PyData.canLay0 d = true ∧ PyData.canLayAll0 ds = true := by simpa [PyData.canLayAll0] using c
    simp [PyData.eqvAll, eqv_refl d c'.1, eqvAll_refl ds c'.2]
end
end L2

set_option maxRecDepth 100000
set_option maxHeartbeats 4000000
/-! ### F. Woods as data -/
namespace Wd
open PySem L2
def tyN : PyData → String
  | .none => "NoneType" | .bool _ => "bool" | .int _ => "int" | .str _ => "str" | .list _ => "list" | .tuple _ => "tuple" | .dict _ => "dict"
def isW : PyData → Bool
  | .int _ => true
  | _ => false
def isInt : PyData → Bool
  | .int _ => true
  | .bool _ => true
  | _ => false
def isBool : PyData → Bool
  | .bool _ => true
  | _ => false
theorem dn_ty {K : PySem.W.Frag} {H : Hp} : ∀ {d : PyData} {v : V}, Dn H d v → TyOf K H v (.type (tyN d))
  | .none, v, q => by cases (show v = .non from q); exact .non
  | .bool b, v, q => by cases (show v = .bl b from q); exact .bl b
  | .int i, v, q => by cases (show v = .int i from q); exact .int i
  | .str x, v, q => by cases (show v = .str x from q); exact .str x
  | .list ds, _, ⟨a, xs, rfl, q, _⟩ => .lst q
  | .tuple ds, _, ⟨a, xs, rfl, q, _⟩ => .tup q
  | .dict k, _, ⟨_, a, rfl, q⟩ => .dK q
theorem ty_int : ∀ d : PyData, kitTy (tyN d) "int" = some (isInt d)
  | .none => (by decide +kernel : kitTy "NoneType" "int" = some false)
  | .bool _ => (by decide +kernel : kitTy "bool" "int" = some true)
  | .int _ => (by decide +kernel : kitTy "int" "int" = some true)
  | .str _ => (by decide +kernel : kitTy "str" "int" = some false)
  | .list _ => (by decide +kernel : kitTy "list" "int" = some false)
  | .tuple _ => (by decide +kernel : kitTy "tuple" "int" = some false)
  | .dict _ => (by decide +kernel : kitTy "dict" "int" = some false)
theorem ty_bool : ∀ d : PyData, kitTy (tyN d) "bool" = some (isBool d)
  | .none => (by decide +kernel : kitTy "NoneType" "bool" = some false)
  | .bool _ => (by decide +kernel : kitTy "bool" "bool" = some true)
  | .int _ => (by decide +kernel : kitTy "int" "bool" = some false)
  | .str _ => (by decide +kernel : kitTy "str" "bool" = some false)
  | .list _ => (by decide +kernel : kitTy "list" "bool" = some false)
  | .tuple _ => (by decide +kernel : kitTy "tuple" "bool" = some false)
  | .dict _ => (by decide +kernel : kitTy "dict" "bool" = some false)
/-! the program's looks at data, as functions -/
def within (d : PyData) (lo hi : Int) : Bool := match d with
  | .int i => decide (lo ≤ i) && decide (i ≤ hi)
  | _ => false
def tupFull (d : PyData) : Bool := match d with
  | .tuple ds => decide (0 < ds.length)
  | _ => false
def rising (many : Int) : List PyData → Int → Bool
  | [], _ => true
  | .int i :: ds, last => decide (last + 1 ≤ i) && decide (i ≤ many - 1) && rising many ds i
  | _ :: _, _ => false
def risK (many : Int) : PyData → PyData → Bool
  | .int up, .tuple ks => rising many ks up
  | _, _ => false
def highK (h : PyData) : PyData → Bool
  | .tuple ks => within h 1 ks.length
  | _ => false
def lowH (l : PyData) : PyData → Bool
  | .int hi => within l 0 hi
  | _ => false
def isBough (many : Int) (d : PyData) : Bool := match d with
  | .tuple [u, l, h, k] => within u 0 (many - 1) && (tupFull k && (risK many u k && (highK h k && lowH l h)))
  | _ => false
def fstD : PyData → PyData
  | .tuple (x :: _) => x
  | _ => .none
def pairOk : PyData → Bool
  | .tuple [_, n] => isW n
  | _ => false
def arePairs (many : Int) (d : PyData) : Bool := match d with
  | .tuple ds => decide (0 < ds.length) && ds.all pairOk && rising many (ds.map fstD) (-1)
  | _ => false
def neI : PyData → PyData → Bool
  | .int i, .int j => !decide (i = j)
  | _, _ => false
def tieK (many : Int) (s : Str) (x y : PyData) : Bool := if s = ("most" : Str) then isW x && arePairs many y else if s = ("needs" : Str) ∨ s = ("bans" : Str) then within x 0 (many - 1) && (within y 0 (many - 1) && neI x y) else false
def tieD (many : Int) (x y : PyData) : PyData → Bool
  | .str s => tieK many s x y
  | _ => false
def isTie (many : Int) (d : PyData) : Bool := match d with
  | .tuple [k, x, y] => tieD many x y k
  | _ => false
def toI : PyData → Int
  | .int i => i
  | _ => 0
def kidsOf : PyData → List Int
  | .tuple [_, _, _, .tuple ks] => ks.map toI
  | _ => []
/-- the boughs are those of a wood -/
structure GoodB (many : Int) (bs : List PyData) : Prop where
  each : ∀ b ∈ bs, isBough many b = true
  kids : (bs.flatMap kidsOf).Perm ((List.range' 0 (many - 1).toNat).map fun i : Nat => (1 : Int) + i)
theorem same_new {H : Hp} {p : Addr} (h : H p = none) (o : HO) : Same H (upd H p o) := same_of fun b u q => by rw [upd_ne (ne_of_none q h)]; exact q
theorem small {n : Nat} (h : n ≤ 1000) : n ≤ sizeLine := Nat.le_of_lt (small1000 h)
theorem dn_int {H : Hp} {i : Int} {v : V} (h : Dn H (.int i) v) : v = .int i := h
theorem dn_tup {H : Hp} {ds : List PyData} {v : V} (h : Dn H (.tuple ds) v) : ∃ a xs, v = .ref a ∧ H a = some (.tup xs) ∧ DnL H ds xs := h
theorem isW_int {d : PyData} (h : isW d = true) : ∃ i, d = .int i := by
  cases d <;> first | exact ⟨_, rfl⟩ | cases h
theorem sqT {K : PySem.W.Frag} {H : Hp} {a : Addr} {xs : List V} (h : H a = some (.tup xs)) : SqT K H a xs := .inl (.inl h)
theorem at0 {x : V} {r : List V} : atI (x :: r) 0 = some x := atI_nat (j := 0) rfl
theorem at1 {x y : V} {r : List V} : atI (x :: y :: r) 1 = some y := atI_nat (j := 1) rfl
theorem at2 {x y z : V} {r : List V} : atI (x :: y :: z :: r) 2 = some z := atI_nat (j := 2) rfl
theorem at3 {x y z w : V} {r : List V} : atI (x :: y :: z :: w :: r) 3 = some w := atI_nat (j := 3) rfl
theorem within_int {d : PyData} {lo hi : Int} (h : within d lo hi = true) : ∃ i, d = .int i ∧ lo ≤ i ∧ i ≤ hi := by
  cases d with
  | int i =>
    have z : (decide (lo ≤ i) && decide (i ≤ hi)) = true := h
    simp only [Bool.and_eq_true, decide_eq_true_eq] at z
    exact ⟨i, rfl, z.1, z.2⟩
  | _ => cases h
theorem tupFull_tup {d : PyData} (h : tupFull d = true) : ∃ ds, d = .tuple ds ∧ 0 < ds.length := by
  cases d with
  | tuple ds => exact ⟨ds, rfl, of_decide_eq_true h⟩
  | _ => cases h
theorem dnl_ints {H : Hp} : ∀ {ns : List Int} {xs : List V}, DnL H (ns.map PyData.int) xs → xs = ns.map V.int
  | [], xs, h => h
  | n :: r, _, ⟨x, t, rfl, hx, ht⟩ => by rw [dnl_ints ht, dn_int hx]; rfl
theorem ints_dnl {H : Hp} : ∀ (ns : List Int), DnL H (ns.map PyData.int) (ns.map V.int)
  | [] => rfl
  | n :: r => ⟨_, _, rfl, rfl, ints_dnl r⟩
end Wd

set_option maxRecDepth 100000
set_option maxHeartbeats 4000000
namespace Ow
open PySem L2 Wd
-- woods
/-! ### the program's looks -/
def spWhole : Sp := fun vs H Q _ => ∃ (d : PyData) (v : V), vs = [v] ∧ Dn H d v ∧ Q (.bl (isW d)) H
-- woods2
-- woods3a
/-- a wood in the heap -/
structure WoodAt (H : Hp) (wd : Addr) (many : Int) (xs ys : List V) : Prop where
  ex : ∃ tb tc, H wd = some (.tup [.int many, .ref tb, .ref tc]) ∧ H tb = some (.tup xs) ∧ H tc = some (.tup ys)
def spMany : Sp := fun vs H Q _ => ∃ (wd : Addr) (many : Int) (xs ys : List V), vs = [.ref wd] ∧ WoodAt H wd many xs ys ∧ Q (.int ((xs.length : Int) + (ys.length : Int))) H
def spTieAt : Sp := fun vs H Q _ => ∃ (wd : Addr) (many : Int) (xs ys : List V) (t : Nat) (v : V), vs = [.ref wd, .int t] ∧ WoodAt H wd many xs ys ∧ (xs ++ ys)[t]? = some v ∧ Q v H
theorem flatMap_take {α β : Type} {f : α → List β} {ds : List α} {i : Nat} {d : α} (h : ds[i]? = some d) : (ds.take (i + 1)).flatMap f = (ds.take i).flatMap f ++ f d := by
  obtain ⟨hi, e⟩ := List.getElem?_eq_some_iff.mp h
  rw [List.take_succ_eq_append_getElem hi, List.flatMap_append, e]
  simp
-- woods3t
-- laws
/-! ### the statement's own helpers -/
/-- data of tuples, texts and ints alone, so deep at most -/
def flatD : Nat → PyData → Bool
  | _, .int _ => true
  | _, .str s => PyData.strOk s
  | n + 1, .tuple ds => decide (ds.length ≤ 1000) && ds.all (flatD n)
  | _, _ => false
/-! a tie made -/
theorem mod_near {many one x : Int} (h1 : 1 < many) (h9 : many ≤ 9) (o0 : 0 ≤ one) (o1 : one < many) (x0 : 0 ≤ x) (x1 : x < many - 1) : 0 ≤ (one + 1 + x) % many ∧ (one + 1 + x) % many < many ∧ one ≠ (one + 1 + x) % many := by
  have e : many = 2 ∨ many = 3 ∨ many = 4 ∨ many = 5 ∨ many = 6 ∨ many = 7 ∨ many = 8 ∨ many = 9 := by omega
  rcases e with rfl | rfl | rfl | rfl | rfl | rfl | rfl | rfl <;> omega
theorem strOk_most : PyData.strOk ("most" : Str) = true := by decide +kernel
theorem strOk_needs : PyData.strOk ("needs" : Str) = true := by decide +kernel
theorem strOk_bans : PyData.strOk ("bans" : Str) = true := by decide +kernel
theorem pow_le {m : Nat} (h : m ≤ 9) : 2 ^ m ≤ 512 := Nat.pow_le_pow_right (by decide) h
/-- the pairs of a most tie so far: options below i, rising -/
structure PairsTo (H : Hp) (i : Nat) (ps : List PyData) (xs : List V) : Prop where
  dn : DnL H ps xs
  ok : ps.all pairOk = true
  flat : ps.all (flatD 1) = true
  ris : rising (i : Int) (ps.map fstD) (-1) = true
  few : ps.length ≤ i
theorem rising_mono {m m' : Int} (h : m ≤ m') : ∀ {ks : List PyData} {u : Int}, rising m ks u = true → rising m' ks u = true
  | [], _, _ => rfl
  | .int i :: ks, u, z => by
    have z' : (decide (u + 1 ≤ i) && decide (i ≤ m - 1) && rising m ks i) = true := z
    show (decide (u + 1 ≤ i) && decide (i ≤ m' - 1) && rising m' ks i) = true
    simp only [Bool.and_eq_true, decide_eq_true_eq] at z' ⊢
    exact ⟨⟨z'.1.1, by omega⟩, rising_mono h z'.2⟩
  | .none :: _, _, z => by cases z
  | .bool _ :: _, _, z => by cases z
  | .str _ :: _, _, z => by cases z
  | .list _ :: _, _, z => by cases z
  | .tuple _ :: _, _, z => by cases z
  | .dict _ :: _, _, z => by cases z
theorem rising_snoc {m j : Int} (h : j < m) : ∀ {ks : List PyData} {u : Int}, rising j ks u = true → u < j → rising m (ks ++ [.int j]) u = true
  | [], u, _, hu => by
    show (decide (u + 1 ≤ j) && decide (j ≤ m - 1) && true) = true
    rw [decide_eq_true (by omega), decide_eq_true (by omega)]
    rfl
  | .int i :: ks, u, z, hu => by
    have z' : (decide (u + 1 ≤ i) && decide (i ≤ j - 1) && rising j ks i) = true := z
    show (decide (u + 1 ≤ i) && decide (i ≤ m - 1) && rising m (ks ++ [.int j]) i) = true
    simp only [Bool.and_eq_true, decide_eq_true_eq] at z' ⊢
    exact ⟨⟨z'.1.1, by omega⟩, rising_snoc h z'.2 (by omega)⟩
  | .none :: _, _, z, _ => by cases z
  | .bool _ :: _, _, z, _ => by cases z
  | .str _ :: _, _, z, _ => by cases z
  | .list _ :: _, _, z, _ => by cases z
  | .tuple _ :: _, _, z, _ => by cases z
  | .dict _ :: _, _, z, _ => by cases z
theorem DnL.keepT {H H' : Hp} {f : PyData → Bool} (k : ∀ d v, f d = true → Dn H d v → Dn H' d v) : ∀ (ds : List PyData) (xs : List V), ds.all f = true → DnL H ds xs → DnL H' ds xs
  | [], _, _, q => q
  | d :: ds, _, c, ⟨x, r, e, q, z⟩ => by
    rw [List.all_cons, Bool.and_eq_true] at c
    exact ⟨x, r, e, k d x c.1 q, DnL.keepT k ds r c.2 z⟩
theorem Dn.keepT {H H' : Hp} (h : ∀ b xs, H b = some (.tup xs) → H' b = some (.tup xs)) : ∀ (n : Nat) (d : PyData) (v : V), flatD n d = true → Dn H d v → Dn H' d v
  | _, .int _, _, _, q => q
  | _, .str _, _, _, q => q
  | n + 1, .tuple ds, _, c, ⟨p, xs, e, q, z⟩ => ⟨p, xs, e, h _ _ q, DnL.keepT (Dn.keepT h n) ds xs ((Bool.and_eq_true _ _).mp c).2 z⟩
  | 0, .tuple ds, _, c, _ => by cases c
  | 0, .none, _, c, _ => by cases c
  | n + 1, .none, _, c, _ => by cases c
  | 0, .bool _, _, c, _ => by cases c
  | n + 1, .bool _, _, c, _ => by cases c
  | 0, .list _, _, c, _ => by cases c
  | n + 1, .list _, _, c, _ => by cases c
  | 0, .dict _, _, c, _ => by cases c
  | n + 1, .dict _, _, c, _ => by cases c
-- boughs
/-! ### the boughs made -/
structure Grp where
  t : Addr
  up : Int
  l : Addr
  kids : List Int
/-- the groups stand at g; H0 is the heap at the entry -/
structure GAt (H0 H : Hp) (g : Addr) (gs : List Grp) : Prop where
  at_ : H g = some (.lst (gs.map fun x => V.ref x.t))
  new : H0 g = none
  tup : ∀ x ∈ gs, H x.t = some (.tup [.int x.up, .ref x.l])
  lst : ∀ x ∈ gs, H x.l = some (.lst (x.kids.map V.int)) ∧ H0 x.l = none ∧ g ≠ x.l
  nd : (gs.map (·.l)).Nodup
/-- what holds of the groups when the options below k are dealt out -/
structure GOk (k : Int) (gs : List Grp) : Prop where
  each : ∀ x ∈ gs, 0 ≤ x.up ∧ x.kids ≠ [] ∧ rising k (x.kids.map PyData.int) x.up = true
  perm : (gs.flatMap (·.kids)).Perm ((List.range' 0 (k - 1).toNat).map fun i : Nat => (1 : Int) + i)
theorem GOk.few {k : Int} {gs : List Grp} (G : GOk k gs) : gs.length ≤ (k - 1).toNat := by
  have e := G.perm.length_eq
  rw [List.length_map, List.length_range'] at e
  rw [← e]
  have go : ∀ l : List Grp, (∀ x ∈ l, x.kids ≠ []) → l.length ≤ (l.flatMap (·.kids)).length := by
    intro l
    induction l with
    | nil => intro _; exact Nat.le_refl _
    | cons x r ih =>
      intro h
      rw [List.flatMap_cons, List.length_append, List.length_cons]
      have h1 := List.length_pos_iff.mpr (h x List.mem_cons_self)
      have h2 := ih fun y hy => h y (List.mem_cons_of_mem _ hy)
      omega
  exact go gs fun x hx => (G.each x hx).2.1
theorem range_snoc (k : Nat) : ((List.range' 0 k).map fun i : Nat => (1 : Int) + i) ++ [((k : Int) + 1)] = (List.range' 0 (k + 1)).map fun i : Nat => (1 : Int) + i := by
  rw [List.range'_concat, List.map_append]
  simp
  omega
theorem GOk.new {k : Nat} {gs : List Grp} {t l : Addr} {u : Int} (G : GOk ((k : Int) + 1) gs) (u0 : 0 ≤ u) (u1 : u < (k : Int) + 1) : GOk ((k : Int) + 2) (gs ++ [⟨t, u, l, [(k : Int) + 1]⟩]) where
  each := fun x hx => by
    rcases List.mem_append.mp hx with z | z
    · obtain ⟨a, b, c⟩ := G.each x z
      exact ⟨a, b, rising_mono (by omega) c⟩
    · rw [List.mem_singleton.mp z]
      refine ⟨u0, by simp, ?_⟩
      show (decide (u + 1 ≤ (k : Int) + 1) && decide ((k : Int) + 1 ≤ (k : Int) + 2 - 1) && true) = true
      rw [decide_eq_true (by omega), decide_eq_true (by omega)]
      rfl
  perm := by
    rw [List.flatMap_append]
    have e : ((k : Int) + 2 - 1).toNat = k + 1 := by omega
    have e' : ((k : Int) + 1 - 1).toNat = k := by omega
    have p := G.perm
    rw [e'] at p
    rw [e, ← range_snoc]
    exact p.append (by simp)
theorem GOk.put {k : Nat} {pre post : List Grp} {x : Grp} (G : GOk ((k : Int) + 1) (pre ++ x :: post)) : GOk ((k : Int) + 2) (pre ++ ⟨x.t, x.up, x.l, x.kids ++ [(k : Int) + 1]⟩ :: post) where
  each := fun y hy => by
    have old : ∀ z ∈ pre ++ x :: post, 0 ≤ z.up ∧ z.kids ≠ [] ∧ rising ((k : Int) + 2) (z.kids.map PyData.int) z.up = true := fun z hz => by
      obtain ⟨a, b, c⟩ := G.each z hz
      exact ⟨a, b, rising_mono (by omega) c⟩
    rcases List.mem_append.mp hy with z | z
    · exact old y (List.mem_append_left _ z)
    · rcases List.mem_cons.mp z with z | z
      · subst z
        obtain ⟨a, b, c⟩ := G.each x (by simp)
        refine ⟨a, by simp, ?_⟩
        show rising ((k : Int) + 2) ((x.kids ++ [(k : Int) + 1]).map PyData.int) x.up = true
        rw [List.map_append]
        refine rising_snoc (by omega) c ?_
        cases hk : x.kids with
        | nil => exact absurd hk b
        | cons n r =>
          rw [hk] at c
          have c' : (decide (x.up + 1 ≤ n) && decide (n ≤ (k : Int) + 1 - 1) && rising ((k : Int) + 1) (r.map PyData.int) n) = true := c
          simp only [Bool.and_eq_true, decide_eq_true_eq] at c'
          omega
      · exact old y (by simp [z])
  perm := by
    have e : ((k : Int) + 2 - 1).toNat = k + 1 := by omega
    have e' : ((k : Int) + 1 - 1).toNat = k := by omega
    have p := G.perm
    rw [e'] at p
    rw [e, ← range_snoc]
    refine List.Perm.trans ?_ (p.append (List.Perm.refl [((k : Int) + 1)]))
    rw [List.flatMap_append, List.flatMap_append, List.flatMap_cons, List.flatMap_cons, List.append_assoc, List.append_assoc, List.append_assoc]
    exact (List.Perm.refl _).append ((List.Perm.refl _).append List.perm_append_comm)
theorem GAt.put {H0 H : Hp} {g : Addr} {pre post : List Grp} {x : Grp} {k : Int} (G : GAt H0 H g (pre ++ x :: post)) : GAt H0 (upd H x.l (.lst (x.kids.map V.int ++ [.int k]))) g (pre ++ ⟨x.t, x.up, x.l, x.kids ++ [k]⟩ :: post) := by
  have hx : x ∈ pre ++ x :: post := by simp
  obtain ⟨a, b, c⟩ := G.lst x hx
  have nd := G.nd
  rw [List.map_append, List.map_cons] at nd
  obtain ⟨_, n2, n3⟩ := List.nodup_append.mp nd
  have oth : ∀ y, y ∈ pre ∨ y ∈ post → y.l ≠ x.l := fun y hy e => by
    rcases hy with hy | hy
    · exact n3 y.l (List.mem_map.mpr ⟨y, hy, rfl⟩) x.l (by simp) e
    · exact (List.nodup_cons.mp n2).1 (by rw [← e]; exact List.mem_map.mpr ⟨y, hy, rfl⟩)
  have mem : ∀ y ∈ pre ++ (⟨x.t, x.up, x.l, x.kids ++ [k]⟩ : Grp) :: post, (y ∈ pre ∨ y ∈ post) ∨ y = ⟨x.t, x.up, x.l, x.kids ++ [k]⟩ := fun y hy => by
    rcases List.mem_append.mp hy with z | z
    · exact .inl (.inl z)
    · rcases List.mem_cons.mp z with z | z
      · exact .inr z
      · exact .inl (.inr z)
  have old : ∀ y, y ∈ pre ∨ y ∈ post → y ∈ pre ++ x :: post := fun y hy => by
    rcases hy with z | z <;> simp [z]
  refine ⟨?_, G.new, fun y hy => ?_, fun y hy => ?_, ?_⟩
  · rw [upd_ne c, G.at_, List.map_append, List.map_append, List.map_cons, List.map_cons]
  · rcases mem y hy with z | rfl
    · rw [upd_ne (ne_of (G.tup y (old y z)) a (by intro q; cases q))]
      exact G.tup y (old y z)
    · show upd H x.l _ x.t = _
      rw [upd_ne (ne_of (G.tup x hx) a (by intro q; cases q))]
      exact G.tup x hx
  · rcases mem y hy with z | rfl
    · obtain ⟨a', b', c'⟩ := G.lst y (old y z)
      refine ⟨?_, b', c'⟩
      rw [upd_ne (oth y z)]
      exact a'
    · refine ⟨?_, b, c⟩
      show upd H x.l _ x.l = _
      rw [upd_same, List.map_append]
      rfl
  · have e : (pre ++ (⟨x.t, x.up, x.l, x.kids ++ [k]⟩ : Grp) :: post).map (·.l) = (pre ++ x :: post).map (·.l) := by
      rw [List.map_append, List.map_append, List.map_cons, List.map_cons]
    rw [e]
    exact G.nd
theorem GAt.same {H0 H H' : Hp} {g : Addr} {gs : List Grp} (G : GAt H0 H g gs) (s : Same H H') : GAt H0 H' g gs :=
  ⟨s _ _ G.at_, G.new, fun x hx => s _ _ (G.tup x hx), fun x hx => ⟨s _ _ (G.lst x hx).1, (G.lst x hx).2⟩, G.nd⟩
/-- the bough of a group -/
def bghD (u lo hi : Int) (kids : List Int) : PyData := .tuple [.int u, .int lo, .int hi, .tuple (kids.map PyData.int)]
theorem bgh_ok {m u lo hi : Int} {kids : List Int} (u0 : 0 ≤ u) (ne : kids ≠ []) (r : rising m (kids.map PyData.int) u = true) (l0 : 0 ≤ lo) (l1 : lo ≤ hi) (h0 : 1 ≤ hi) (h1 : hi ≤ kids.length) : isBough m (bghD u lo hi kids) = true := by
  have u1 : u ≤ m - 1 := by
    cases hk : kids with
    | nil => exact absurd hk ne
    | cons n t =>
      rw [hk] at r
      have c' : (decide (u + 1 ≤ n) && decide (n ≤ m - 1) && rising m (t.map PyData.int) n) = true := r
      simp only [Bool.and_eq_true, decide_eq_true_eq] at c'
      omega
  show (within (.int u) 0 (m - 1) && (tupFull (.tuple (kids.map PyData.int)) && (rising m (kids.map PyData.int) u && (within (.int hi) 1 ((kids.map PyData.int).length : Nat) && within (.int lo) 0 hi)))) = true
  have e1 : within (.int u) 0 (m - 1) = true := by
    show (decide (0 ≤ u) && decide (u ≤ m - 1)) = true
    rw [decide_eq_true u0, decide_eq_true u1]
    rfl
  have e2 : tupFull (.tuple (kids.map PyData.int)) = true := by
    refine decide_eq_true ?_
    rw [List.length_map]
    exact List.length_pos_iff.mpr ne
  have e3 : within (.int hi) 1 ((kids.map PyData.int).length : Nat) = true := by
    show (decide (1 ≤ hi) && decide (hi ≤ ((kids.map PyData.int).length : Nat))) = true
    rw [List.length_map, decide_eq_true h0, decide_eq_true h1]
    rfl
  have e4 : within (.int lo) 0 hi = true := by
    show (decide (0 ≤ lo) && decide (lo ≤ hi)) = true
    rw [decide_eq_true l0, decide_eq_true l1]
    rfl
  rw [e1, e2, r, e3, e4]
  rfl
theorem flat_ints1 (kids : List Int) : (kids.map PyData.int).all (flatD 1) = true := by
  rw [List.all_eq_true]
  intro x hx
  obtain ⟨i, _, rfl⟩ := List.mem_map.mp hx
  rfl
theorem bgh_flat (u lo hi : Int) (kids : List Int) (h : kids.length ≤ 1000) : flatD 3 (bghD u lo hi kids) = true := by
  show (true && (true && (true && (true && ((decide ((kids.map PyData.int).length ≤ 1000) && (kids.map PyData.int).all (flatD 1)) && true))))) = true
  rw [flat_ints1, List.length_map, decide_eq_true h]
  rfl
theorem bgh_kids (u lo hi : Int) (kids : List Int) : kidsOf (bghD u lo hi kids) = kids := by
  show (kids.map PyData.int).map toI = kids
  rw [List.map_map]
  have : (toI ∘ PyData.int) = id := rfl
  rw [this, List.map_id]

end Ow

/-! ### Ties and sets: the mathematics -/
namespace Wd
inductive Tie where
  | bough (u : Nat) (lo hi : Int) (ks : List Nat)
  | needs (a b : Nat)
  | bans (a b : Nat)
  | most (top : Int) (ps : List (Nat × Int))
def cnt (ks : List Nat) (s : Nat) : Nat := (ks.filter fun k => s.testBit k).length
def sumP (ps : List (Nat × Int)) (f : Nat × Int → Bool) : Int := ((ps.filter f).map (·.2)).sum
def Tie.keep : Tie → Nat → Bool
  | .bough u lo hi ks, s => if s.testBit u = true then decide (lo ≤ (cnt ks s : Int)) && decide ((cnt ks s : Int) ≤ hi) else decide (cnt ks s = 0)
  | .needs a b, s => !s.testBit a || s.testBit b
  | .bans a b, s => !s.testBit a || !s.testBit b
  | .most top ps, s => decide (sumP ps (fun p => s.testBit p.1) ≤ top)
structure Tie.BoughOkW (m u : Nat) (lo hi : Int) (ks : List Nat) : Prop where
  um : u < m
  ks0 : ks ≠ []
  up : ∀ k ∈ ks, u < k ∧ k < m
  ris : ks.Pairwise (· < ·)
  few : ks.length ≤ m
  lo0 : 0 ≤ lo
  lohi : lo ≤ hi
structure Tie.BoughOk (m u : Nat) (lo hi : Int) (ks : List Nat) : Prop extends Tie.BoughOkW m u lo hi ks where
  hi1 : 1 ≤ hi
  hik : hi ≤ ks.length
theorem Tie.BoughOkW.nd {m u : Nat} {lo hi : Int} {ks : List Nat} (h : Tie.BoughOkW m u lo hi ks) : ks.Nodup := h.ris.imp fun a => Nat.ne_of_lt a
def Tie.Ok (m : Nat) : Tie → Prop
  | .bough u lo hi ks => Tie.BoughOkW m u lo hi ks
  | .needs a b => a < m ∧ b < m ∧ a ≠ b
  | .bans a b => a < m ∧ b < m ∧ a ≠ b
  | .most _ ps => ps ≠ [] ∧ (∀ p ∈ ps, p.1 < m) ∧ (ps.map (·.1)).Pairwise (· < ·) ∧ ps.length ≤ m
/-- a set lies in a stand -/
def InS (y n s : Nat) : Prop := (∀ k, y.testBit k = true → s.testBit k = true) ∧ ∀ k, n.testBit k = true → s.testBit k = false
def leastSum (ps : List (Nat × Int)) (y n : Nat) : Int := sumP ps fun p => y.testBit p.1 || (decide (p.2 < 0) && !n.testBit p.1)
def Tie.sb : Tie → Nat → Nat → Bool
  | .needs a b, y, n => y.testBit a && n.testBit b
  | .bans a b, y, n => y.testBit a && y.testBit b
  | .most top ps, y, n => decide (top < leastSum ps y n)
  | .bough u lo hi ks, y, n => !(!n.testBit u && (decide ((cnt ks y : Int) ≤ hi) && decide (lo ≤ (ks.length : Int) - cnt ks n))) && !(!y.testBit u && decide (cnt ks y = 0))
theorem keep_up {u : Nat} {lo hi : Int} {ks : List Nat} {s : Nat} (h : s.testBit u = true) : (Tie.bough u lo hi ks).keep s = (decide (lo ≤ (cnt ks s : Int)) && decide ((cnt ks s : Int) ≤ hi)) := by
  simp only [Tie.keep, h, if_true]
theorem keep_no {u : Nat} {lo hi : Int} {ks : List Nat} {s : Nat} (h : ¬ s.testBit u = true) : (Tie.bough u lo hi ks).keep s = decide (cnt ks s = 0) := by
  simp only [Tie.keep, if_neg h]
theorem sumP_cons (p : Nat × Int) (r : List (Nat × Int)) (f : Nat × Int → Bool) : sumP (p :: r) f = (if f p = true then p.2 else 0) + sumP r f := by
  unfold sumP
  by_cases h : f p = true
  · rw [List.filter_cons_of_pos h, if_pos h]; simp
  · rw [List.filter_cons_of_neg h, if_neg h]; simp
theorem sumP_le {f g : Nat × Int → Bool} : ∀ {ps : List (Nat × Int)}, (∀ p ∈ ps, (if f p = true then p.2 else 0) ≤ (if g p = true then p.2 else 0)) → sumP ps f ≤ sumP ps g
  | [], _ => Int.le_refl _
  | p :: r, h => by
    rw [sumP_cons, sumP_cons]
    have h1 := h p List.mem_cons_self
    have h2 := sumP_le (ps := r) fun q hq => h q (List.mem_cons_of_mem _ hq)
    omega
theorem sumP_eq {f g : Nat × Int → Bool} {ps : List (Nat × Int)} (h : ∀ p ∈ ps, f p = g p) : sumP ps f = sumP ps g := by
  unfold sumP
  rw [List.filter_congr h]
theorem cnt_cons (k : Nat) (r : List Nat) (s : Nat) : cnt (k :: r) s = (if s.testBit k = true then 1 else 0) + cnt r s := by
  unfold cnt
  by_cases h : s.testBit k = true
  · rw [List.filter_cons_of_pos (p := fun k => s.testBit k) h, if_pos h, List.length_cons]; omega
  · rw [List.filter_cons_of_neg (p := fun k => s.testBit k) h, if_neg h]; omega
theorem cnt_congr {ks : List Nat} {s t : Nat} (h : ∀ k ∈ ks, s.testBit k = t.testBit k) : cnt ks s = cnt ks t := by
  unfold cnt
  rw [List.filter_congr h]
theorem cnt_mono {s t : Nat} : ∀ {ks : List Nat}, (∀ k ∈ ks, s.testBit k = true → t.testBit k = true) → cnt ks s ≤ cnt ks t
  | [], _ => Nat.le_refl _
  | k :: r, h => by
    rw [cnt_cons, cnt_cons]
    have h2 := cnt_mono (ks := r) fun q hq => h q (List.mem_cons_of_mem _ hq)
    have h1 := h k List.mem_cons_self
    by_cases c : s.testBit k = true
    · rw [if_pos c, if_pos (h1 c)]; omega
    · rw [if_neg c]; omega
/-- those of yes and those of no are no more than all -/
theorem cnt_two {s n : Nat} : ∀ {ks : List Nat}, (∀ k ∈ ks, n.testBit k = true → s.testBit k = false) → cnt ks s + cnt ks n ≤ ks.length
  | [], _ => Nat.le_refl _
  | k :: r, h => by
    rw [cnt_cons, cnt_cons, List.length_cons]
    have h2 := cnt_two (ks := r) fun q hq => h q (List.mem_cons_of_mem _ hq)
    have h1 := h k List.mem_cons_self
    by_cases c : n.testBit k = true
    · rw [h1 c, if_pos c]; simp; omega
    · rw [if_neg c]; split <;> omega
/-- a set by a predicate -/
def maskL : List Nat → Nat
  | [] => 0
  | k :: r => maskL r ||| 2 ^ k
theorem maskL_bit (j : Nat) : ∀ l : List Nat, (maskL l).testBit j = decide (j ∈ l)
  | [] => by simp [maskL]
  | k :: r => by
    rw [maskL, Nat.testBit_or, maskL_bit j r, Nat.testBit_two_pow]
    by_cases h : k = j
    · subst h; simp
    · have h' : j ≠ k := fun z => h z.symm
      simp [h, h']
theorem nodup_fst {ps : List (Nat × Int)} (h : (ps.map (·.1)).Nodup) {p q : Nat × Int} (hp : p ∈ ps) (hq : q ∈ ps) (e : p.1 = q.1) : p = q := by
  induction ps with
  | nil => cases hp
  | cons x r ih =>
    rw [List.map_cons, List.nodup_cons] at h
    rcases List.mem_cons.mp hp with e1 | hp
    · rcases List.mem_cons.mp hq with e2 | hq
      · rw [e1, e2]
      · exact absurd (show x.1 ∈ r.map (·.1) from List.mem_map.mpr ⟨q, hq, by rw [← e1, e]⟩) h.1
    · rcases List.mem_cons.mp hq with e2 | hq
      · exact absurd (show x.1 ∈ r.map (·.1) from List.mem_map.mpr ⟨p, hp, by rw [← e2, e]⟩) h.1
      · exact ih h.2 hp hq
theorem keep_congr {m : Nat} {t : Tie} (ok : t.Ok m) {s s' : Nat} (h : ∀ k, k < m → s.testBit k = s'.testBit k) : t.keep s = t.keep s' := by
  cases t with
  | bough u lo hi ks =>
    have e : cnt ks s = cnt ks s' := cnt_congr fun k hk => h k (ok.up k hk).2
    simp only [Tie.keep]
    rw [e, h u ok.um]
  | needs a b => simp only [Tie.keep]; rw [h a ok.1, h b ok.2.1]
  | bans a b => simp only [Tie.keep]; rw [h a ok.1, h b ok.2.1]
  | most top ps =>
    simp only [Tie.keep]
    rw [sumP_eq fun p hp => h p.1 (ok.2.1 p hp)]
/-- y with some more options -/
theorem inS_more {y n : Nat} {l : List Nat} (d : ∀ k, y.testBit k = true → n.testBit k = false) (h : ∀ k ∈ l, n.testBit k = false) : InS y n (y ||| maskL l) := by
  refine ⟨fun k hk => ?_, fun k hk => ?_⟩
  · rw [Nat.testBit_or, hk, Bool.true_or]
  · rw [Nat.testBit_or, maskL_bit]
    have h1 : y.testBit k = false := by
      cases e : y.testBit k with
      | false => rfl
      | true => rw [d k e] at hk; cases hk
    have h2 : ¬ k ∈ l := fun z => by rw [h k z] at hk; cases hk
    rw [h1, decide_eq_false h2]; rfl
theorem bit_more (y : Nat) (l : List Nat) (k : Nat) : (y ||| maskL l).testBit k = (y.testBit k || decide (k ∈ l)) := by
  rw [Nat.testBit_or, maskL_bit]
theorem cnt_add {y : Nat} : ∀ {ks : List Nat}, ks.Nodup → ∀ c : Nat, cnt ks y ≤ c → ∀ n : Nat, (∀ k, y.testBit k = true → n.testBit k = false) → c + cnt ks n ≤ ks.length →
    ∃ l : List Nat, (∀ k ∈ l, k ∈ ks ∧ n.testBit k = false) ∧ cnt ks (y ||| maskL l) = c
  | [], _, c, h1, n, _, h2 => ⟨[], (fun _ z => nomatch z), by simp [cnt] at h2 ⊢; omega⟩
  | k :: r, nd, c, h1, n, d, h2 => by
    obtain ⟨nk, nr⟩ := List.nodup_cons.mp nd
    rw [cnt_cons] at h1 h2
    rw [List.length_cons] at h2
    by_cases hy : y.testBit k = true
    · rw [if_pos hy] at h1
      have hn := d k hy
      rw [hn] at h2
      obtain ⟨l, hl, e⟩ := cnt_add nr (c - 1) (by omega) n d (by simp at h2; omega)
      refine ⟨l, fun j hj => ⟨List.mem_cons_of_mem _ (hl j hj).1, (hl j hj).2⟩, ?_⟩
      rw [cnt_cons, e, bit_more, hy, Bool.true_or, if_pos rfl]
      omega
    · rw [if_neg hy] at h1
      by_cases hn : n.testBit k = true
      · rw [if_pos hn] at h2
        obtain ⟨l, hl, e⟩ := cnt_add nr c (by omega) n d (by omega)
        refine ⟨l, fun j hj => ⟨List.mem_cons_of_mem _ (hl j hj).1, (hl j hj).2⟩, ?_⟩
        have : ¬ k ∈ l := fun z => nk (hl k z).1
        rw [cnt_cons, e, bit_more, Bool.eq_false_iff.mpr hy, decide_eq_false this]
        simp
      · rw [if_neg hn] at h2
        by_cases full : c + cnt r n ≤ r.length
        · obtain ⟨l, hl, e⟩ := cnt_add nr c (by omega) n d full
          refine ⟨l, fun j hj => ⟨List.mem_cons_of_mem _ (hl j hj).1, (hl j hj).2⟩, ?_⟩
          have : ¬ k ∈ l := fun z => nk (hl k z).1
          rw [cnt_cons, e, bit_more, Bool.eq_false_iff.mpr hy, decide_eq_false this]
          simp
        · have hc : cnt r y + cnt r n ≤ r.length := cnt_two fun j _ hj => by
            cases e : y.testBit j with
            | false => rfl
            | true => rw [d j e] at hj; cases hj
          obtain ⟨l, hl, e⟩ := cnt_add nr (c - 1) (by omega) n d (by omega)
          refine ⟨k :: l, fun j hj => ?_, ?_⟩
          · rcases List.mem_cons.mp hj with rfl | z
            · exact ⟨List.mem_cons_self, Bool.eq_false_iff.mpr hn⟩
            · exact ⟨List.mem_cons_of_mem _ (hl j z).1, (hl j z).2⟩
          · have e2 : cnt r (y ||| maskL (k :: l)) = cnt r (y ||| maskL l) := cnt_congr fun j hj => by
              have : j ≠ k := fun z => nk (z ▸ hj)
              rw [bit_more, bit_more]
              simp [this]
            rw [cnt_cons, e2, e, bit_more, decide_eq_true List.mem_cons_self, Bool.or_true, if_pos rfl]
            omega
/-- for sure broken, told by all sets in the stand -/
theorem sb_iff {m : Nat} {t : Tie} (ok : t.Ok m) {y n : Nat} (d : ∀ k, y.testBit k = true → n.testBit k = false) : t.sb y n = true ↔ ∀ s, InS y n s → t.keep s = false := by
  have dn : ∀ k, n.testBit k = true → y.testBit k = false := fun k hk => by
    cases e : y.testBit k with
    | false => rfl
    | true => rw [d k e] at hk; cases hk
  cases t with
  | needs a b =>
    constructor
    · intro h s hs
      have h' : (y.testBit a && n.testBit b) = true := h
      rw [Bool.and_eq_true] at h'
      show (!s.testBit a || s.testBit b) = false
      rw [hs.1 a h'.1, hs.2 b h'.2]; rfl
    · intro h
      show (y.testBit a && n.testBit b) = true
      cases e1 : y.testBit a with
      | false =>
        have hh := h y ⟨fun _ z => z, dn⟩
        have h2 : (!y.testBit a || y.testBit b) = false := hh
        rw [e1] at h2; cases h2
      | true =>
        cases e2 : n.testBit b with
        | true => rfl
        | false =>
          have h2 : (!(y ||| maskL [b]).testBit a || (y ||| maskL [b]).testBit b) = false := h _ (inS_more d fun k hk => by rw [List.mem_singleton.mp hk]; exact e2)
          rw [bit_more y [b] b, decide_eq_true (List.mem_singleton.mpr rfl), Bool.or_true, Bool.or_true] at h2
          cases h2
  | bans a b =>
    constructor
    · intro h s hs
      have h' : (y.testBit a && y.testBit b) = true := h
      rw [Bool.and_eq_true] at h'
      show (!s.testBit a || !s.testBit b) = false
      rw [hs.1 a h'.1, hs.1 b h'.2]; rfl
    · intro h
      have h2 : (!y.testBit a || !y.testBit b) = false := h y ⟨fun _ z => z, dn⟩
      show (y.testBit a && y.testBit b) = true
      cases e1 : y.testBit a <;> cases e2 : y.testBit b <;> rw [e1, e2] at h2 <;> simp_all
  | most top ps =>
    constructor
    · intro h s hs
      have h' : top < leastSum ps y n := of_decide_eq_true h
      refine decide_eq_false fun z => ?_
      have le : leastSum ps y n ≤ sumP ps (fun p => s.testBit p.1) := sumP_le fun p _ => by
        cases e1 : y.testBit p.1 with
        | true => rw [hs.1 _ e1]; simp
        | false =>
          cases e2 : n.testBit p.1 with
          | true => rw [hs.2 _ e2]; simp
          | false =>
            by_cases c : p.2 < 0
            · simp [c]; split <;> omega
            · simp [c]; split <;> omega
      omega
    · intro h
      refine decide_eq_true ?_
      let l := (ps.filter fun p => decide (p.2 < 0) && !n.testBit p.1).map (·.1)
      have hl : ∀ k ∈ l, n.testBit k = false := fun k hk => by
        obtain ⟨p, hp, rfl⟩ := List.mem_map.mp hk
        have := (List.mem_filter.mp hp).2
        simp at this
        exact this.2
      have h2 : decide (sumP ps (fun p => (y ||| maskL l).testBit p.1) ≤ top) = false := h _ (inS_more d hl)
      have e : sumP ps (fun p => (y ||| maskL l).testBit p.1) = leastSum ps y n := sumP_eq fun p hp => by
        show (y ||| maskL l).testBit p.1 = (y.testBit p.1 || (decide (p.2 < 0) && !n.testBit p.1))
        rw [bit_more]
        congr 1
        by_cases c : (decide (p.2 < 0) && !n.testBit p.1) = true
        · rw [c]
          exact decide_eq_true (List.mem_map.mpr ⟨p, List.mem_filter.mpr ⟨hp, c⟩, rfl⟩)
        · rw [Bool.eq_false_iff.mpr c]
          refine decide_eq_false fun z => ?_
          obtain ⟨q, hq, e⟩ := List.mem_map.mp z
          have hq' := List.mem_filter.mp hq
          -- the options of the pairs are unlike
          have : q = p := nodup_fst (ok.2.2.1.imp fun a => Nat.ne_of_lt a) hq'.1 hp e
          rw [this] at hq'
          exact c hq'.2
      rw [e] at h2
      have := of_decide_eq_false h2
      omega
  | bough u lo hi ks =>
    have c2 : cnt ks y + cnt ks n ≤ ks.length := cnt_two fun j _ hj => dn j hj
    have uk : ¬ u ∈ ks := fun z => Nat.lt_irrefl _ (ok.up u z).1
    constructor
    · intro h s hs
      have h' : (!(!n.testBit u && (decide ((cnt ks y : Int) ≤ hi) && decide (lo ≤ (ks.length : Int) - cnt ks n))) && !(!y.testBit u && decide (cnt ks y = 0))) = true := h
      have g1 : cnt ks y ≤ cnt ks s := cnt_mono fun k _ hk => hs.1 k hk
      have g2 : cnt ks s + cnt ks n ≤ ks.length := cnt_two fun k _ hk => hs.2 k hk
      show (if s.testBit u = true then decide (lo ≤ (cnt ks s : Int)) && decide ((cnt ks s : Int) ≤ hi) else decide (cnt ks s = 0)) = false
      rw [Bool.and_eq_true] at h'
      by_cases su : s.testBit u = true
      · rw [if_pos su]
        have nu : n.testBit u = false := by
          cases e : n.testBit u with
          | false => rfl
          | true => rw [hs.2 u e] at su; cases su
        have h1 := h'.1
        rw [nu] at h1
        simp at h1
        by_cases z : (cnt ks y : Int) ≤ hi
        · rw [decide_eq_false (show ¬ lo ≤ (cnt ks s : Int) by omega), Bool.false_and]
        · rw [decide_eq_false (show ¬ (cnt ks s : Int) ≤ hi by omega), Bool.and_false]
      · rw [if_neg su]
        have yu : y.testBit u = false := by
          cases e : y.testBit u with
          | false => rfl
          | true => exact absurd (hs.1 u e) su
        have h2 := h'.2
        rw [yu] at h2
        simp at h2
        exact decide_eq_false (by omega)
    · intro h
      show (!(!n.testBit u && (decide ((cnt ks y : Int) ≤ hi) && decide (lo ≤ (ks.length : Int) - cnt ks n))) && !(!y.testBit u && decide (cnt ks y = 0))) = true
      rw [Bool.and_eq_true]
      constructor
      · cases e : (!n.testBit u && (decide ((cnt ks y : Int) ≤ hi) && decide (lo ≤ (ks.length : Int) - cnt ks n))) with
        | false => rfl
        | true =>
          exfalso
          simp only [Bool.and_eq_true, decide_eq_true_eq, Bool.not_eq_true'] at e
          obtain ⟨nu, e1, e2⟩ := e
          have hl0 := ok.lo0
          have hlh := ok.lohi
          obtain ⟨l, hl, ec⟩ := cnt_add (Tie.BoughOkW.nd ok) (max (cnt ks y) lo.toNat) (Nat.le_max_left _ _) n d (by omega)
          have hk := h (y ||| maskL (u :: l)) (inS_more d fun k hk => by
            rcases List.mem_cons.mp hk with rfl | z
            · exact nu
            · exact (hl k z).2)
          have hb : (y ||| maskL (u :: l)).testBit u = true := by rw [bit_more, decide_eq_true List.mem_cons_self, Bool.or_true]
          have ec2 : cnt ks (y ||| maskL (u :: l)) = max (cnt ks y) lo.toNat := by
            rw [← ec]
            refine cnt_congr fun j hj => ?_
            have : j ≠ u := fun z => uk (z ▸ hj)
            rw [bit_more, bit_more]
            simp [this]
          simp only [Tie.keep, hb, if_true, ec2] at hk
          rw [decide_eq_true (by omega), decide_eq_true (by omega)] at hk
          cases hk
      · cases e : (!y.testBit u && decide (cnt ks y = 0)) with
        | false => rfl
        | true =>
          exfalso
          simp only [Bool.and_eq_true, decide_eq_true_eq, Bool.not_eq_true'] at e
          have hk := h y ⟨fun _ z => z, dn⟩
          simp [Tie.keep, e.1, e.2] at hk
end Wd

set_option maxRecDepth 100000
set_option maxHeartbeats 4000000
/-! ### H. Ties as data -/
namespace Wd
open PySem L2
def pairD (p : Nat × Int) : PyData := .tuple [.int (p.1 : Int), .int p.2]
def Tie.toD : Tie → PyData
  | .bough u lo hi ks => .tuple [.int (u : Int), .int lo, .int hi, .tuple (ks.map fun k : Nat => PyData.int (k : Int))]
  | .needs a b => .tuple [.str ("needs" : Str), .int (a : Int), .int (b : Int)]
  | .bans a b => .tuple [.str ("bans" : Str), .int (a : Int), .int (b : Int)]
  | .most top ps => .tuple [.str ("most" : Str), .int top, .tuple (ps.map pairD)]
theorem rising_nats {m : Nat} : ∀ {ks : List PyData} {last : Int}, -1 ≤ last → last < m → rising m ks last = true →
    ∃ ns : List Nat, ks = ns.map (fun k : Nat => PyData.int (k : Int)) ∧ ns.Pairwise (· < ·) ∧ (∀ k ∈ ns, last < (k : Int) ∧ k < m) ∧ (ns.length : Int) + last + 1 ≤ m
  | [], last, h0, h1, _ => ⟨[], rfl, List.Pairwise.nil, (fun _ z => nomatch z), by simp; omega⟩
  | .int i :: ks, last, h0, h1, h => by
    have z : (decide (last + 1 ≤ i) && decide (i ≤ (m : Int) - 1) && rising m ks i) = true := h
    simp only [Bool.and_eq_true, decide_eq_true_eq] at z
    obtain ⟨ns, e, pw, ab, ln⟩ := rising_nats (by omega) (by omega) z.2
    obtain ⟨j, rfl⟩ : ∃ j : Nat, i = (j : Int) := ⟨i.toNat, by omega⟩
    refine ⟨j :: ns, by rw [e]; rfl, List.Pairwise.cons (fun k hk => ?_) pw, fun k hk => ?_, ?_⟩
    · have := (ab k hk).1; omega
    · rcases List.mem_cons.mp hk with rfl | hk
      · omega
      · have := ab k hk; omega
    · rw [List.length_cons]; omega
  | .none :: _, _, _, _, h => by cases h
  | .bool _ :: _, _, _, _, h => by cases h
  | .str _ :: _, _, _, _, h => by cases h
  | .list _ :: _, _, _, _, h => by cases h
  | .tuple _ :: _, _, _, _, h => by cases h
  | .dict _ :: _, _, _, _, h => by cases h
theorem tie_of_bough {m : Nat} {d : PyData} (h : isBough m d = true) : ∃ u lo hi ks, d = (Tie.bough u lo hi ks).toD ∧ Tie.BoughOk m u lo hi ks := by
  unfold isBough at h
  split at h
  next u l hd k =>
    simp only [Bool.and_eq_true] at h
    obtain ⟨hu, hk, hr, hh, hl⟩ := h
    obtain ⟨ui, rfl, u0, u1⟩ := within_int hu
    obtain ⟨kd, rfl, k0⟩ := tupFull_tup hk
    obtain ⟨hi, rfl, h0, h1⟩ := within_int (show within hd 1 kd.length = true from hh)
    obtain ⟨lo, rfl, l0, l1⟩ := within_int (show within l 0 hi = true from hl)
    obtain ⟨un, rfl⟩ : ∃ j : Nat, ui = (j : Int) := ⟨ui.toNat, by omega⟩
    obtain ⟨ns, rfl, pw, ab, ln⟩ := rising_nats (by omega) (by omega) (show rising m kd un = true from hr)
    rw [List.length_map] at k0 h1
    exact ⟨un, lo, hi, ns, rfl, ⟨⟨by omega, fun z => by rw [z] at k0; simp at k0, fun k hk => by have := ab k hk; omega, pw, by omega, l0, l1⟩, h0, h1⟩⟩
  next => cases h
theorem pairs_nats {m : Nat} : ∀ {ds : List PyData} {ns : List Nat}, ds.all pairOk = true → ds.map fstD = ns.map (fun k : Nat => PyData.int (k : Int)) → ∃ ps : List (Nat × Int), ds = ps.map pairD ∧ ps.map (·.1) = ns
  | [], [], _, _ => ⟨[], rfl, rfl⟩
  | [], _ :: _, _, e => by cases e
  | _ :: _, [], _, e => by cases e
  | d :: ds, n :: ns, h, e => by
    rw [List.all_cons, Bool.and_eq_true] at h
    rw [List.map_cons, List.map_cons] at e
    injection e with e1 e2
    obtain ⟨ps, rfl, rfl⟩ := pairs_nats (m := m) h.2 e2
    have h1 := h.1
    unfold pairOk at h1
    split at h1
    next x y =>
      obtain ⟨i, rfl⟩ := isW_int h1
      refine ⟨(n, i) :: ps, ?_, rfl⟩
      have e3 : x = PyData.int (n : Int) := e1
      rw [e3]
      rfl
    next => cases h1
theorem tie_of_cross {m : Nat} {d : PyData} (h : isTie m d = true) : ∃ t : Tie, d = t.toD ∧ t.Ok m ∧ ∀ u lo hi ks, t ≠ .bough u lo hi ks := by
  unfold isTie at h
  split at h
  next k x y =>
    unfold tieD at h
    split at h
    next s =>
      unfold tieK at h
      split at h
      next hs =>
        rw [Bool.and_eq_true] at h
        obtain ⟨top, rfl⟩ := isW_int h.1
        have h2 := h.2
        unfold arePairs at h2
        split at h2
        next ds =>
          simp only [Bool.and_eq_true, decide_eq_true_eq] at h2
          obtain ⟨⟨d0, dp⟩, dr⟩ := h2
          obtain ⟨ns, e, pw, ab, ln⟩ := rising_nats (by omega) (by omega) dr
          obtain ⟨ps, rfl, rfl⟩ := pairs_nats (m := m) dp e
          rw [List.length_map] at d0 ln
          refine ⟨.most top ps, by rw [hs]; rfl, ⟨fun z => by rw [z] at d0; simp at d0, fun p hp => (ab p.1 (List.mem_map.mpr ⟨p, hp, rfl⟩)).2, pw, by omega⟩, by intro _ _ _ _ z; cases z⟩
        next => cases h2
      next hs =>
        split at h
        next hn =>
          simp only [Bool.and_eq_true] at h
          obtain ⟨ha, hb, hne⟩ := h
          obtain ⟨a, rfl, a0, a1⟩ := within_int ha
          obtain ⟨b, rfl, b0, b1⟩ := within_int hb
          have ne : ¬ a = b := by
            have z : (!decide (a = b)) = true := hne
            simpa using z
          obtain ⟨an, rfl⟩ : ∃ j : Nat, a = (j : Int) := ⟨a.toNat, by omega⟩
          obtain ⟨bn, rfl⟩ : ∃ j : Nat, b = (j : Int) := ⟨b.toNat, by omega⟩
          rcases hn with rfl | rfl
          · exact ⟨.needs an bn, rfl, ⟨by omega, by omega, by omega⟩, by intro _ _ _ _ z; cases z⟩
          · exact ⟨.bans an bn, rfl, ⟨by omega, by omega, by omega⟩, by intro _ _ _ _ z; cases z⟩
        next => cases h
    next => cases h
  next => cases h
/-! what stands in the heap for a tie -/
theorem natsD (ks : List Nat) : (ks.map fun k : Nat => PyData.int (k : Int)) = (ks.map fun k : Nat => (k : Int)).map PyData.int := by rw [List.map_map]; rfl
theorem natsV (ks : List Nat) : (ks.map fun k : Nat => (k : Int)).map V.int = ks.map fun k : Nat => V.int (k : Int) := by rw [List.map_map]; rfl
theorem at_bough {H : Hp} {u : Nat} {lo hi : Int} {ks : List Nat} {v : V} (h : Dn H (Tie.bough u lo hi ks).toD v) : ∃ p pk, v = .ref p ∧ H p = some (.tup [.int (u : Int), .int lo, .int hi, .ref pk]) ∧ H pk = some (.tup (ks.map fun k : Nat => V.int (k : Int))) := by
  obtain ⟨p, xs, rfl, hp, xu, r1, rfl, hu, xl, r2, rfl, hlo, xh, r3, rfl, hh, xk, r4, rfl, hk, hnil⟩ := dn_tup h
  cases (show r4 = [] from hnil)
  cases dn_int hu
  cases dn_int hlo
  cases dn_int hh
  obtain ⟨pk, ys, rfl, hpk, hks⟩ := dn_tup hk
  rw [natsD] at hks
  rw [dnl_ints hks, natsV] at hpk
  exact ⟨p, pk, rfl, hp, hpk⟩
theorem at_word {H : Hp} {w : Str} {a b : Int} {v : V} (h : Dn H (.tuple [.str w, .int a, .int b]) v) : ∃ p, v = .ref p ∧ H p = some (.tup [.str w, .int a, .int b]) := by
  obtain ⟨p, xs, rfl, hp, xu, r1, rfl, hu, xl, r2, rfl, hlo, xh, r3, rfl, hh, hnil⟩ := dn_tup h
  cases (show r3 = [] from hnil)
  cases (show xu = .str w from hu)
  cases dn_int hlo
  cases dn_int hh
  exact ⟨p, rfl, hp⟩
theorem at_most {H : Hp} {top : Int} {ps : List (Nat × Int)} {v : V} (h : Dn H (Tie.most top ps).toD v) : ∃ p q xs, v = .ref p ∧ H p = some (.tup [.str ("most" : Str), .int top, .ref q]) ∧ H q = some (.tup xs) ∧ DnL H (ps.map pairD) xs := by
  obtain ⟨p, xs, rfl, hp, xu, r1, rfl, hu, xl, r2, rfl, hlo, xh, r3, rfl, hh, hnil⟩ := dn_tup h
  cases (show r3 = [] from hnil)
  cases (show xu = .str ("most" : Str) from hu)
  cases dn_int hlo
  obtain ⟨q, ys, rfl, hq, hks⟩ := dn_tup hh
  exact ⟨p, q, ys, rfl, hp, hq, hks⟩
theorem at_pair {H : Hp} {ps : List (Nat × Int)} {xs : List V} (h : DnL H (ps.map pairD) xs) {i : Nat} {x : V} (hx : xs[i]? = some x) : ∃ p r, ps[i]? = some p ∧ x = .ref r ∧ H r = some (.tup [.int (p.1 : Int), .int p.2]) := by
  obtain ⟨d, hd, hx'⟩ := h.get hx
  rw [List.getElem?_map] at hd
  obtain ⟨p, hp, rfl⟩ := Option.map_eq_some_iff.mp hd
  obtain ⟨r, ys, rfl, hr, xa, r1, rfl, ha, xb, r2, rfl, hb, hnil⟩ := dn_tup (show Dn H (.tuple [.int (p.1 : Int), .int p.2]) x from hx')
  cases (show r2 = [] from hnil)
  cases dn_int ha
  cases dn_int hb
  exact ⟨p, r, hp, rfl, hr⟩
/-! sets as ints -/
def hasV (n k : Int) : Bool := decide (0 ≤ k) && decide (n / 2 ^ k.toNat % 2 = 1)
theorem hasV_nat (s u : Nat) : hasV (s : Int) (u : Int) = s.testBit u := by
  unfold hasV
  rw [decide_eq_true (by omega), Bool.true_and, Nat.testBit_eq_decide_div_mod_eq, Int.toNat_natCast]
  have e : ((s : Int) / 2 ^ u % 2 = 1) ↔ (s / 2 ^ u % 2 = 1) := by
    have e3 : (2 : Int) ^ u = ((2 ^ u : Nat) : Int) := by rw [Int.natCast_pow]; rfl
    rw [e3]
    omega
  by_cases z : s / 2 ^ u % 2 = 1
  · rw [decide_eq_true z, decide_eq_true (e.mpr z)]
  · rw [decide_eq_false z, decide_eq_false (fun y => z (e.mp y))]
theorem bitI (n : Int) (k : Nat) : Builtin.bitAnd (n / 2 ^ k) 1 = n / 2 ^ k % 2 := PySem.W.kbt_mask (n / 2 ^ k) 1
end Wd

set_option maxRecDepth 100000
set_option maxHeartbeats 4000000
namespace L2
open PySem PySem.Spec PyProof.Rows
/-- the rest of a body, by a name -/
theorem cutS {X : Cx} {st : List Stmt} {t : TS} (h : PSs X st t) : ∃ t', PSs X st t' ∧ ∀ D σ H, t D σ H → t' D σ H := ⟨t, h, fun _ _ _ x => x⟩
section
variable {X : Cx} {o e : Expr} {es : List Expr} {to : TE} {t : TA} {name : Str} {apos cpos : Pos} {T id : String} {r : V → List V → Hp → VK → Prop}
/-- methods, with the fragment by its own name -/
theorem pe_bmK {K : PySem.W.Frag} (pa : PlainAttrs T) (slot : Slot T name id) (hty : typeOf (.builtin id) = pure (.type "method_descriptor")) (hm : MtR X id r) (ho : PE X o to) (ha : PA X (e :: es) t) (hK : X.K = K := by rfl)
    (hbase : attributeBase o name X.env (eval o X.env) = eval o X.env := by rfl)
    (hfew : ((backTo cpos (starEach (e :: es) X.env)).all (fun x => !x.1) && (backToKw cpos (keywordEach [] X.env)).all (fun x => x.1.isSome) && decide ((e :: es).length + ([] : List Keyword).length + (if ([] : List Keyword).isEmpty then 0 else 1) < 30)) = true := by rfl)
    (hline : (apos.endLine == cpos.line) = true := by rfl) (hs : starEach (e :: es) X.env = (false, eval e X.env) :: starEach es X.env := by rfl) (hplain : (backTo cpos (starEach es X.env)).any (·.1) = false := by rfl) :
    PE X (.Call (.Attribute o name apos) (e :: es) [] cpos) (tBM K T r to t) := hK ▸ pe_bm pa slot hty hm ho ha hbase hfew hline hs hplain
theorem pe_bm0K {K : PySem.W.Frag} (pa : PlainAttrs T) (slot : Slot T name id) (hty : typeOf (.builtin id) = pure (.type "method_descriptor")) (hm : MtR X id r) (ho : PE X o to) (hK : X.K = K := by rfl)
    (hbase : attributeBase o name X.env (eval o X.env) = eval o X.env := by rfl) (hline : (apos.endLine == cpos.line) = true := by rfl) : PE X (.Call (.Attribute o name apos) [] [] cpos) (tBM0 K T r to) := hK ▸ pe_bm0 pa slot hty hm ho hbase hline
end
end L2

set_option maxRecDepth 100000
set_option maxHeartbeats 4000000
namespace L2
open PySem PySem.Spec PyProof.Rows
theorem Room.lv {A : Around} {j k : Nat} (hr : Room k A) (h : j ≤ k := by first | decide | omega) : Room j A := hr.mono h
/-- a def of the text: what stands at its name, and how its parameters bind -/
structure Df (K : PySem.W.Frag) (mg : Str → Option Value) (x : Str) (st : Stmt) (f : Addr) (fd : FuncData) (ps : List Str) : Prop extends Fun K x x st f fd where
  g : mg x = some (.ref f)
  B : Binds K fd ps []
theorem pe_callD {X : Cx} {k : Nat} {f : Addr} {fd : FuncData} {ps : List Str} {sp : Sp} {x : Str} {p pos : Pos} {e : Expr} {es : List Expr} {t : TA} {st : Stmt} (F : FnOk X.prog X.w X.K X.mg X.base CX0 k f fd ps sp) (hr : Room k X.A) (hg : Gl X x) (D : Df X.K X.mg x st f fd ps)
    (ha : PA X (e :: es) t) (hdb : (x == ("__debug__" : Str)) = false := by decide) (he : starEach (e :: es) X.env = (false, eval e X.env) :: starEach es X.env := by rfl) (hpl : (backTo pos (starEach es X.env)).any (·.1) = false := by rfl) :
    PE X (.Call (.Name x p) (e :: es) [] pos) (tCall sp [] E0 t) := pe_call F hr hg D.g D.kp D.B .nil pass0 ha hdb he hpl
theorem scm {N P : List Str} {sc : Scope} (a : sc.kind = .function) (b : sc.isCoroutine = false) (c : sc.isGenerator = false) (e : N.take P.length = P) (h : (decide N.Nodup && (decide (∀ x ∈ P, sc.names.lookup x = some .local ∨ sc.names.lookup x = some .cell) && decide (∀ y ∈ sc.names, y.2 ≠ .free))) = true) : FnScope N P sc := by
  rw [Bool.and_eq_true, Bool.and_eq_true] at h
  exact ⟨a, b, c, of_decide_eq_true h.1, e, of_decide_eq_true h.2.1, of_decide_eq_true h.2.2⟩
/-- as it stands in the fragment -/
def Dk (K : PySem.W.Frag) (x : Str) (st : Stmt) (f : Addr) (fd : FuncData) : Prop := PySem.W.nsIn K mainGlobals x = some (some (.ref f)) ∧ Fun K x x st f fd
section
variable {K : PySem.W.Frag} {x q : Str} {st : Stmt} {f C : Addr} {oc : Value} {od an : Option Addr} {osl : Array (Option Value)} {kV doc pm cdv ct : Value}
theorem dk (a : PySem.W.nsIn K mainGlobals x = some (some (.ref f))) (l : K.lookup f = some ⟨oc, od, .func (PySem.W.fnOf x x (defArgs st) (defBody st) (defScope st) .none kV doc pm an cdv ct), osl⟩) (c : PySem.W.codeIn K cdv x = true) (k : PySem.W.keepIn K (.ref f) = true) :
    Dk K x st f (PySem.W.fnOf x x (defArgs st) (defBody st) (defScope st) .none kV doc pm an cdv ct) := ⟨a, fun_mk l c k⟩
/-- how arguments bind, told for any function of this text -/
abbrev Bd (x q : Str) (st : Stmt) (us : List Value) (ps : List Str) : Prop := ∀ (kV doc pm : Value) (an : Option Addr) (cdv ct : Value), bindArgs (PySem.W.fnOf x q (defArgs st) (defBody st) (defScope st) .none kV doc pm an cdv ct) ⟨us, []⟩ = pure (ps.zip us)
theorem Dk.df {h : Heap} {mg : Str → Option Value} {fd : FuncData} {ps : List Str} (X : K.In h) (G : h.Ns mainGlobals mg) (D : Dk K x st f fd) (b : ∀ us, us.length = ps.length → Bd x x st us ps) : Df K mg x st f fd ps :=
  ⟨D.2, PySem.W.mg_of X G D.1, D.2.binds fun kV doc pm an cdv ct us hl => b us hl kV doc pm an cdv ct⟩
theorem bd1 {p : List Str} (h : ∀ a, Bd x q st [a] p) : ∀ us : List Value, us.length = 1 → Bd x q st us p | [a], _ => h a
theorem bd2 {p : List Str} (h : ∀ a b, Bd x q st [a, b] p) : ∀ us : List Value, us.length = 2 → Bd x q st us p | [a, b], _ => h a b
theorem bd3 {p : List Str} (h : ∀ a b c, Bd x q st [a, b, c] p) : ∀ us : List Value, us.length = 3 → Bd x q st us p | [a, b, c], _ => h a b c
theorem bd4 {p : List Str} (h : ∀ a b c d, Bd x q st [a, b, c, d] p) : ∀ us : List Value, us.length = 4 → Bd x q st us p | [a, b, c, d], _ => h a b c d
theorem bd5 {p : List Str} (h : ∀ a b c d e, Bd x q st [a, b, c, d, e] p) : ∀ us : List Value, us.length = 5 → Bd x q st us p | [a, b, c, d, e], _ => h a b c d e
theorem bd6 {p : List Str} (h : ∀ a b c d e f, Bd x q st [a, b, c, d, e, f] p) : ∀ us : List Value, us.length = 6 → Bd x q st us p | [a, b, c, d, e, f], _ => h a b c d e f
theorem law_b {fd : FuncData} {y : Str} (F : Fun K x q st f fd) (h : ∀ v, Bd x q st [v] [y]) (s : Shared) (v : Value) : BindsTo s fd ⟨[v], []⟩ [(y, v)] := by
  obtain ⟨oc, od, kV, doc, pm, an, cdv, ct, osl, rfl, lk, hcd⟩ := F.ex
  exact .of_eq (h v kV doc pm an cdv ct)
end
end L2

set_option maxRecDepth 100000
set_option maxHeartbeats 4000000
namespace L2
open PySem PySem.Spec PyProof.Rows
section
variable {X : Cx}
/-- a tuple of targets, with the text's heap named (for blocks) -/
theorem pgT {K : PySem.W.Frag} {pos : Pos} {es : List Expr} {k : Nat} {t : TGs} {n : Nat} (hc : X.calm = true) (h : PGs X es t) (hn : (assignEach es X.env).length = n := by rfl) (hst : (assignEach es X.env).findIdx? (·.1) = none := by rfl) (hK : X.K = K := by rfl) : PG X (.Tuple es k pos) (gTup K n t) := hK ▸ pg_tup hc h hn hst
/-- range(b) as a value -/
theorem call_rng1 : CallR X (.type "range") (fun xs H Q => ∃ j : Int, xs = [.int j] ∧ ∀ p, H p = none → Q (.ref p) (upd H p (.rng 0 j))) := by
  intro pins s σ H xs us Q I r h
  obtain ⟨j, rfl, q⟩ := h
  obtain ⟨u, rfl, ⟨t, rfl⟩⟩ := vals1 r
  refine call_range_1 ⟨.ref s.heap.objs.size, _, I.laid (fun b o e => Heap.get?_push_of_some _ e) (Nat.le_refl _) (show ObjOk X.prog X.w _ _ _ (.rng 0 j) from ⟨_, _, _, Heap.get?_push_size _ rfl⟩), rfl, q _ (I.hok.fresh (Nat.le_refl _))⟩
end
end L2
namespace Wd
open PySem L2
/-- a tie and a set, told whether the set keeps it -/
def spKeeps : Sp := fun vs H Q _ => ∃ (t : Tie) (m n : Nat) (v : V), vs = [v, .int n] ∧ Dn H t.toD v ∧ t.Ok m ∧ m ≤ 1000 ∧ ∀ H', Same H H' → Q (.bl (t.keep n)) H'
def spLaw (K : PySem.W.Frag) : Sp := fun vs H Q _ => ∃ (p : Addr) (ns : List Int), vs = [.ref p] ∧ SqL K H p (ns.map V.int) ∧ ns.length ≤ 63 ∧ ∀ H', Q (.bl true) H'
theorem dec_cnt0 (k : Nat) : decide (V.int (k : Int) = V.int 0) = decide (k = 0) := by
  rw [dec_int]
  by_cases z : k = 0
  · rw [z]; rfl
  · rw [decide_eq_false z]
    simpa using z
/-- a tie and a stand, told a truth -/
def spTie3 (f : Tie → Nat → Nat → Bool) : Sp := fun vs H Q _ => ∃ (t : Tie) (m y n : Nat) (v : V), vs = [v, .int y, .int n] ∧ Dn H t.toD v ∧ t.Ok m ∧ m ≤ 1000 ∧ ∀ H', Same H H' → Q (.bl (f t y n)) H'
def spTie3B (f : Tie → Nat → Nat → Bool) : Sp := fun vs H Q _ => ∃ (u : Nat) (lo hi : Int) (ks : List Nat) (m y n : Nat) (v : V), vs = [v, .int y, .int n] ∧ Dn H (Tie.bough u lo hi ks).toD v ∧ Tie.BoughOkW m u lo hi ks ∧ m ≤ 1000 ∧ ∀ H', Same H H' → Q (.bl (f (Tie.bough u lo hi ks) y n)) H'
/-- pairs and a stand, told a number -/
def spSum (f : List (Nat × Int) → Nat → Nat → Int) : Sp := fun vs H Q _ => ∃ (q : Addr) (xs : List V) (ps : List (Nat × Int)) (y n : Nat), vs = [.ref q, .int y, .int n] ∧ H q = some (.tup xs) ∧ DnL H (ps.map pairD) xs ∧ ps.length ≤ 1000 ∧ ∀ H', Same H H' → Q (.int (f ps y n)) H'
theorem list_ties {P : Tie → Prop} : ∀ {l : List PyData}, (∀ d ∈ l, ∃ t : Tie, d = t.toD ∧ P t) → ∃ ts : List Tie, l = ts.map Tie.toD ∧ ∀ t ∈ ts, P t
  | [], _ => ⟨[], rfl, (fun _ z => nomatch z)⟩
  | d :: r, h => by
    obtain ⟨t, e, p⟩ := h d List.mem_cons_self
    obtain ⟨ts, e2, p2⟩ := list_ties fun x hx => h x (List.mem_cons_of_mem _ hx)
    refine ⟨t :: ts, by rw [e, e2]; rfl, fun x hx => ?_⟩
    rcases List.mem_cons.mp hx with rfl | z
    · exact p
    · exact p2 x z
theorem bough_tie {m : Nat} {d : PyData} (h : isBough m d = true) : ∃ t : Tie, d = t.toD ∧ t.Ok m := by
  obtain ⟨u, lo, hi, ks, e, ok⟩ := tie_of_bough h
  exact ⟨.bough u lo hi ks, e, ok.toBoughOkW⟩
theorem cross_tie {m : Nat} {d : PyData} (h : isTie m d = true) : ∃ t : Tie, d = t.toD ∧ t.Ok m := by
  obtain ⟨t, e, ok, _⟩ := tie_of_cross h
  exact ⟨t, e, ok⟩
theorem dn_tie {H : Hp} {ts : List Tie} {xs : List V} (h : DnL H (ts.map Tie.toD) xs) {i : Nat} {x : V} (hx : xs[i]? = some x) : ∃ t, ts[i]? = some t ∧ Dn H t.toD x := by
  obtain ⟨d, hd, q⟩ := h.get hx
  rw [List.getElem?_map] at hd
  obtain ⟨t, ht, rfl⟩ := Option.map_eq_some_iff.mp hd
  exact ⟨t, ht, q⟩
theorem iteD {c A B : Prop} [Decidable c] (hc : c) (h : A) : if decide c = true then A else B := by
  rw [decide_eq_true hc]
  exact iteT h
theorem iteDN {c A B : Prop} [Decidable c] (hc : ¬ c) (h : B) : if decide c = true then A else B := by
  rw [decide_eq_false hc]
  exact iteF h
theorem iteNN {c A B : Prop} [Decidable c] (hc : ¬ c) (h : A) : if (!decide c) = true then A else B := by
  rw [decide_eq_false hc]
  exact iteT h
theorem vs_ne {x y : Str} (h : ¬ x = y) : ¬ V.str x = V.str y := fun z => by injection z with z; exact h z
theorem bans_needs : ¬ V.str ("bans" : Str) = V.str ("needs" : Str) := vs_ne (by decide +kernel)
theorem most_needs : ¬ V.str ("most" : Str) = V.str ("needs" : Str) := vs_ne (by decide +kernel)
theorem most_bans : ¬ V.str ("most" : Str) = V.str ("bans" : Str) := vs_ne (by decide +kernel)
theorem int_str {i : Int} {x : Str} : ¬ V.int i = V.str x := fun z => by cases z
end Wd

set_option maxRecDepth 100000
set_option maxHeartbeats 4000000
/-! ### I. Woods by their ties -/
namespace Wd
open PySem L2 Ow
structure WoodT (H : Hp) (wd : Addr) (m : Nat) (ts : List Tie) : Prop where
  ex : ∃ xs ys, WoodAt H wd m xs ys ∧ DnL H (ts.map Tie.toD) (xs ++ ys)
  ok : ∀ t ∈ ts, t.Ok m
  few : ts.length ≤ 900
  m9 : m ≤ 900
theorem WoodAt.same {H H' : Hp} {wd : Addr} {m : Int} {xs ys : List V} (s : Same H H') (h : WoodAt H wd m xs ys) : WoodAt H' wd m xs ys := by
  obtain ⟨tb, tc, h1, h2, h3⟩ := h.ex
  exact ⟨tb, tc, s _ _ h1, s _ _ h2, s _ _ h3⟩
theorem WoodT.same {H H' : Hp} {wd : Addr} {m : Nat} {ts : List Tie} (s : Same H H') (h : WoodT H wd m ts) : WoodT H' wd m ts := by
  obtain ⟨xs, ys, h1, h2⟩ := h.ex
  exact ⟨⟨xs, ys, WoodAt.same s h1, DnL.same s _ _ h2⟩, h.ok, h.few, h.m9⟩
def optN : Option Nat → V
  | none => .non
  | some i => .int (i : Int)
def firstB (ts : List Tie) (n : Nat) : Option Nat := ts.findIdx? fun t => !t.keep n
def wareB (ts : List Tie) (n : Nat) : Bool := n.testBit 0 && ts.all fun t => t.keep n
theorem firstB_some {ts : List Tie} {n i : Nat} {t : Tie} (h : ts[i]? = some t) (hk : t.keep n = false) (hp : ∀ j x, j < i → ts[j]? = some x → x.keep n = true) : firstB ts n = some i := by
  unfold firstB
  rw [List.findIdx?_eq_some_iff_getElem]
  obtain ⟨hi, e⟩ := List.getElem?_eq_some_iff.mp h
  refine ⟨hi, by rw [e, hk]; rfl, fun j hj => ?_⟩
  rw [hp j _ hj (List.getElem?_eq_getElem (by omega))]
  simp
theorem firstB_none {ts : List Tie} {n : Nat} (hp : ∀ j x, j < ts.length → ts[j]? = some x → x.keep n = true) : firstB ts n = none := by
  unfold firstB
  rw [List.findIdx?_eq_none_iff]
  intro x hx
  obtain ⟨j, hj, rfl⟩ := List.getElem_of_mem hx
  rw [hp j _ hj (List.getElem?_eq_getElem hj)]
  rfl
theorem wareB_first (ts : List Tie) (n : Nat) : wareB ts n = (n.testBit 0 && decide (firstB ts n = none)) := by
  unfold wareB firstB
  congr 1
  rw [Bool.eq_iff_iff, List.all_eq_true, decide_eq_true_eq, List.findIdx?_eq_none_iff]
  refine ⟨fun h x hx => by rw [h x hx]; rfl, fun h x hx => ?_⟩
  have := h x hx
  simpa using this
theorem optN_non (o : Option Nat) : decide (optN o = V.non) = decide (o = none) := by
  cases o <;> rfl
/-- all numbers of ties -/
def spEvery : Sp := fun vs H Q _ => ∃ (wd : Addr) (m : Nat) (ts : List Tie), vs = [.ref wd] ∧ WoodT H wd m ts ∧ ∀ (l : Addr) (H' : Hp), Same H H' → H l = none → H' l = some (.lst ((List.range ts.length).map fun i : Nat => V.int (i : Int))) → Q (.ref l) H'
def spFirstB : Sp := fun vs H Q _ => ∃ (wd : Addr) (m : Nat) (ts : List Tie) (n : Nat), vs = [.ref wd, .int n] ∧ WoodT H wd m ts ∧ ∀ H', Same H H' → Q (optN (firstB ts n)) H'
def spWareB : Sp := fun vs H Q _ => ∃ (wd : Addr) (m : Nat) (ts : List Tie) (n : Nat), vs = [.ref wd, .int n] ∧ WoodT H wd m ts ∧ ∀ H', Same H H' → Q (.bl (wareB ts n)) H'
theorem range_get {n i : Nat} {x : V} (h : ((List.range n).map fun i : Nat => V.int (i : Int))[i]? = some x) : i < n ∧ x = .int (i : Int) := by
  rw [List.getElem?_map] at h
  obtain ⟨j, hj, rfl⟩ := Option.map_eq_some_iff.mp h
  obtain ⟨hi, e⟩ := List.getElem?_eq_some_iff.mp hj
  rw [List.length_range] at hi
  rw [List.getElem_range] at e
  exact ⟨hi, by rw [e]⟩
end Wd

/-! ### Bits: sums and differences of sets -/
namespace Wd
theorem add_bits : ∀ (k a b : Nat), (∀ j, a.testBit j = true → b.testBit j = false) → (a + b).testBit k = (a.testBit k || b.testBit k)
  | k, a, b, h => by
    have h0 := h 0
    rw [Nat.testBit_zero, Nat.testBit_zero] at h0
    have p : a % 2 + b % 2 ≤ 1 := by
      by_cases z : a % 2 = 1
      · have := h0 (decide_eq_true z)
        have := of_decide_eq_false this
        omega
      · omega
    cases k with
    | zero =>
      rw [Nat.testBit_zero, Nat.testBit_zero, Nat.testBit_zero]
      by_cases z : a % 2 = 1
      · rw [decide_eq_true z, decide_eq_true (by omega), Bool.true_or]
      · rw [decide_eq_false z, Bool.false_or]
        by_cases y : b % 2 = 1
        · rw [decide_eq_true y, decide_eq_true (by omega)]
        · rw [decide_eq_false y, decide_eq_false (by omega)]
    | succ k =>
      rw [Nat.testBit_add_one, Nat.testBit_add_one, Nat.testBit_add_one]
      have e : (a + b) / 2 = a / 2 + b / 2 := by omega
      rw [e]
      refine add_bits k (a / 2) (b / 2) fun j hj => ?_
      have := h (j + 1)
      rw [Nat.testBit_add_one, Nat.testBit_add_one] at this
      exact this hj
theorem add_or {a b : Nat} (h : ∀ j, a.testBit j = true → b.testBit j = false) : a + b = a ||| b :=
  Nat.eq_of_testBit_eq fun k => by rw [add_bits k a b h, Nat.testBit_or]
theorem sub_bits : ∀ (k y a : Nat), (∀ j, a.testBit j = true → y.testBit j = true) → (y - a).testBit k = (y.testBit k && !a.testBit k)
  | k, y, a, h => by
    have le : a ≤ y := by
      have e : a = a &&& y := Nat.eq_of_testBit_eq fun j => by
        rw [Nat.testBit_and]
        cases e : a.testBit j with
        | false => rfl
        | true => rw [h j e]; rfl
      rw [e]
      exact Nat.and_le_right
    have h0 := h 0
    rw [Nat.testBit_zero, Nat.testBit_zero] at h0
    have p : a % 2 ≤ y % 2 := by
      by_cases z : a % 2 = 1
      · have := of_decide_eq_true (h0 (decide_eq_true z))
        omega
      · omega
    cases k with
    | zero =>
      rw [Nat.testBit_zero, Nat.testBit_zero, Nat.testBit_zero]
      by_cases z : a % 2 = 1
      · rw [decide_eq_true z, decide_eq_false (by omega)]; simp
      · rw [decide_eq_false z]
        by_cases x : y % 2 = 1
        · rw [decide_eq_true x, decide_eq_true (by omega)]; rfl
        · rw [decide_eq_false x, decide_eq_false (by omega)]; rfl
    | succ k =>
      rw [Nat.testBit_add_one, Nat.testBit_add_one, Nat.testBit_add_one]
      have e : (y - a) / 2 = y / 2 - a / 2 := by omega
      rw [e]
      refine sub_bits k (y / 2) (a / 2) fun j hj => ?_
      have := h (j + 1)
      rw [Nat.testBit_add_one, Nat.testBit_add_one] at this
      exact this hj
theorem or_as_sum (a b : Nat) : a ||| b = a + (b - (a &&& b)) := by
  have hb : ∀ j, (b - (a &&& b)).testBit j = (b.testBit j && !(a &&& b).testBit j) := fun j => sub_bits j b (a &&& b) fun i hi => by
    rw [Nat.testBit_and, Bool.and_eq_true] at hi
    exact hi.2
  rw [add_or fun j hj => by rw [hb, Nat.testBit_and, hj]; cases b.testBit j <;> rfl]
  refine Nat.eq_of_testBit_eq fun j => ?_
  rw [Nat.testBit_or, Nat.testBit_or, hb, Nat.testBit_and]
  cases a.testBit j <;> cases b.testBit j <;> rfl
theorem filter_range_succ (p : Nat → Bool) (i : Nat) : (List.range (i + 1)).filter p = (List.range i).filter p ++ (if p i = true then [i] else []) := by
  rw [List.range_succ, List.filter_append]
  congr 1
  by_cases h : p i = true <;> simp [h]
/-! stands made finer -/
theorem bit_put (y k j : Nat) : (y ||| 2 ^ k).testBit j = (y.testBit j || decide (k = j)) := by rw [Nat.testBit_or, Nat.testBit_two_pow]
theorem inS_split {y n k s : Nat} : InS y n s ↔ InS (y ||| 2 ^ k) n s ∨ InS y (n ||| 2 ^ k) s := by
  constructor
  · rintro ⟨h1, h2⟩
    cases e : s.testBit k with
    | true =>
      refine .inl ⟨fun j hj => ?_, h2⟩
      rw [bit_put, Bool.or_eq_true, decide_eq_true_eq] at hj
      rcases hj with z | rfl
      · exact h1 j z
      · exact e
    | false =>
      refine .inr ⟨h1, fun j hj => ?_⟩
      rw [bit_put, Bool.or_eq_true, decide_eq_true_eq] at hj
      rcases hj with z | rfl
      · exact h2 j z
      · exact e
  · rintro (⟨h1, h2⟩ | ⟨h1, h2⟩)
    · exact ⟨fun j hj => h1 j (by rw [bit_put, hj, Bool.true_or]), h2⟩
    · exact ⟨h1, fun j hj => h2 j (by rw [bit_put, hj, Bool.true_or])⟩
theorem dj_one {y n k : Nat} (d : ∀ j, y.testBit j = true → n.testBit j = false) (hn : n.testBit k = false) : ∀ j, (y ||| 2 ^ k).testBit j = true → n.testBit j = false := fun j hj => by
  rw [bit_put, Bool.or_eq_true, decide_eq_true_eq] at hj
  rcases hj with z | rfl
  · exact d j z
  · exact hn
theorem dj_other {y n k : Nat} (d : ∀ j, y.testBit j = true → n.testBit j = false) (hy : y.testBit k = false) : ∀ j, y.testBit j = true → (n ||| 2 ^ k).testBit j = false := fun j hj => by
  rw [bit_put, d j hj, Bool.false_or]
  exact decide_eq_false fun z => by rw [← z, hy] at hj; cases hj
theorem inS_self {y n : Nat} (d : ∀ j, y.testBit j = true → n.testBit j = false) : InS y n y := ⟨fun _ z => z, fun k hk => by
  cases e : y.testBit k with
  | false => rfl
  | true => rw [d k e] at hk; cases hk⟩
theorem inS_full {m y n s : Nat} (full : ∀ k, k < m → (y ||| n).testBit k = true) (hs : InS y n s) (d : ∀ j, y.testBit j = true → n.testBit j = false) : ∀ k, k < m → s.testBit k = y.testBit k := fun k hk => by
  have h := full k hk
  rw [Nat.testBit_or, Bool.or_eq_true] at h
  rcases h with z | z
  · rw [z, hs.1 k z]
  · rw [hs.2 k z, (inS_self d).2 k z]
theorem sb_full {m : Nat} {t : Tie} (ok : t.Ok m) {y n : Nat} (d : ∀ j, y.testBit j = true → n.testBit j = false) (full : ∀ k, k < m → (y ||| n).testBit k = true) : t.sb y n = !t.keep y := by
  rw [Bool.eq_iff_iff, sb_iff ok d, Bool.not_eq_true']
  constructor
  · intro h
    exact h y (inS_self d)
  · intro h s hs
    rw [keep_congr ok (inS_full full hs d)]
    exact h
end Wd

set_option maxRecDepth 100000
set_option maxHeartbeats 4000000
/-! ### J. More forms of loops; bits of ints -/
namespace L2
open PySem
theorem op_eq_ints {X : Cx} (hu : X.A.units + 64 < cLine) : OpR X (compareOp .Eq) (fun x y H Q => ∃ (a b : Addr) (ns ms : List Int), x = .ref a ∧ y = .ref b ∧ SqL X.K H a (ns.map V.int) ∧ SqL X.K H b (ms.map V.int) ∧ Q (.bl (decide (ns = ms))) H) := by
  intro pins s σ H x y v u Q I rx ry h
  obtain ⟨a, b, ns, ms, rfl, rfl, ha, hb, q⟩ := h
  cases rx
  cases ry
  obtain ⟨xs, rv, p, _⟩ := I.list ha
  obtain ⟨ys, rv', p', _⟩ := I.list hb
  exact PySem.W.ke_eq_ints p.isList p'.isList (intsAre_of rv) (intsAre_of rv') hu ⟨.bl _, H, I, rfl, q⟩
theorem lc_range0 {k : Nat} {σ0 : St} {H : Hp} {g : TG} {tc : TT} {te : TE} {Q : VK} (Pv : Nat → List V → St → Hp → Prop) (h0 : Pv 0 [] σ0 H) (hz : ∀ i ys σ H, i ≤ k → Pv i ys σ H → ys.length ≤ sizeLine)
    (hs : ∀ i ys σ H, i < k → Pv i ys σ H → g (.int (i : Int)) σ H fun σ3 H3 => tc σ3 H3 fun b H4 => if b = true then te σ3 H4 fun v H5 => Pv (i + 1) (ys ++ [v]) σ3 H5 else Pv (i + 1) ys σ3 H4)
    (hd : ∀ ys σ H, Pv k ys σ H → ∀ p, H p = none → Q (.ref p) (upd H p (.lst ys))) :
    lcGo (Itr 0 k) g tc te σ0 H Q :=
  lc_range (lo := 0) Pv h0 hz (fun i ys σ H hi p => by rw [Int.zero_add]; exact hs i ys σ H hi p) hd
theorem for_range0 {n : Nat} {g : TG} {tb : TS} {D : Ends} {σ : St} {H : Hp} (Pv : Nat → St → Hp → Prop) (h0 : Pv 0 σ H)
    (hs : ∀ i σ H, i < n → Pv i σ H → g (.int (i : Int)) σ H fun σ2 H2 => tb { D with nx := Pv (i + 1), ct := Pv (i + 1), bk := D.nx } σ2 H2) (hd : ∀ σ H, Pv n σ H → D.nx σ H) :
    ∃ W : Nat → Nat → St → Hp → Prop, (∃ m, W 0 m σ H) ∧ ∀ i m σ H, W i m σ H →
      ((Itr 0 n).stop i H ∧ D.nx σ H) ∨ ((Itr 0 n).go i H ∧ ∃ N : St → Hp → Prop, (∀ σ' H', N σ' H' → ∃ m', m' < m ∧ W (i + 1) m' σ' H') ∧ ∀ x H', (Itr 0 n).yld i H x H' → g x σ H' fun σ2 H2 => tb { D with nx := N, ct := N, bk := D.nx } σ2 H2) :=
  for_range (lo := 0) Pv h0 (fun i σ H hi p => by rw [Int.zero_add]; exact hs i σ H hi p) hd
end L2
namespace Wd
open PySem L2 Ow
theorem lor_nat (a b : Nat) : Builtin.bitOr (a : Int) (b : Int) = ((a ||| b : Nat) : Int) := by
  have le : a &&& b ≤ b := Nat.and_le_right
  rw [PyProof.Rows.bitOr_and, PyProof.Rows.bitAnd_pp (by omega) (by omega), Int.toNat_natCast, Int.toNat_natCast, or_as_sum]
  omega
theorem shl1 (k : Nat) : 1 * (2 : Int) ^ ((k : Nat) : Int).toNat = ((2 ^ k : Nat) : Int) := by
  rw [Int.one_mul, Int.toNat_natCast, Int.natCast_pow]
  rfl
theorem pow_pos2 (k : Nat) : 0 < 2 ^ k := Nat.pow_pos (by decide)
end Wd

set_option maxRecDepth 100000
set_option maxHeartbeats 4000000
/-! ### K. Ranges with a step -/
namespace L2
open PySem PySem.Spec PyProof.Rows
section
variable {X : Cx} {tg : Expr}
end
end L2
namespace Wd
open PySem L2
end Wd

set_option maxRecDepth 100000
set_option maxHeartbeats 4000000
/-! ### L. A pen that turns: a list of the script and a place -/
namespace Wd
open PySem L2 Ow
/-- all but the object at one address stays -/
def KpX (pen : Addr) (H H' : Hp) (b : Addr) : HO → Prop
  | .tbl _ => (∃ ps, H' b = some (.tbl ps)) ∧ (TabOk H b → (∃ ys, H pen = some (.lst ys)) → TabOk H' b ∧ ∃ ys, H' pen = some (.lst ys))
  | o => H' b = some o
/-- all but the pen is as it was; tables of code may have grown -/
def SameX (pen : Addr) (H H' : Hp) : Prop := ∀ b o, b ≠ pen → H b = some o → KpX pen H H' b o
theorem KpX.some {pen : Addr} {H H' : Hp} {b : Addr} {o : HO} (k : KpX pen H H' b o) : ∃ u, H' b = some u := by
  cases o
  case tbl ps => exact ⟨_, k.1.choose_spec⟩
  all_goals exact ⟨_, k⟩
theorem SameX.refl (pen : Addr) (H : Hp) : SameX pen H H := fun _ o _ h => by
  cases o
  case tbl ps => exact ⟨⟨_, h⟩, fun a b => ⟨a, b⟩⟩
  all_goals exact h
theorem SameX.trans {pen : Addr} {H H1 H2 : Hp} (a : SameX pen H H1) (b : SameX pen H1 H2) : SameX pen H H2 := fun c o n h => by
  have z := a c o n h
  cases o
  case tbl ps =>
    obtain ⟨⟨qs, hq⟩, k⟩ := z
    obtain ⟨q2, k2⟩ := b c _ n hq
    exact ⟨q2, fun t y => k2 (k t y).1 (k t y).2⟩
  all_goals exact b c _ n z
theorem Same.x {pen : Addr} {H H' : Hp} (s : Same H H') : SameX pen H H' := fun b o _ h => by
  have z := s b o h
  cases o
  case tbl ps => exact ⟨z.1, fun t ⟨ys, y⟩ => ⟨z.2 t, ys, s pen _ y⟩⟩
  all_goals exact z
theorem sameX_pen {pen : Addr} {H : Hp} (o : HO) (ho : ∃ ys, o = .lst ys := by exact ⟨_, rfl⟩) : SameX pen H (upd H pen o) := fun b u n h => by
  cases u
  case tbl ps =>
    refine ⟨⟨ps, by rw [upd_ne n]; exact h⟩, ?_⟩
    rintro ⟨qs, hq, tr, hp⟩ ⟨ys, hy⟩
    obtain ⟨zs, rfl⟩ := ho
    refine ⟨⟨qs, by rw [upd_ne n]; exact hq, tr, fun pos => ?_⟩, ⟨zs, upd_same⟩⟩
    rcases hp pos with z | ⟨c, z1, z2⟩
    · exact .inl z
    · refine .inr ⟨c, z1, ?_⟩
      rw [upd_ne fun z => by rw [z, hy] at z2; cases z2]
      exact z2
  all_goals (show upd H pen o b = _; rw [upd_ne n]; exact h)
theorem SameX.put {pen : Addr} {H H1 : Hp} {p : Addr} {xs : List V} {o : HO} (s : SameX pen H H1) (n : H p = none) (np : p ≠ pen) (e : H1 p = some (.lst xs)) : SameX pen H (upd H1 p o) := fun b u nb hb => by
  have ne : b ≠ p := ne_of_none hb n
  have z := s b u nb hb
  cases u
  case tbl ps =>
    refine ⟨⟨z.1.choose, by rw [upd_ne ne]; exact z.1.choose_spec⟩, fun t y => ?_⟩
    obtain ⟨⟨qs, hq, tr, hp⟩, ys, hy⟩ := z.2 t y
    refine ⟨⟨qs, by rw [upd_ne ne]; exact hq, tr, fun pos => ?_⟩, ys, by rw [upd_ne (Ne.symm np)]; exact hy⟩
    rcases hp pos with y | ⟨c, y1, y2⟩
    · exact .inl y
    · refine .inr ⟨c, y1, ?_⟩
      rw [upd_ne fun z => by rw [z, e] at y2; cases y2]
      exact y2
  all_goals (show upd H1 p o b = _; rw [upd_ne ne]; exact z)
theorem SameX.tab {pen P : Addr} {H H' : Hp} {ys : List V} (s : SameX pen H H') (hp : H pen = some (.lst ys)) (t : TabOk H P) : TabOk H' P := by
  obtain ⟨ps, h, _⟩ := id t
  exact ((s P _ (fun z => by rw [z, hp] at h; cases h) h).2 t ⟨ys, hp⟩).1
theorem SameX.free {pen l : Addr} {H H' : Hp} (s : SameX pen H H') (hp : ∃ o, H' pen = some o) (h : H' l = none) : H l = none := by
  cases q : H l with
  | none => rfl
  | some o =>
    obtain ⟨o', e⟩ := hp
    have n : l ≠ pen := fun z => by rw [z, e] at h; cases h
    obtain ⟨u, z⟩ := (s l o n q).some
    rw [z] at h
    cases h
structure Pen (K : PySem.W.Frag) (H : Hp) (pen sp : Addr) (ns : List Int) (k : Int) : Prop where
  at_ : H pen = some (.lst [.ref sp, .int k])
  len : ns.length ≤ 63
  scr : ∀ H', SameX pen H H' → SqL K H' sp (ns.map V.int)
theorem Pen.to {K : PySem.W.Frag} {H H' : Hp} {pen sp : Addr} {ns : List Int} {k k' : Int} (p : Pen K H pen sp ns k) (s : SameX pen H H') (e : H' pen = some (.lst [.ref sp, .int k'])) : Pen K H' pen sp ns k' :=
  ⟨e, p.len, fun H2 s2 => p.scr H2 (s.trans s2)⟩
/-- tuples of H stay in H' -/
def TupS (H H' : Hp) : Prop := ∀ b xs, H b = some (.tup xs) → H' b = some (.tup xs)
theorem SameX.tup {pen : Addr} {H H' : Hp} {ys : List V} (e : H pen = some (.lst ys)) (s : SameX pen H H') : TupS H H' := fun b xs h => s b _ (fun z => by rw [z, e] at h; cases h) h
theorem DnL.tupS {H H' : Hp} (t : TupS H H') {n : Nat} {ds : List PyData} {vs : List V} (f : ds.all (flatD n) = true) (q : DnL H ds vs) : DnL H' ds vs := DnL.keepT (Dn.keepT t n) ds vs f q
def spNext (K : PySem.W.Frag) : Sp := fun vs H Q _ => ∃ (pen sp : Addr) (ns : List Int) (most k : Int), vs = [.ref pen, .int most] ∧ Pen K H pen sp ns k ∧ 0 ≤ k ∧ k ≤ 1000000 ∧ 0 < most ∧ ∀ c : Int, 0 ≤ c → c < most → Q (.int c) (L2.upd H pen (.lst [.ref sp, .int (k + 1)]))
/-- a wood laid as data -/
structure WoodX (H : Hp) (wd : Addr) (m : Nat) (bs cs : List PyData) : Prop where
  ex : ∃ xs ys, WoodAt H wd m xs ys ∧ DnL H bs xs ∧ DnL H cs ys
  gb : GoodB m bs
  gc : ∀ c ∈ cs, isTie m c = true
  b8 : bs.length ≤ 9
  c8 : cs.length ≤ 20
  fb : bs.all (flatD 3) = true
  fc : cs.all (flatD 3) = true
  m1 : 1 ≤ m
  m9 : m ≤ 9
theorem WoodX.tupS {H H' : Hp} {wd : Addr} {m : Nat} {bs cs : List PyData} (t : TupS H H') (h : WoodX H wd m bs cs) : WoodX H' wd m bs cs := by
  obtain ⟨xs, ys, ⟨tb, tc, h1, h2, h3⟩, db, dc⟩ := h.ex
  exact ⟨⟨xs, ys, ⟨tb, tc, t _ _ h1, t _ _ h2, t _ _ h3⟩, DnL.tupS t h.fb db, DnL.tupS t h.fc dc⟩, h.gb, h.gc, h.b8, h.c8, h.fb, h.fc, h.m1, h.m9⟩
theorem Same.tup {H H' : Hp} (s : Same H H') : TupS H H' := fun b xs h => s b _ h
theorem WoodX.ties {H : Hp} {wd : Addr} {m : Nat} {bs cs : List PyData} (h : WoodX H wd m bs cs) : ∃ ts : List Tie, bs ++ cs = ts.map Tie.toD ∧ (∀ t ∈ ts, t.Ok m) ∧ ts.length ≤ 29 ∧ ∀ H', TupS H H' → WoodT H' wd m ts := by
  obtain ⟨ts, ets, okt⟩ := list_ties (P := fun t => t.Ok m) (l := bs ++ cs) fun x hx => by
    rcases List.mem_append.mp hx with z | z
    · exact bough_tie (h.gb.each x z)
    · exact cross_tie (h.gc x z)
  have lt : ts.length = bs.length + cs.length := by rw [← List.length_append, ets, List.length_map]
  have b8 := h.b8
  have c8 := h.c8
  have m9 := h.m9
  refine ⟨ts, ets, okt, by omega, fun H' t => ?_⟩
  obtain ⟨xs, ys, WA, db, dc⟩ := (h.tupS t).ex
  exact ⟨⟨xs, ys, WA, by rw [← ets]; exact db.append dc⟩, okt, by omega, by omega⟩
theorem _root_.Ow.GAt.add2 {H0 H : Hp} {g l t : Addr} {gs : List Grp} {u k : Int} (G : GAt H0 H g gs) (hf : H0 l = none) (hl : H l = none) (ht : upd H l (.lst [.int k]) t = none) :
    GAt H0 (upd (upd (upd H l (.lst [.int k])) t (.tup [.int u, .ref l])) g (.lst ((gs.map fun x => V.ref x.t) ++ [.ref t]))) g (gs ++ [⟨t, u, l, [k]⟩]) := by
  have ngl : g ≠ l := ne_of_none G.at_ hl
  have s1 := same_new hl (.lst [.int k])
  have s2 := s1.trans (same_new ht (.tup [.int u, .ref l]))
  have ntl : t ≠ l := fun z => by rw [z, upd_same] at ht; cases ht
  have ngt : g ≠ t := ne_of_none (s1 _ _ G.at_) ht
  refine ⟨?_, G.new, fun x hx => ?_, fun x hx => ?_, ?_⟩
  · rw [upd_same, List.map_append]
    rfl
  · rcases List.mem_append.mp hx with z | z
    · rw [upd_ne (ne_of (G.tup x z) G.at_ (by intro q; cases q))]
      exact s2 _ _ (G.tup x z)
    · rw [List.mem_singleton.mp z]
      show L2.upd _ g _ t = _
      rw [upd_ne (Ne.symm ngt), upd_same]
  · rcases List.mem_append.mp hx with z | z
    · obtain ⟨a, b, c⟩ := G.lst x z
      refine ⟨?_, b, c⟩
      rw [upd_ne (Ne.symm c)]
      exact s2 _ _ a
    · rw [List.mem_singleton.mp z]
      refine ⟨?_, hf, ngl⟩
      show L2.upd _ g _ l = _
      rw [upd_ne (Ne.symm ngl), upd_ne (Ne.symm ntl), upd_same]
      rfl
  · rw [List.map_append]
    refine List.nodup_append.mpr ⟨G.nd, by simp, fun x hx y hy => ?_⟩
    obtain ⟨z, hz, rfl⟩ := List.mem_map.mp hx
    have e : y = l := by simpa using hy
    rw [e]
    exact ne_of_none (G.lst z hz).1 hl
/-- the groups stay when the pen turns -/
theorem _root_.Ow.GAt.pen {H0 H : Hp} {g pen : Addr} {gs : List Grp} {xs ys : List V} (G : GAt H0 H g gs) (h0 : ∃ o, H0 pen = some o) (h : H pen = some (.lst xs)) : GAt H0 (L2.upd H pen (.lst ys)) g gs := by
  obtain ⟨o, e0⟩ := h0
  refine ⟨?_, G.new, fun x hx => ?_, fun x hx => ?_, G.nd⟩
  · rw [upd_ne (fun z => by rw [← z, G.new] at e0; cases e0)]
    exact G.at_
  · rw [upd_ne (ne_of (G.tup x hx) h (by intro q; cases q))]
    exact G.tup x hx
  · obtain ⟨a, b, c⟩ := G.lst x hx
    refine ⟨?_, b, c⟩
    rw [upd_ne (fun z => by rw [← z, b] at e0; cases e0)]
    exact a
end Wd

/-! ### Trees of cases and first sets: the mathematics -/
namespace Wd
def keepAt (ts : List Tie) (i s : Nat) : Bool := match ts[i]? with
  | some t => t.keep s
  | none => true
def sbAt (ts : List Tie) (i y n : Nat) : Bool := match ts[i]? with
  | some t => t.sb y n
  | none => false
def firstSB (ts : List Tie) (il : List Nat) (y n : Nat) : Option Nat := il.find? fun i => sbAt ts i y n
def openL (m y n : Nat) : List Nat := (List.range m).filter fun k => !(y ||| n).testBit k
theorem mem_open {m y n k : Nat} : k ∈ openL m y n ↔ k < m ∧ y.testBit k = false ∧ n.testBit k = false := by
  unfold openL
  rw [List.mem_filter, List.mem_range, Bool.not_eq_true', Nat.testBit_or, Bool.or_eq_false_iff]
theorem open_one (m y n k : Nat) : openL m (y ||| 2 ^ k) n = (openL m y n).filter fun j => !decide (k = j) := by
  unfold openL
  rw [List.filter_filter]
  refine List.filter_congr fun j _ => ?_
  rw [Nat.testBit_or, bit_put, Nat.testBit_or]
  cases y.testBit j <;> cases n.testBit j <;> cases decide (k = j) <;> rfl
theorem open_other (m y n k : Nat) : openL m y (n ||| 2 ^ k) = (openL m y n).filter fun j => !decide (k = j) := by
  unfold openL
  rw [List.filter_filter]
  refine List.filter_congr fun j _ => ?_
  rw [Nat.testBit_or, bit_put, Nat.testBit_or]
  cases y.testBit j <;> cases n.testBit j <;> cases decide (k = j) <;> rfl
theorem filter_less {l : List Nat} {k : Nat} (h : k ∈ l) : (l.filter fun j => !decide (k = j)).length < l.length := by
  refine Nat.lt_of_le_of_ne (List.length_filter_le _ _) fun e => ?_
  have := List.length_filter_eq_length_iff.mp e k h
  simp at this
theorem open_less1 {m y n k : Nat} (h : k ∈ openL m y n) : (openL m (y ||| 2 ^ k) n).length < (openL m y n).length := by
  rw [open_one]; exact filter_less h
theorem open_less2 {m y n k : Nat} (h : k ∈ openL m y n) : (openL m y (n ||| 2 ^ k)).length < (openL m y n).length := by
  rw [open_other]; exact filter_less h
theorem open_few (m y n : Nat) : (openL m y n).length ≤ m := by
  refine Nat.le_trans (List.length_filter_le _ _) ?_
  rw [List.length_range]
  exact Nat.le_refl _
theorem put_lt {m y k : Nat} (h : y < 2 ^ m) (hk : k < m) : y ||| 2 ^ k < 2 ^ m := by
  refine Nat.lt_pow_two_of_testBit _ fun i hi => ?_
  rw [bit_put, Nat.testBit_lt_two_pow (Nat.lt_of_lt_of_le h (Nat.pow_le_pow_right (by decide) hi)), Bool.false_or]
  exact decide_eq_false (by omega)
theorem eq_of_bits {m a b : Nat} (ha : a < 2 ^ m) (hb : b < 2 ^ m) (h : ∀ k, k < m → a.testBit k = b.testBit k) : a = b := by
  refine Nat.eq_of_testBit_eq fun k => ?_
  by_cases z : k < m
  · exact h k z
  · have : 2 ^ m ≤ 2 ^ k := Nat.pow_le_pow_right (by decide) (by omega)
    rw [Nat.testBit_lt_two_pow (by omega), Nat.testBit_lt_two_pow (by omega)]
def allKeep (ts : List Tie) (il : List Nat) (s : Nat) : Bool := il.all fun i => keepAt ts i s
structure Stand (m y n : Nat) : Prop where
  dj : ∀ k, y.testBit k = true → n.testBit k = false
  ym : y < 2 ^ m
  nm : n < 2 ^ m
theorem Stand.one {m y n k : Nat} (S : Stand m y n) (h : k ∈ openL m y n) : Stand m (y ||| 2 ^ k) n := by
  obtain ⟨km, ky, kn⟩ := mem_open.mp h
  exact ⟨dj_one S.dj kn, put_lt S.ym km, S.nm⟩
theorem Stand.other {m y n k : Nat} (S : Stand m y n) (h : k ∈ openL m y n) : Stand m y (n ||| 2 ^ k) := by
  obtain ⟨km, ky, kn⟩ := mem_open.mp h
  exact ⟨dj_other S.dj ky, S.ym, put_lt S.nm km⟩
theorem sbAt_keep {m : Nat} {ts : List Tie} (ok : ∀ t ∈ ts, t.Ok m) {i y n s : Nat} (dj : ∀ k, y.testBit k = true → n.testBit k = false) (h : sbAt ts i y n = true) (hs : InS y n s) : keepAt ts i s = false := by
  unfold sbAt at h
  unfold keepAt
  cases e : ts[i]? with
  | none => rw [e] at h; cases h
  | some t =>
    rw [e] at h
    exact (sb_iff (ok t (List.mem_of_getElem? e)) dj).mp h s hs
theorem keep_full {m : Nat} {ts : List Tie} (ok : ∀ t ∈ ts, t.Ok m) {i y n : Nat} (dj : ∀ k, y.testBit k = true → n.testBit k = false) (full : openL m y n = []) (h : sbAt ts i y n = false) : keepAt ts i y = true := by
  have hf : ∀ k, k < m → (y ||| n).testBit k = true := fun k hk => by
    cases e : (y ||| n).testBit k with
    | true => rfl
    | false =>
      rw [Nat.testBit_or, Bool.or_eq_false_iff] at e
      have := mem_open.mpr ⟨hk, e.1, e.2⟩
      rw [full] at this
      cases this
  unfold sbAt at h
  unfold keepAt
  cases e : ts[i]? with
  | none => rfl
  | some t =>
    rw [e] at h
    have h' : t.sb y n = false := h
    rw [sb_full (ok t (List.mem_of_getElem? e)) dj hf] at h'
    show t.keep y = true
    simpa using h'
theorem stand_full {m y n s : Nat} (S : Stand m y n) (full : openL m y n = []) (hs : InS y n s) (sm : s < 2 ^ m) : s = y := by
  refine eq_of_bits sm S.ym fun k hk => ?_
  refine inS_full (m := m) (fun j hj => ?_) hs S.dj k hk
  cases e : (y ||| n).testBit j with
  | true => rfl
  | false =>
    rw [Nat.testBit_or, Bool.or_eq_false_iff] at e
    have := mem_open.mpr ⟨hj, e.1, e.2⟩
    rw [full] at this
    cases this
/-! first sets -/
theorem firstSB_some {ts : List Tie} {il : List Nat} {y n i : Nat} (h : firstSB ts il y n = some i) : i ∈ il ∧ sbAt ts i y n = true :=
  ⟨List.mem_of_find?_eq_some h, List.find?_some (p := fun i => sbAt ts i y n) h⟩
theorem firstSB_none {ts : List Tie} {il : List Nat} {y n : Nat} (h : firstSB ts il y n = none) : ∀ i ∈ il, sbAt ts i y n = false := fun i hi => by
  have := List.find?_eq_none.mp h i hi
  simpa using this
/-! trees of cases -/
inductive CT where
  | broken (t : Nat)
  | ware
  | split (k : Nat) (one other : CT)
def casesF (ts : List Tie) (il : List Nat) (m : Nat) : Nat → Nat → Nat → CT
  | f, y, n => match firstSB ts il y n with
    | some t => .broken t
    | none => match openL m y n, f with
      | [], _ => .ware
      | _ :: _, 0 => .ware
      | k :: _, f + 1 => .split k (casesF ts il m f (y ||| 2 ^ k) n) (casesF ts il m f y (n ||| 2 ^ k))
theorem casesF_split {ts : List Tie} {il r : List Nat} {m f y n k : Nat} (hb : firstSB ts il y n = none) (ho : openL m y n = k :: r) : casesF ts il m (f + 1) y n = .split k (casesF ts il m f (y ||| 2 ^ k) n) (casesF ts il m f y (n ||| 2 ^ k)) := by
  conv => lhs; unfold casesF
  simp only [hb, ho]
theorem casesF_full {ts : List Tie} {il : List Nat} {m f y n : Nat} (hb : firstSB ts il y n = none) (ho : openL m y n = []) : casesF ts il m f y n = .ware := by
  unfold casesF
  simp [hb, ho]
theorem casesF_broken {ts : List Tie} {il : List Nat} {m f y n i : Nat} (hb : firstSB ts il y n = some i) : casesF ts il m f y n = .broken i := by
  unfold casesF
  simp [hb]
def CT.leaves : CT → Nat → List Nat
  | .broken _, _ => []
  | .ware, y => [y]
  | .split k a b, y => a.leaves (y ||| 2 ^ k) ++ b.leaves y
def CT.depth : CT → Nat
  | .broken _ => 0
  | .ware => 0
  | .split _ a b => max a.depth b.depth + 1
/-- its options are no great numbers -/
def CT.small : CT → Prop
  | .broken _ => True
  | .ware => True
  | .split k a b => k ≤ 1000 ∧ a.small ∧ b.small
theorem casesF_small {ts : List Tie} {il : List Nat} {m : Nat} (hm : m ≤ 1000) : ∀ (f y n : Nat), (casesF ts il m f y n).small
  | f, y, n => by
    unfold casesF
    cases firstSB ts il y n with
    | some t => trivial
    | none =>
      dsimp only
      cases hl : openL m y n with
      | nil => trivial
      | cons k r =>
        cases f with
        | zero => trivial
        | succ f =>
          have hk : k ∈ openL m y n := by rw [hl]; exact List.mem_cons_self
          have := (mem_open.mp hk).1
          exact ⟨by omega, casesF_small hm f (y ||| 2 ^ k) n, casesF_small hm f y (n ||| 2 ^ k)⟩
theorem leaves_few : ∀ (t : CT) (y : Nat), (t.leaves y).length ≤ 2 ^ t.depth
  | .broken _, _ => Nat.zero_le _
  | .ware, _ => Nat.le_refl _
  | .split k a b, y => by
    rw [CT.leaves, List.length_append, CT.depth, Nat.pow_succ]
    have h1 := leaves_few a (y ||| 2 ^ k)
    have h2 := leaves_few b y
    have h3 : 2 ^ a.depth ≤ 2 ^ (max a.depth b.depth) := Nat.pow_le_pow_right (by decide) (Nat.le_max_left _ _)
    have h4 : 2 ^ b.depth ≤ 2 ^ (max a.depth b.depth) := Nat.pow_le_pow_right (by decide) (Nat.le_max_right _ _)
    omega
theorem casesF_depth {ts : List Tie} {il : List Nat} {m : Nat} : ∀ (f y n : Nat), (casesF ts il m f y n).depth ≤ f
  | f, y, n => by
    unfold casesF
    cases firstSB ts il y n with
    | some t => exact Nat.zero_le _
    | none =>
      dsimp only
      cases openL m y n with
      | nil => exact Nat.zero_le _
      | cons k r =>
        cases f with
        | zero => exact Nat.zero_le _
        | succ f =>
          show max _ _ + 1 ≤ f + 1
          have h1 := casesF_depth (ts := ts) (il := il) (m := m) f (y ||| 2 ^ k) n
          have h2 := casesF_depth (ts := ts) (il := il) (m := m) f y (n ||| 2 ^ k)
          omega
/-- the sets at the ware leaves are just those in the stand that keep the named ties -/
theorem leaves_iff {m : Nat} {ts : List Tie} {il : List Nat} (ok : ∀ t ∈ ts, t.Ok m) : ∀ (f y n : Nat), (openL m y n).length ≤ f → Stand m y n → ∀ s, s ∈ (casesF ts il m f y n).leaves y ↔ (s < 2 ^ m ∧ InS y n s ∧ allKeep ts il s = true)
  | f, y, n, hf, S, s => by
    unfold casesF
    cases hb : firstSB ts il y n with
    | some i =>
      obtain ⟨hi, hsb⟩ := firstSB_some hb
      constructor
      · intro h; cases h
      · rintro ⟨sm, hs, hk⟩
        have := (List.all_eq_true.mp hk) i hi
        rw [sbAt_keep ok S.dj hsb hs] at this
        cases this
    | none =>
      have hn := firstSB_none hb
      dsimp only
      cases hl : openL m y n with
      | nil =>
        show s ∈ [y] ↔ _
        rw [List.mem_singleton]
        constructor
        · rintro rfl
          exact ⟨S.ym, inS_self S.dj, List.all_eq_true.mpr fun i hi => keep_full ok S.dj hl (hn i hi)⟩
        · rintro ⟨sm, hs, _⟩
          exact stand_full S hl hs sm
      | cons k r =>
        have hk : k ∈ openL m y n := by rw [hl]; exact List.mem_cons_self
        cases f with
        | zero => rw [hl] at hf; simp at hf
        | succ f =>
          have l1 := open_less1 hk
          have l2 := open_less2 hk
          show s ∈ (casesF ts il m f (y ||| 2 ^ k) n).leaves (y ||| 2 ^ k) ++ (casesF ts il m f y (n ||| 2 ^ k)).leaves y ↔ _
          rw [List.mem_append, leaves_iff ok f (y ||| 2 ^ k) n (by omega) (S.one hk), leaves_iff ok f y (n ||| 2 ^ k) (by omega) (S.other hk)]
          constructor
          · rintro (⟨a, b, c⟩ | ⟨a, b, c⟩)
            · exact ⟨a, inS_split.mpr (.inl b), c⟩
            · exact ⟨a, inS_split.mpr (.inr b), c⟩
          · rintro ⟨a, b, c⟩
            rcases (inS_split (k := k)).mp b with b | b
            · exact .inl ⟨a, b, c⟩
            · exact .inr ⟨a, b, c⟩
end Wd

set_option maxRecDepth 100000
set_option maxHeartbeats 4000000
/-! ### M. Tuples joined, woods by named ties, trees as data -/
namespace L2
open PySem PySem.Spec PyProof.Rows
section
variable {X : Cx}
end
end L2
namespace Wd
open PySem L2 Ow
def CT.toD : CT → PyData
  | .broken t => .tuple [.str ("broken" : Str), .int (t : Int)]
  | .ware => .tuple [.str ("ware" : Str)]
  | .split k a b => .tuple [.str ("split" : Str), .int (k : Int), a.toD, b.toD]
theorem at_broken {H : Hp} {t : Nat} {v : V} (h : Dn H (CT.broken t).toD v) : ∃ p, v = .ref p ∧ H p = some (.tup [.str ("broken" : Str), .int (t : Int)]) := by
  obtain ⟨p, xs, rfl, hp, xu, r1, rfl, hu, xl, r2, rfl, hlo, hnil⟩ := dn_tup h
  cases (show r2 = [] from hnil)
  cases (show xu = .str ("broken" : Str) from hu)
  cases dn_int hlo
  exact ⟨p, rfl, hp⟩
theorem at_ware {H : Hp} {v : V} (h : Dn H CT.ware.toD v) : ∃ p, v = .ref p ∧ H p = some (.tup [.str ("ware" : Str)]) := by
  obtain ⟨p, xs, rfl, hp, xu, r1, rfl, hu, hnil⟩ := dn_tup h
  cases (show r1 = [] from hnil)
  cases (show xu = .str ("ware" : Str) from hu)
  exact ⟨p, rfl, hp⟩
theorem at_split {H : Hp} {k : Nat} {a b : CT} {v : V} (h : Dn H (CT.split k a b).toD v) : ∃ p va vb, v = .ref p ∧ H p = some (.tup [.str ("split" : Str), .int (k : Int), va, vb]) ∧ Dn H a.toD va ∧ Dn H b.toD vb := by
  obtain ⟨p, xs, rfl, hp, xu, r1, rfl, hu, xl, r2, rfl, hlo, va, r3, rfl, ha, vb, r4, rfl, hb, hnil⟩ := dn_tup h
  cases (show r4 = [] from hnil)
  cases (show xu = .str ("split" : Str) from hu)
  cases dn_int hlo
  exact ⟨p, va, vb, rfl, hp, ha, hb⟩
theorem broken_ware : ¬ V.str ("broken" : Str) = V.str ("ware" : Str) := vs_ne (by decide +kernel)
theorem broken_split : ¬ V.str ("broken" : Str) = V.str ("split" : Str) := vs_ne (by decide +kernel)
theorem split_ware : ¬ V.str ("split" : Str) = V.str ("ware" : Str) := vs_ne (by decide +kernel)
theorem split_broken : ¬ V.str ("split" : Str) = V.str ("broken" : Str) := vs_ne (by decide +kernel)
theorem ware_split : ¬ V.str ("ware" : Str) = V.str ("split" : Str) := vs_ne (by decide +kernel)
theorem ware_broken : ¬ V.str ("ware" : Str) = V.str ("broken" : Str) := vs_ne (by decide +kernel)
abbrev natsL (l : List Nat) : List V := l.map fun k : Nat => V.int (k : Int)
def spWithO : Sp := fun vs H Q _ => ∃ n k : Nat, vs = [.int n, .int k] ∧ k ≤ 1000 ∧ Q (.int ((n ||| 2 ^ k : Nat) : Int)) H
def spOpen : Sp := fun vs H Q _ => ∃ m y n : Nat, vs = [.int m, .int y, .int n] ∧ m ≤ 900 ∧ ∀ (l : Addr) (H' : Hp), Same H H' → H l = none → H' l = some (.lst (natsL (openL m y n))) → Q (.ref l) H'
def spFirstSB : Sp := fun vs H Q _ => ∃ (wd : Addr) (m : Nat) (ts : List Tie) (tl : Addr) (il : List Nat) (y n : Nat), vs = [.ref wd, .ref tl, .int y, .int n] ∧ WoodT H wd m ts ∧ H tl = some (.lst (natsL il)) ∧ (∀ i ∈ il, i < ts.length) ∧ ∀ H', Same H H' → Q (optN (firstSB ts il y n)) H'
def spCasesF (f : Nat) : Sp := fun vs H Q _ => ∃ (wd : Addr) (m : Nat) (ts : List Tie) (tl : Addr) (il : List Nat) (y n : Nat), vs = [.ref wd, .ref tl, .int y, .int n] ∧ WoodT H wd m ts ∧ H tl = some (.lst (natsL il)) ∧ (∀ i ∈ il, i < ts.length) ∧ (openL m y n).length ≤ f ∧ ∀ (v : V) (H' : Hp), Same H H' → Dn H' (casesF ts il m f y n).toD v → Q v H'
/-- the named ties of all of them -/
def allT (ts : List Tie) : List Nat := List.range ts.length
theorem allKeep_all (ts : List Tie) (s : Nat) : allKeep ts (allT ts) s = ts.all fun t => t.keep s := by
  unfold allKeep allT
  rw [Bool.eq_iff_iff, List.all_eq_true, List.all_eq_true]
  constructor
  · intro h t ht
    obtain ⟨i, hi, rfl⟩ := List.getElem_of_mem ht
    have := h i (List.mem_range.mpr hi)
    unfold keepAt at this
    rw [List.getElem?_eq_getElem hi] at this
    exact this
  · intro h i hi
    unfold keepAt
    rw [List.getElem?_eq_getElem (List.mem_range.mp hi)]
    exact h _ (List.getElem_mem _)
def spCases : Sp := fun vs H Q _ => ∃ (wd : Addr) (m : Nat) (ts : List Tie) (y n : Nat), vs = [.ref wd, .int y, .int n] ∧ WoodT H wd m ts ∧ m ≤ 9 ∧ ∀ (v : V) (H' : Hp), Same H H' → Dn H' (casesF ts (allT ts) m 9 y n).toD v → Q v H'
def spLeaves (f : Nat) : Sp := fun vs H Q _ => ∃ (y : Nat) (t : CT) (v : V), vs = [.int y, v] ∧ Dn H t.toD v ∧ t.depth ≤ f ∧ f ≤ 9 ∧ CT.small t ∧ ∀ (l : Addr) (H' : Hp), Same H H' → H l = none → H' l = some (.lst (natsL (t.leaves y))) → Q (.ref l) H'
end Wd

set_option maxRecDepth 100000
set_option maxHeartbeats 4000000
/-! ### N. min of a list, a list against [] -/
namespace L2
open PySem PySem.Spec PyProof.Rows
section
variable {X : Cx}
end
end L2
namespace Wd
open PySem L2 Ow
theorem scr_of {K : PySem.W.Frag} {H : Hp} {pen a : Addr} {xs : List V} {o : HO} (h : SqL K H a xs) (hp : H pen = none) : ∀ H', SameX pen (L2.upd H pen o) H' → SqL K H' a xs := fun H' s => by
  have keep : ∀ u, H a = some u → KpX pen (L2.upd H pen o) H' a u := fun u e => s a u (ne_of_none e hp) (by rw [upd_ne (ne_of_none e hp)]; exact e)
  rcases h with (h | ⟨u, h⟩) | h
  · exact .inl (.inl (keep _ h))
  · exact .inl (.inr ⟨u, keep _ h⟩)
  · exact .inr h
theorem pen_new {K : PySem.W.Frag} {H : Hp} {pen sp : Addr} {ns : List Int} (h : SqL K H sp (ns.map V.int)) (hl : ns.length ≤ 63) (hp : H pen = none) : Pen K (L2.upd H pen (.lst [.ref sp, .int 0])) pen sp ns 0 := ⟨upd_same, hl, scr_of h hp⟩
end Wd

set_option maxRecDepth 100000
set_option maxHeartbeats 4000000
/-! ### Comprehensions with cells of their own: an inner one reads their names -/
namespace L2
open PySem PySem.Spec PyProof.Rows
def retE : Option Stmt → Expr
  | some (Stmt.Return (some e) _) => e
  | _ => .Constant .none 0 ⟨0, 0, 0, 0⟩
section
variable {X : Cx} {tg iter elt : Expr} {cs : List Expr} {sc sc0 : Scope} {pos : Pos} {wi : TI} {g : TG} {tc : TT} {te : TE} {XN N' : List Str} {n : Nat} {kp : List Nat}

theorem piL {K : PySem.W.Frag} {l : Expr} {tl : TE} (hl : PE X l tl) (h : X.K = K := by rfl) : PI X tg l (iList K tl) := h ▸ pi_list hl
theorem piT {K : PySem.W.Frag} {l : Expr} {tl : TE} (hl : PE X l tl) (h : X.K = K := by rfl) : PI X tg l (iTup K tl) := h ▸ pi_tup hl
end
end L2

set_option maxRecDepth 100000
set_option maxHeartbeats 4000000
/-! ### O. What each tie's sets are, told in lists; bars -/
namespace Wd
open PySem L2 Ow
end Wd

set_option maxRecDepth 100000
set_option maxHeartbeats 4000000
/-! ### P. Ties left out; ties broken in every set of a stand, told by lists; trees of cases told so -/
namespace Wd
open PySem L2 Ow
theorem inV_nats (k : Nat) (op : List Nat) : inV (.int (k : Int)) (natsL op) = decide (k ∈ op) := by
  induction op with
  | nil => rfl
  | cons a r ih =>
    have e : inV (.int (k : Int)) (natsL (a :: r)) = (eqV (.int (a : Int)) (.int (k : Int)) || inV (.int (k : Int)) (natsL r)) := rfl
    rw [e, ih]
    have e2 : eqV (.int (a : Int)) (.int (k : Int)) = decide (k = a) := by
      show ((a : Int) == (k : Int)) = _
      by_cases z : k = a
      · subst z; simp
      · rw [decide_eq_false z]
        simpa using fun h => z (by omega)
    rw [e2]
    simp [List.mem_cons, Bool.decide_or]
theorem flat_nats (op : List Nat) : (natsL op).all flatV = true := by
  rw [List.all_eq_true]
  intro x hx
  obtain ⟨i, _, rfl⟩ := List.mem_map.mp hx
  rfl
end Wd

set_option maxRecDepth 100000
set_option maxHeartbeats 4000000
namespace L2
open PySem PySem.Spec PyProof.Rows

/-! ### lambdas -/
/-- what stands at a lambda's address -/
def lamP (f : Addr) (qual : Str) (params : Arguments) (body : Expr) (scope : Scope) (cl : List (Str × Addr)) (c : Addr) : Heap → Prop :=
  fun h => ∃ (pm ctv : Value), h.get? f = some (PySem.W.kla_obj "<lambda>" qual params body scope cl pm c ctv)
/-- what a def that makes lambdas wants of the base: its code object with the table at P, the module of the built-ins -/
structure LamB (mg : Str → Option Value) (base : Heap) (c P : Addr) : Prop where
  code : PySem.W.CodeHd base c P
  blt : ∃ bm ob, mg "__builtins__" = some (.ref bm) ∧ bm ≠ builtinsNs ∧ base.get? bm = some ob ∧ ob.cls = .type "module" ∧ ob.dict = some builtinsNs ∧ ob.data = .plain
theorem ext_ok {P : Program} {w : World} {H : Hp} {h : Heap} {a : Addr} {φ : Heap → Prop} (hH : H a = some (.ext φ)) (ok : HOk P w H h) : φ h := (ok a _ hH).1
section
variable {X : Cx} {params : Arguments} {body : Expr} {scope : Scope} {pos : Pos} {c P : Addr}
theorem pe_lam (hc : X.env.code = .ref c) (B : LamB X.mg X.base c P) (hdef : defaultsOf params X.env = ([], [])) (hfr : ∀ y ∈ scope.names, y.2 = .free → ∃ c, X.env.cells.lookup y.1 = some c) :
    PE X (.Lambda params body scope pos) (fun σ H Q => TabOk H P ∧ ∀ (f c' : Addr) (H1 : Hp), H f = none → Same H H1 →
      H1 f = some (.ext (lamP f (X.env.qual ++ "<lambda>") params body scope (clOf scope X.env) c')) → H1 c' = some (.ext (codeP c')) → Q (.ref f) H1) := by
  intro pins s σ H Q I hq
  obtain ⟨⟨ps, hP, tr, hps⟩, q⟩ := hq
  refine PySem.W.kla_eval hdef ?_
  have hP' : s.heap.get? P = some (PySem.W.tabObj ps) := I.hok P _ hP
  have hg : s.heap.Ns mainGlobals X.mg := I.mod.glob.keeps I.bk
  have C : PySem.W.CodeHd s.heap c P := B.code.keeps I.bk
  have hgP : mainGlobals ≠ P := fun z => by
    obtain ⟨o, es, ep, e, hd, _⟩ := hg
    rw [z, hP'] at e; cases e; cases hd
  have hb : s.heap.BuiltinsAt X.mg P := by
    obtain ⟨bm, ob, b1, b2, b3, b4, b5, b6⟩ := B.blt
    have b3' := I.bk _ _ b3
    refine ⟨bm, ob, b1, b2, fun z => ?_, fun z => ?_, b3', b4, b5, b6⟩
    · obtain ⟨o, es, ep, e, hd, _⟩ := hg
      rw [z, e] at b3'; cases b3'; rw [hd] at b6; cases b6
    · rw [z, hP'] at b3'; cases b3'; cases b4
  have hcl : closureFor scope X.env = pure (clOf scope X.env) := clOf_eq hfr
  rcases hps pos with hnf | ⟨c', hf, hc'⟩
  · refine PySem.W.kla_makeFunction hcl I.ok.glob hg hc C hP' tr hnf hgP hb fun c' ctv h' tk hx hge hlt hrec htb => ?_
    have szP : P < s.heap.objs.size := Heap.lt_size hP'
    have hcn : H c' = none := I.hok.fresh hge
    have hfn : H h'.objs.size = none := I.hok.fresh (Nat.le_trans hge (Nat.le_of_lt hlt))
    have cf : c' ≠ h'.objs.size := Nat.ne_of_lt hlt
    have cP : c' ≠ P := Nat.ne_of_gt (Nat.lt_of_lt_of_le szP hge)
    have fP : h'.objs.size ≠ P := Nat.ne_of_gt (Nat.lt_of_lt_of_le szP (Nat.le_trans hge (Nat.le_of_lt hlt)))
    have keep : ∀ b o, b ≠ P → s.heap.get? b = some o → (h'.push (PySem.W.kla_obj "<lambda>" (X.env.qual ++ "<lambda>") params body scope (clOf scope X.env) ((X.mg "__name__").getD .none) c' ctv)).get? b = some o := fun b o hb e => Heap.get?_push_of_some _ (hx b o hb e)
    obtain ⟨c2, oc, vs, t, e2, hoc, hd, hv⟩ := hrec
    cases e2
    -- the new abstract heap
    let H1 : Hp := upd (upd (upd H P (.tbl (ps ++ #[rawInt pos.line, rawInt pos.col, .ref c']))) c' (.ext (codeP c'))) h'.objs.size (.ext (lamP h'.objs.size (X.env.qual ++ "<lambda>") params body scope (clOf scope X.env) c'))
    have H1f : H1 h'.objs.size = some (.ext (lamP h'.objs.size (X.env.qual ++ "<lambda>") params body scope (clOf scope X.env) c')) := upd_same
    have H1c : H1 c' = some (.ext (codeP c')) := by show upd _ _ _ c' = _; rw [upd_ne cf, upd_same]
    have H1P : H1 P = some (.tbl (ps ++ #[rawInt pos.line, rawInt pos.col, .ref c'])) := by show upd _ _ _ P = _; rw [upd_ne (Ne.symm fP), upd_ne (Ne.symm cP), upd_same]
    have H1o : ∀ b, b ≠ h'.objs.size → b ≠ c' → b ≠ P → H1 b = H b := fun b n1 n2 n3 => by show upd _ _ _ b = _; rw [upd_ne n1, upd_ne n2, upd_ne n3]
    have old : ∀ b u, H b = some u → b ≠ h'.objs.size ∧ b ≠ c' := fun b u e => ⟨ne_of_none e hfn, ne_of_none e hcn⟩
    have oldE : ∀ b, H b = some (.ext (codeP b)) → H1 b = some (.ext (codeP b)) := fun b e => by rw [H1o b (old b _ e).1 (old b _ e).2 (fun z => by rw [z, hP] at e; cases e)]; exact e
    have tabs : TabOk H1 P := ⟨_, H1P, by rw [Array.toList_append]; exact TriplesOk_snoc _ _ _ _ tr, fun p' => by
      rw [Array.toList_append]
      rcases codeAmong_grow (pos := p') (pos' := pos) (c := .ref c') ps.toList tr with z | z
      · rcases hps p' with y | ⟨d, y1, y2⟩
        · exact .inl (z.trans y)
        · exact .inr ⟨d, z.trans y1, oldE d y2⟩
      · exact .inr ⟨c', z, H1c⟩⟩
    have same : Same H H1 := fun b o e => by
      by_cases hbP : b = P
      · subst hbP
        rw [hP] at e
        cases e
        exact ⟨⟨_, H1P⟩, fun _ => tabs⟩
      · exact Kp.of e (by rw [H1o b (old b _ e).1 (old b _ e).2 hbP]; exact e) oldE
    have un : Un X.fs [] H H1 s.heap (h'.push (PySem.W.kla_obj "<lambda>" (X.env.qual ++ "<lambda>") params body scope (clOf scope X.env) ((X.mg "__name__").getD .none) c' ctv)) := by
      have np : ∀ b, H b = none → b ≠ P := fun b n z => by rw [z, hP] at n; cases n
      refine ⟨fun b o e n _ _ => keep b o (np b n) e, fun b o e n _ _ => ⟨o.slots, keep b o (np b n) e⟩, fun b o e n _ => ?_, fun b o e _ => ?_, fun b xs e => ?_, fun b o u e => ?_, fun b qs e => ?_⟩
      · have l := Heap.lt_size e
        rw [H1o b (Nat.ne_of_lt (Nat.lt_trans (Nat.lt_of_lt_of_le l hge) hlt)) (Nat.ne_of_lt (Nat.lt_of_lt_of_le l hge)) (np b n)]
        exact n
      · by_cases hbP : b = P
        · subst hbP
          exact ⟨_, Heap.get?_push_of_some _ htb⟩
        · exact ⟨o, keep b o hbP e⟩
      · rw [H1o b (old b _ e).1 (old b _ e).2 (fun z => by rw [z, hP] at e; cases e)]
        exact e
      · rw [H1o b (old b _ e).1 (old b _ e).2 (fun z => by rw [z, hP] at e; cases e)]
        exact e
      · by_cases hbP : b = P
        · subst hbP
          rw [hP] at e
          cases e
          exact ⟨_, H1P⟩
        · exact ⟨#[], by rw [H1o b (old b _ e).1 (old b _ e).2 hbP, e]; simp⟩
    have hok : HOk X.prog X.w H1 (h'.push (PySem.W.kla_obj "<lambda>" (X.env.qual ++ "<lambda>") params body scope (clOf scope X.env) ((X.mg "__name__").getD .none) c' ctv)) := fun b u e => by
      by_cases h1 : b = h'.objs.size
      · subst h1
        rw [H1f] at e
        cases e
        exact ⟨⟨_, _, Heap.get?_push_size _ rfl⟩, ⟨_, Heap.get?_push_size _ rfl⟩, fun h1 h2 ⟨pm, cv, z⟩ k => ⟨pm, cv, k _ z⟩⟩
      · by_cases h2 : b = c'
        · subst h2
          rw [H1c] at e
          cases e
          exact ⟨⟨oc, vs, _, t, Heap.get?_push_of_some _ hoc, hd, hv⟩, ⟨_, Heap.get?_push_of_some _ hoc⟩, fun h1 h2 ⟨o, v, qq, tt, z1, z2, z3⟩ k => ⟨o, v, qq, tt, k _ z1, z2, z3⟩⟩
        · by_cases h3 : b = P
          · subst h3
            rw [H1P] at e
            cases e
            exact Heap.get?_push_of_some _ htb
          · rw [H1o b h1 h2 h3] at e
            refine (I.hok b u e).stay (fun b' o' hb' e' => ?_) (fun b' e' => ?_) fun b' xs e' => ?_
            · refine keep b' o' ?_ e'
              rcases hb' with z | z
              · rw [z]; exact h3
              · intro z2; rw [z2, hP] at z; cases z
            · rw [H1o b' (old b' _ e').1 (old b' _ e').2 (fun z => by rw [z, hP] at e'; cases e')]; exact e'
            · rw [H1o b' (old b' _ e').1 (old b' _ e').2 (fun z => by rw [z, hP] at e'; cases e')]; exact e'
    exact ⟨.ref h'.objs.size, H1, I.un un hok, rfl, q _ c' H1 hfn same H1f H1c⟩
  · refine PySem.W.kla_makeFunctionHit hcl I.ok.glob hg hc C hP' tr hf hb fun ctv h' tk hk hsz => ?_
    have hfn : H h'.objs.size = none := I.hok.fresh hsz
    have keep : ∀ b o, s.heap.get? b = some o → (h'.push { cls := .type "function", data := .func (PySem.W.kla_fn "<lambda>" (X.env.qual ++ "<lambda>") params body scope (clOf scope X.env) ((X.mg "__name__").getD .none) (.ref c') ctv) }).get? b = some o := fun b o e => Heap.get?_push_of_some _ (hk b o e)
    have same : Same H (upd H h'.objs.size (.ext (lamP h'.objs.size (X.env.qual ++ "<lambda>") params body scope (clOf scope X.env) c'))) := same_of fun b u e => by rw [upd_ne (ne_of_none e hfn)]; exact e
    refine ⟨.ref h'.objs.size, _, I.un (Un.laid keep hsz hfn) (I.hok.laid keep hsz ?_), rfl, q _ c' _ hfn same upd_same (same c' _ hc')⟩
    exact ⟨⟨_, _, Heap.get?_push_size _ rfl⟩, ⟨_, Heap.get?_push_size _ rfl⟩, fun h1 h2 ⟨pm, cv, z⟩ k => ⟨pm, cv, k _ z⟩⟩
end
/-! ### a call with a base that holds all that is untracked now -/
/-- all that is untracked and no frame -/
def baseNow (h : Heap) (H : Hp) (st : List Env) : Heap := PySem.W.hideAll h (trk h H ++ frs st)
section
variable {X : Cx} {pins : List (Addr × Obj)} {σ : St} {H : Hp} {s : Shared}
theorem of_baseNow {h : Heap} {H : Hp} {st : List Env} {b : Addr} {o : Obj} (e : (baseNow h H st).get? b = some o) : h.get? b = some o ∧ H b = none ∧ b ∉ frs st := by
  have e' : h.get? b = some o := PySem.W.of_hideAll _ e
  refine ⟨e', ?_, fun z => ?_⟩
  · cases q : H b with
    | none => rfl
    | some x =>
      have hm : b ∈ trk h H := List.mem_filter.mpr ⟨List.mem_range.mpr (Heap.lt_size e'), by simp [q]⟩
      have z : (baseNow h H st).get? b = none := PySem.W.hideAll_none _ (List.mem_append_left _ hm)
      rw [z] at e; cases e
  · have y : (baseNow h H st).get? b = none := PySem.W.hideAll_none _ (List.mem_append_right _ z)
    rw [y] at e; cases e
theorem baseNow_get {h : Heap} {H : Hp} {st : List Env} {b : Addr} {o : Obj} (e : h.get? b = some o) (n : H b = none) (hf : b ∉ frs st) : (baseNow h H st).get? b = some o :=
  PySem.W.hideAll_get _ e fun hm => by
    rcases List.mem_append.mp hm with z | z
    · have q : (H b).isSome = true := (List.mem_filter.mp z).2
      rw [n] at q; simp at q
    · exact hf z
theorem Inv.noStk (I : Inv X pins σ H s) {b : Addr} {o : Obj} (e : X.base.get? b = some o) : b ∉ frs X.stack := fun hb => by
  have := (I.stack.mem hb).1
  rw [e] at this; cases this
theorem Inv.now (I : Inv X pins σ H s) : Env0 X.prog X.w X.K X.mg (baseNow s.heap H X.stack) X.A X.stack s H := by
  have up : ∀ b o, X.base.get? b = some o → (baseNow s.heap H X.stack).get? b = some o := fun b o e => baseNow_get (I.bs b o e).1 (I.bs b o e).2 (I.noStk e)
  obtain ⟨mb, h1, h2⟩ := I.mod.blt
  refine ⟨I.ok.frames, ⟨I.mod.kin.keeps up, I.mod.glob.keeps up, ⟨mb, h1.keeps up, h2⟩, I.mod.nolimit.keeps up⟩, fun b o e => ⟨(of_baseNow e).1, (of_baseNow e).2.1⟩, Nat.le_of_eq (PySem.W.hideAll_size _ _), ?_, I.stkFree, I.hok, I.bare⟩
  have go : ∀ l : List Env, (∀ b ∈ frs l, b ∈ frs X.stack) → s.heap.FunFrames X.base l → s.heap.FunFrames (baseNow s.heap H X.stack) l := by
    intro l
    induction l with
    | nil => intro _ _; trivial
    | cons env r ih =>
      intro hs hl
      obtain ⟨hk, ⟨L, o, hf, hn, ho, hd⟩, hr⟩ := hl
      have hL : L ∈ frs X.stack := hs L (by unfold frs; rw [List.filterMap_cons, hf]; exact List.mem_cons_self)
      refine ⟨hk, ⟨L, o, hf, ?_, ho, hd⟩, ih (fun b hb => hs b (by unfold frs; rw [List.filterMap_cons, hf]; exact List.mem_cons_of_mem _ hb)) hr⟩
      exact PySem.W.hideAll_none _ (List.mem_append_right _ hL)
  exact go X.stack (fun _ h => h) I.stack
/-- a cell of the def that runs is in that base -/
theorem Inv.nowCell (I : Inv X pins σ H s) {x : Str} {c : Addr} {v : Option Value} (hf : X.fn x = true) (hc : X.env.cells.lookup x = some c) (h : s.heap.IsCell c v) : (baseNow s.heap H X.stack).IsCell c v := by
  obtain ⟨o, ho, hd⟩ := h
  refine ⟨o, baseNow_get ho (I.freeC x c hc) fun z => ?_, hd⟩
  rcases List.mem_cons.mp (I.stkSub c z) with e | e
  · exact I.cne x c hc e
  · obtain ⟨_, ob, e2, _⟩ := I.ok.funs.mem e
    exact absurd (Nat.lt_of_lt_of_le (Heap.lt_size e2) (I.ok.cab x c hf hc)) (Nat.lt_irrefl _)
end
section
variable {X : Cx} {k : Nat} {f : Addr} {fd : FuncData} {ps : List Str} {x : Str} {p pos : Pos} {e : Expr} {es : List Expr} {t : TA}
/-- the values of the def's cells, in a base -/
def CellsIn (X : Cx) (σ : St) (base : Heap) : Prop := ∀ (i : Nat) (y : Str) (v : V), X.N[i]? = some y → σ[i]? = some (some v) → X.env.kindOf y = some .cell → ∃ c u, X.env.cells.lookup y = some c ∧ RelV v u ∧ base.IsCell c (some u)
/-- f(..), where the callee's promise may hang on what is untracked now -/
theorem pe_callW (hr : Room k X.A) (hg : Gl X x) (hm : X.mg x = some (.ref f)) (hk : PySem.W.keepIn X.K (.ref f) = true) (hb : Binds X.K fd ps []) (hfn : ∀ y, X.fn y = true)
    (ha : PA X (e :: es) t) (hdb : (x == ("__debug__" : Str)) = false := by decide) (he : starEach (e :: es) X.env = (false, eval e X.env) :: starEach es X.env := by rfl) (hpl : (backTo pos (starEach es X.env)).any (·.1) = false := by rfl) :
    PE X (.Call (.Name x p) (e :: es) [] pos) (fun σ H Q => t σ H fun vs H1 => ∀ base : Heap, CellsIn X σ base → X.K.In base → base.Ns mainGlobals X.mg → ∃ sp : Sp, FnOk X.prog X.w X.K X.mg base CX0 k f fd ps sp ∧ sp vs H1 Q E0) := by
  intro pins s σ H Q I h
  refine wpAny_Call_Name_kw (ld_glob I hg hm ?_ hdb)
  refine PySem.W.callWith_K (h₀ := X.base) I.ok.mod.kin hk (thn (ha pos pins s σ H _ I h) fun us s1 ⟨vs, H1, I1, r, q⟩ => ⟨I1.kIn, ?_⟩) he hpl
  have e0 := I1.now
  have ci : CellsIn X σ (baseNow s1.heap H1 X.stack) := fun i y v hN hv hk => by
    obtain ⟨m, hn, hl⟩ := I1.loc
    obtain ⟨u, ru, l⟩ := hl i y v hN hv (.inr (.inl hk))
    rcases l with ⟨hk', _⟩ | ⟨_, c, hc, hcell⟩
    · rw [hk] at hk'; cases hk'
    · exact ⟨c, u, hc, ru, I1.nowCell (hfn y) hc hcell⟩
  obtain ⟨sp, F, hs⟩ := q _ ci e0.mod.kin e0.mod.glob
  have hl : us.length = ps.length := by rw [← r.length]; exact F.len _ _ _ _ hs
  have hbb := hb s1 us I1.kIn (by rw [List.append_nil]; exact hl)
  rw [List.append_nil] at hbb
  refine wpAny_call (codeAny_mono (F.run X.A X.stack s1 H1 ⟨us, []⟩ us vs Q E0 hr e0 hbb r hs) fun r s' hq => ?_)
  cases r with
  | error e => exact hq.elim
  | ok fl =>
    cases fl with
    | ret u => exact I1.after hq
    | next => exact False.elim hq
    | brk => exact False.elim hq
    | cont => exact False.elim hq
/-- x(..), x a name of the def that holds a function which was made -/
theorem pe_callV {i : Nat} {φ : Heap → Prop} {sp : Sp} (F : FnOk X.prog X.w X.K X.mg X.base CX0 k f fd ps sp) (hr : Room k X.A) (hN : X.N[i]? = some x) (hv : Vis X.env.scope x) (hb : Binds X.K fd ps [])
    (hφ : ∀ h : Heap, φ h → ∃ o fd', h.get? f = some o ∧ o.data = .func fd') (ha : PA X (e :: es) t)
    (hdb : (x == ("__debug__" : Str)) = false := by decide) (hcd : (x == ("__classdict__" : Str)) = false := by decide) (he : starEach (e :: es) X.env = (false, eval e X.env) :: starEach es X.env := by rfl) (hpl : (backTo pos (starEach es X.env)).any (·.1) = false := by rfl) :
    PE X (.Call (.Name x p) (e :: es) [] pos) (fun σ H Q => σ[i]? = some (some (.ref f)) ∧ t σ H fun vs H1 => H1 f = some (.ext φ) ∧ sp vs H1 Q E0) := by
  intro pins s σ H Q I h
  obtain ⟨hσ, h⟩ := h
  refine wpAny_Call_Name_kw (wpAny_mono (pe_var hN hv hdb hcd pins s σ H (fun v H' => v = .ref f ∧ H' = H) I ⟨_, hσ, rfl, rfl⟩) (fun u s1 hu => ?_) fun _ _ z => z)
  obtain ⟨v, H', I', rv, e1, e2⟩ := hu
  subst e1
  subst e2
  obtain rfl : u = Value.ref f := rv
  have h2 : wpAny (model X.prog X.w) X.A (spliced (backTo pos (starEach (e :: es) X.env))) (fun vs s₁ => (∃ o fd', s₁.heap.get? f = some o ∧ o.data = .func fd') ∧ wpAny (model X.prog X.w) X.A (call (.ref f) ([] ++ vs)) (EP X pins σ Q) X.xe s₁) X.xe s1 := by
    refine thn (ha pos pins s1 σ _ _ I' h) fun us s2 ⟨vs, H1, I1, r, e3, q⟩ => ⟨hφ _ (ext_ok e3 I1.hok), ?_⟩
    have hq := run_fn (ds := []) (dvs := []) (E := E0) F hr hb .nil pass0 I1 r (by rw [List.append_nil]; exact q)
    exact hq
  rw [he] at h2
  show wpAny _ _ (callWith pos (.ref f) [] (backTo pos (starEach (e :: es) X.env)) []) _ _ s1
  rw [he]
  refine PySem.W.callWith_of (by show ((false || (backTo pos (starEach es X.env)).any (·.1)) || false) = false; rw [hpl]; rfl) (P := fun h => ∃ o fd', h.get? f = some o ∧ o.data = .func fd') (fun h ⟨o, fd', e1, e2⟩ => ?_) (Calls.evalArgs_plain h2)
  obtain ⟨oc, od, od', os⟩ := o
  cases e2
  exact ⟨.frame, .inl rfl, (PySem.W.Looks.ld (part := none) e1).andThen .now⟩
end

/-! ### a lambda keeps its promise -/
structure LamScope (ps fr : List Str) (sc : Scope) : Prop where
  kind : sc.kind = .function
  co : sc.isCoroutine = false
  gen : sc.isGenerator = false
  nd : ps.Nodup
  par : ∀ x ∈ ps, sc.names.lookup x = some .local
  fre : ∀ x ∈ fr, sc.names.lookup x = some .free
  nocell : ∀ y ∈ sc.names, y.2 ≠ .cell
theorem rev_lookup_zip {ps : List Str} {us : List Value} {i : Nat} {x : Str} {u : Value} (nd : ps.Nodup) (h1 : ps[i]? = some x) (h2 : us[i]? = some u) : (ps.zip us).reverse.lookup x = some u := by
  have hm : (x, u) ∈ (ps.zip us).reverse := List.mem_reverse.mpr (List.mem_of_getElem? (i := i) (by rw [List.getElem?_zip_eq_some]; exact ⟨h1, h2⟩))
  obtain ⟨c, hc⟩ := lookup_some hm
  have h3 := List.mem_reverse.mp (PySem.mem_of_lookup hc)
  obtain ⟨j, hj⟩ := List.getElem?_of_mem h3
  rw [List.getElem?_zip_eq_some] at hj
  have hij : j = i := by
    obtain ⟨l1, e1⟩ := List.getElem?_eq_some_iff.mp h1
    obtain ⟨l2, e2⟩ := List.getElem?_eq_some_iff.mp hj.1
    rw [List.nodup_iff_pairwise_ne, List.pairwise_iff_getElem] at nd
    rcases Nat.lt_trichotomy j i with z | z | z
    · exact absurd (e2.trans e1.symm) (nd j i l2 l1 z)
    · exact z
    · exact absurd (e1.trans e2.symm) (nd i j l1 l2 z)
  rw [hij, h2] at hj
  rw [hc, hj.2]
/-- a lambda's body, running -/
def cxLam (P : Program) (w : World) (K : PySem.W.Frag) (mg : Str → Option Value) (base : Heap) (N : List Str) (q : Str) (scope : Scope) (f c : Addr) (cl : List (Str × Addr)) (A : Around) (outer : List Env) (s : Shared) (H : Hp) : Cx where
  prog := P
  w := w
  K := K
  mg := mg
  base := base
  A := A.deeper (PySem.W.envX q scope s.heap.objs.size f (.ref c) cl)
  N := N
  s₀ := s
  H₀ := H
  env := PySem.W.envX q scope s.heap.objs.size f (.ref c) cl
  outer := outer
  stack := PySem.W.envX q scope s.heap.objs.size f (.ref c) cl :: outer
  ex := []
  calm := true
  fn := fun _ => false
  pn := []
  xe := fun _ _ => False
theorem callFunQ {prog : Program} {w : World} {A : Around} {R : Result → Shared → Prop} {s : Shared} {a : Addr} {args : Args} {o : Obj} {fd : FuncData} {body : Expr} {q : Str} (hroom : A.depth < recursionLimit)
    (ho : s.heap.get? a = some o)
    (hd' : o.data = .func fd) (hco : fd.scope.isCoroutine = false) (hgen : fd.scope.isGenerator = false) (hbody : fd.body = .expr body) (hcd : ∃ c oc vs t, fd.code = .ref c ∧ s.heap.get? c = some oc ∧ oc.data = .fields vs ∧ vs[1]? = some (.str q t))
    (h : wpAny (model prog w) A.in1 (bindArgs fd args) (fun binds s₁ =>
      wpAny (model prog w) A.in1 (newFunctionEnv fd.scope fd.globals fd.closure binds (q ++ ".<locals>.") (some a) fd.code none fd.builtins)
        (fun env s₂ => s₂.heap.NoLimit ∧ codeAny (model prog w) A (.expr body env) R s₂) (fun e s' => R (.error e) s') s₁) (fun e s' => R (.error e) s') s) :
    codeAny (model prog w) A (.call (.ref a) args) R s := by
  refine codeAny_of_tree ?_
  show wpAny _ A.in1 (callAny (.ref a) args) _ _ s
  simp only [callAny]
  refine wpAny_bind (wpAny_load ho ?_)
  obtain ⟨c, oc, vs, tq, hc, hoc, hdc, hq⟩ := hcd
  simp only [hd', callFunction, hco, hgen, hbody, hc]
  rw [hc] at h
  refine wpAny_bind (m := field (.ref c) 1) (wpAny_field hoc hdc hq (wpAny_bind (wpAny_pure ?_)))
  exact wpAny_bind (wpAny_mono h (fun binds s₁ h₁ => wpAny_bind (wpAny_mono h₁ (fun env s₂ h₂ => wpAny_bind (wpAny_enterFrame h₂.1 hroom
    (wpAny_pure (And.intro rfl h₂.2)))) fun _ _ h' => h')) fun _ _ h' => h')
theorem lam_ok {P : Program} {w : World} {K : PySem.W.Frag} {mg : Str → Option Value} {base : Heap} {f c : Addr} {qual : Str} {params : Arguments} {body : Expr} {scope : Scope} {cl : List (Str × Addr)} {ps fr : List Str} {fv : List V} {k : Nat} {sp : Sp}
    (S : LamScope ps fr scope) (hcl : ∀ x cc, cl.lookup x = some cc → ∃ v, base.IsCell cc v) (inj : ∀ x y cc, cl.lookup x = some cc → cl.lookup y = some cc → x = y) (has : ∀ y ∈ scope.names, y.2 = .free → ∃ cc, cl.lookup y.1 = some cc)
    (hfv : ∀ (i : Nat) (x : Str) (v : V), fr[i]? = some x → fv[i]? = some v → ∃ cc u, cl.lookup x = some cc ∧ RelV v u ∧ base.IsCell cc (some u)) (hlen : fv.length = fr.length)
    (hsame : ∀ pm ctv args, bindArgs (PySem.W.kla_fn "<lambda>" qual params body scope cl pm (.ref c) ctv) args = bindArgs (PySem.W.kla_fn "<lambda>" qual params body scope cl .none (.ref c) .none) args)
    (len : ∀ vs H Q E, sp vs H Q E → vs.length = ps.length)
    (lam : ∀ vs H Q E, sp vs H Q E → H f = some (.ext (lamP f qual params body scope cl c)) ∧ H c = some (.ext (codeP c)))
    (hbody : ∀ (q : Str) (A : Around) (outer : List Env) (s : Shared) (H : Hp) (vs : List V) (Q : VK) (E : XK), Room k (A.deeper (PySem.W.envX q scope s.heap.objs.size f (.ref c) cl)) → sp vs H Q E →
      ∃ t, PE (cxLam P w K mg base (ps ++ fr) q scope f c cl A outer s H) body t ∧ t (vs.map some ++ fv.map some) H Q) :
    FnOk P w K mg base CX0 (k + 1) f (PySem.W.kla_fn "<lambda>" qual params body scope cl .none (.ref c) .none) ps sp := by
  refine ⟨len, fun A outer s H args us vs Q E hr e0 hb r hsp => ?_⟩
  have hl := len _ _ _ _ hsp
  obtain ⟨hf, hc⟩ := lam _ _ _ _ hsp
  obtain ⟨pm, ctv, ho⟩ := ext_ok hf e0.hok
  obtain ⟨oc, vsc, q, t, hoc, hdc, hqc⟩ := ext_ok hc e0.hok
  have lim : s.heap.NoLimit := e0.mod.nolimit.keeps fun b o e => (e0.bs b o e).1
  have toS : ∀ {cc v}, base.IsCell cc v → s.heap.IsCell cc v ∧ H cc = none := fun {cc v} ⟨o, e, d⟩ => ⟨⟨o, (e0.bs _ _ e).1, d⟩, (e0.bs _ _ e).2⟩
  refine callFunQ hr.depth ho rfl S.co S.gen rfl ⟨c, oc, vsc, t, rfl, hoc, hdc, hqc⟩ ?_
  rw [hsame]
  refine hb _ _ _ _ ?_
  have hloc : ∀ y ∈ ps.zip us, scope.names.lookup y.1 = some .local := fun ⟨n, v⟩ hy => S.par n (List.of_mem_zip hy).1
  refine wpAny_newFunctionEnv S.nocell hloc (fun h₁ hns hsb => ?_) S.kind
  have hk₁ : ∀ b o, s.heap.get? b = some o → h₁.get? b = some o := fun b o e => hsb.extBut b o (Nat.ne_of_lt (Heap.lt_size e)) (Heap.get?_push_of_some _ e)
  refine ⟨lim.keeps hk₁, ?_⟩
  obtain ⟨tt, ht, hq⟩ := hbody q A outer s H vs Q E (hr.deeper _) hsp
  have noA : ∀ b : Addr, b ∉ ([] : List Addr) := fun b z => by simp at z
  have kinds : ∀ x, (scope.names.lookup x = some .cell ∨ scope.names.lookup x = some .free) → ∃ cc, cl.lookup x = some cc := fun x hx => by
    rcases hx with z | z
    · exact absurd rfl (S.nocell _ (PySem.mem_of_lookup z))
    · exact has _ (PySem.mem_of_lookup z) rfl
  have I : Inv (cxLam P w K mg base (ps ++ fr) q scope f c cl A outer s H) [] (vs.map some ++ fv.map some) H { s with heap := h₁, toks := s.toks + (ps.zip us).length } := by
    refine ⟨⟨e0.mod, S.kind, rfl, rfl, Nat.le_refl _, inj, kinds, fun x cc z => (by cases z), fun _ => hr.hd, Around.frames_deeper e0.frames, .inr ⟨rfl, rfl⟩, fun b z => absurd z (noA b), e0.bs, e0.bsz, fun b _ _ => noA b, fun b z => absurd z (noA b), e0.funs, e0.frf⟩,
      rfl, e0.bare, Un.kept hk₁, ⟨_, hns, fun i x v h1 h2 h3 => ?_⟩, fun x cc e => ?_, e0.hok.fresh (Nat.le_refl _), fun x cc e => ?_, fun p hp => absurd (show p ∈ ([] : List (Addr × Obj)) from hp) (by simp), e0.hok.kept hk₁, ?_⟩
    · have h1' : (ps ++ fr)[i]? = some x := h1
      by_cases hi : i < ps.length
      · rw [List.getElem?_append_left hi] at h1'
        rw [List.getElem?_append_left (by rw [List.length_map, hl]; exact hi), List.getElem?_map] at h2
        obtain ⟨v', hv, e⟩ := Option.map_eq_some_iff.mp h2
        cases e
        obtain ⟨u, hu, rv⟩ := r.get hv
        exact ⟨u, rv, .inl ⟨S.par x (List.mem_of_getElem? h1'), rev_lookup_zip S.nd h1' hu⟩⟩
      · rw [List.getElem?_append_right (by omega)] at h1'
        rw [List.getElem?_append_right (by rw [List.length_map, hl]; omega), List.getElem?_map, List.length_map, hl] at h2
        obtain ⟨v', hv, e⟩ := Option.map_eq_some_iff.mp h2
        cases e
        obtain ⟨cc, u, e1, ru, ic⟩ := hfv _ _ _ h1' hv
        exact ⟨u, ru, .inr ⟨.inr (S.fre x (List.mem_of_getElem? h1')), cc, e1, (toS ic).1.keeps hk₁⟩⟩
    · obtain ⟨v, ic⟩ := hcl x cc e
      exact ⟨v, (toS ic).1.keeps hk₁⟩
    · obtain ⟨v, ic⟩ := hcl x cc e
      exact (toS ic).2
    · show (vs.map some ++ fv.map some).length = (ps ++ fr).length
      rw [List.length_append, List.length_append, List.length_map, List.length_map, hl, hlen]
  refine PySem.W.kla_codeExpr (wpAny_mono (ht [] _ _ H _ I hq) (fun u s' hs => ?_) fun e s' hs => hs.elim)
  obtain ⟨v, H', J, rv, qq⟩ := hs
  exact ⟨v, H', J.os, J.bare, J.base, J.hok, rv, qq⟩

/-! ### a def that makes lambdas: its code object is known -/
theorem Fun.okC {P : Program} {w : World} {K : PySem.W.Frag} {mg : Str → Option Value} {base : Heap} {x qual : Str} {st : Stmt} {f : Addr} {fd : FuncData} {N ps : List Str} {k : Nat} {sp : Sp} (F : Fun K x qual st f fd) (S : FnScope N ps (defScope st)) (len : ∀ vs H Q E, sp vs H Q E → vs.length = ps.length)
    (hbody : ∀ (cdv : Value) (A : Around) (outer : List Env) (s : Shared) (H : Hp) (vs : List V) (Q : VK) (E : XK), fd.code = cdv → Room k (A.deeper (envOfC qual (defScope st) s.heap.objs.size f cdv)) → sp vs H Q E →
      ∃ t, PSs (cxOf CX0 P w K mg base N qual (defScope st) f cdv A outer s H E).nox (defBody st) t ∧ t { nx := fun _ H' => Q .non H', rt := Q } (start N vs) H) : FnOk P w K mg base CX0 (k + 1) f fd ps sp := by
  obtain ⟨oc, od, kV, doc, pm, an, cdv, ct, osl, rfl, lk, hcd⟩ := F.ex
  refine fn_of lk hcd S len fun A outer s H vs Q E hr hsp => ?_
  obtain ⟨t, h, q⟩ := hbody cdv A outer s H vs Q E rfl hr hsp
  exact ⟨t, h.nox, q⟩
/-! ### the head of a law that comes to lambdas: the tables of their defs are tracked -/
theorem law_callT {P : Program} {w : World} {K : PySem.W.Frag} {mg mb : Str → Option Value} {k : Nat} {fa a : Addr} {fd : FuncData} {x : Str} {sp : Sp} {s₁ : Shared} {vs : List Value} {ns : List Int} {tabs : List (Addr × Addr)}
    (KX : K.In s₁.heap) (hns : s₁.heap.Ns mainGlobals mg) (hb : s₁.heap.Ns builtinsNs mb) (hbb : ∀ x : Str, x ≠ "__name__" → mb x = bootBuiltins x) (hlim : s₁.heap.NoLimit) (hg : s₁.gens = #[])
    (hT : PySem.W.TabsAt tabs s₁.heap) (hK0 : PySem.W.noTabs K = true)
    (hbm : ∃ bm ob, mg "__builtins__" = some (.ref bm) ∧ bm ≠ builtinsNs ∧ s₁.heap.get? bm = some ob ∧ ob.cls = .type "module" ∧ ob.dict = some builtinsNs ∧ ob.data = .plain)
    (ha : s₁.heap.get? a = some { cls := .type "list", data := .seq vs.toArray }) (hi : IntsAre vs ns) (hl : ns.length ≤ sizeLine) (hr : Room k callerA)
    (F : ∀ base : Heap, K.In base → base.Ns mainGlobals mg → (∀ q ∈ tabs, LamB mg base q.1 q.2) → FnOk P w K mg base CX0 k fa fd [x] sp) (hbind : ∀ (s : Shared) (u : Value), BindsTo s fd ⟨[u], []⟩ [(x, u)])
    (hsp : ∀ H : Hp, (∀ q ∈ tabs, TabOk H q.2) → SqL K H a (ns.map V.int) → sp [.ref a] H (fun v _ => v = .bl true) fun _ _ _ => False) :
    codeAny (model P w) callerA (.call (.ref fa) ⟨[.ref a], []⟩) (fun r s' => r = .ok (.ret (.bool true)) ∧ OldK s₁.heap s'.heap ∧ s'.os = s₁.os ∧ AllBare s'.gens) s₁ := by
  have rv := vals_ints hi
  have lenV := hi.length
  have hPa : ∀ q ∈ tabs, q.2 ≠ a := fun q hq z => by
    have e := (hT q hq).2
    rw [z, ha] at e; cases e
  have hKP : ∀ q ∈ tabs, K.lookup q.2 = none := fun q hq => by
    cases e : K.lookup q.2 with
    | none => rfl
    | some o =>
      have e1 := KX _ _ e
      rw [(hT q hq).2] at e1
      cases e1
      have h2 := List.all_eq_true.mp hK0 (q.2, _) (PySem.W.mem_of_lookupK e)
      exact absurd (show false = true from h2) Bool.false_ne_true
  have core : ∀ H : Hp, (∀ b, H b = none ∨ (∃ o xs, H b = some (.frz o (.lst xs)) ∧ b = a ∧ K.lookup a = none) ∨ (H b = some (.tbl #[]) ∧ b ∈ tabs.map (·.2))) → (∀ q ∈ tabs, H q.2 = some (.tbl #[])) → SqL K H a (ns.map V.int) → HOk P w H s₁.heap →
      codeAny (model P w) callerA (.call (.ref fa) ⟨[.ref a], []⟩) (fun r s' => r = .ok (.ret (.bool true)) ∧ OldK s₁.heap s'.heap ∧ s'.os = s₁.os ∧ AllBare s'.gens) s₁ := by
    intro H hO hTb hS hok
    have noP : ∀ {b : Addr} {o : Obj}, s₁.heap.get? b = some o → o ≠ PySem.W.tabObj #[] → b ≠ a → H b = none := fun {b o} e hne hba => by
      rcases hO b with z | ⟨_, _, _, z, _⟩ | ⟨_, z⟩
      · exact z
      · exact absurd z hba
      · obtain ⟨q, hq, rfl⟩ := List.mem_map.mp z
        rw [(hT q hq).2] at e
        exact absurd (Option.some.inj e).symm hne
    have base_of : ∀ {b : Addr} {o : Obj}, s₁.heap.get? b = some o → H b = none → (hidT s₁.heap H).get? b = some o := fun e n => hidT_get e n
    have noA : ∀ {b : Addr} {o : Obj} {es : Array DictEntry} {ep : Nat}, s₁.heap.get? b = some o → o.data = .dict es ep → H b = none := fun {b o es ep} e d => by
      refine noP e (fun z => by rw [z] at d; cases d) fun z => ?_
      subst z
      rw [ha] at e; cases e; cases d
    have nsK : ∀ {b : Addr} {m : Str → Option Value}, s₁.heap.Ns b m → (hidT s₁.heap H).Ns b m := fun {b m} ⟨o, es, ep, e, d, r⟩ => ⟨o, es, ep, base_of e (noA e d), d, r⟩
    have hKb : K.In (hidT s₁.heap H) := fun b o e => base_of (KX b o e) (by
      rcases hO b with z | ⟨_, _, _, z, y⟩ | ⟨_, z⟩
      · exact z
      · rw [z, y] at e; cases e
      · obtain ⟨q, hq, rfl⟩ := List.mem_map.mp z
        rw [hKP q hq] at e; cases e)
    have hM : Mod K mg (hidT s₁.heap H) := ⟨hKb, nsK hns, ⟨mb, nsK hb, hbb⟩, let ⟨mc, h1, h2⟩ := hlim; ⟨mc, nsK h1, h2⟩⟩
    have hL : ∀ q ∈ tabs, LamB mg (hidT s₁.heap H) q.1 q.2 := fun q hq => by
      refine ⟨?_, ?_⟩
      · obtain ⟨o, ws, file, tf, flags, tg, inF, text, tt, e, e1, r⟩ := (hT q hq).1
        refine ⟨o, ws, file, tf, flags, tg, inF, text, tt, base_of e (noP e (fun z => by rw [z] at e1; cases e1) fun z => ?_), e1, r⟩
        rw [z, ha] at e; cases e; exact absurd e1 (by simp)
      · obtain ⟨bm, ob, b1, b2, b3, b4, b5⟩ := hbm
        refine ⟨bm, ob, b1, b2, base_of b3 (noP b3 (fun z => by rw [z] at b4; cases b4) fun z => ?_), b4, b5⟩
        rw [z, ha] at b3; cases b3; exact absurd b4 (by simp)
    have e0 : Env0 P w K mg (hidT s₁.heap H) callerA [] s₁ H := ⟨rfl, hM, fun b o e => of_hidT e, Nat.le_of_eq (hidT_size _ _), trivial, fun b hb => absurd (show b ∈ ([] : List Addr) from hb) (by simp), hok, .of_eq hg⟩
    have tk : ∀ q ∈ tabs, TabOk H q.2 := fun q hq => ⟨#[], hTb q hq, trivial, fun _ => .inl rfl⟩
    refine codeAny_mono ((F _ hKb (nsK hns) hL).run callerA [] s₁ H ⟨[.ref a], []⟩ [.ref a] [.ref a] _ _ hr e0 (hbind s₁ (.ref a)) (.cons rfl .nil) (hsp H tk hS)) fun r s' h => ?_
    cases r with
    | error e => exact h.elim
    | ok fl =>
      cases fl with
      | next => exact False.elim h
      | brk => exact False.elim h
      | cont => exact False.elim h
      | ret u =>
        obtain ⟨v, H', os, bare, un, hok', r', q⟩ := h
        have q' : v = .bl true := q
        subst q'
        obtain rfl : u = Value.bool true := r'
        have cases3 : ∀ b o, s₁.heap.get? b = some o → s'.heap.get? b = some o ∨ (∃ q ∈ tabs, b = q.2 ∧ ∃ ps, s'.heap.get? b = some (PySem.W.tabObj ps)) := fun b o e => by
          rcases hO b with z | ⟨ob, xs, z, _⟩ | ⟨z, y⟩
          · exact .inl (un.keep b o e z (by intro z; exact absurd (show b ∈ ([] : List Addr) from z) (by simp)) (by simp))
          · have z2 := un.frzs b ob _ z
            obtain ⟨e1, _⟩ := hok b _ z
            obtain ⟨e2, _⟩ := hok' b _ z2
            rw [e] at e1; cases e1
            exact .inl e2
          · obtain ⟨q, hq, rfl⟩ := List.mem_map.mp y
            obtain ⟨more, z2⟩ := un.tbls _ _ z
            exact .inr ⟨q, hq, rfl, _, hok' _ _ z2⟩
        refine ⟨rfl, ⟨fun b o e => ?_, fun b o e => ?_⟩, os, bare⟩
        · rcases cases3 b o e with z | ⟨q, hq, rfl, ps, z⟩
          · exact .inl z
          · have e2 := (hT q hq).2
            rw [e] at e2
            cases e2
            exact .inr (.inl ⟨((hT q hq).1.tab (hT q hq).2).isCodeTable, rfl, #[], ps, rfl, by rw [Array.empty_append]; exact z⟩)
        · rcases cases3 b o e with z | ⟨q, hq, rfl, ps, z⟩
          · exact ⟨_, z⟩
          · exact ⟨_, z⟩
  have memT : ∀ b, b ∈ tabs.map (·.2) → s₁.heap.get? b = some (PySem.W.tabObj #[]) := fun b hb => by
    obtain ⟨q, hq, rfl⟩ := List.mem_map.mp hb
    exact (hT q hq).2
  cases hk : K.lookup a with
  | some o =>
    have e := KX a o hk
    rw [ha] at e
    cases e
    refine core (fun b => if b ∈ tabs.map (·.2) then some (.tbl #[]) else none) (fun b => ?_) (fun q hq => if_pos (List.mem_map_of_mem hq)) (.inr ⟨_, vs.toArray, _, hk, rfl, rfl, rfl, by rw [List.size_toArray, lenV]; exact hl, by simpa using rv⟩) (fun b u z => ?_)
    · by_cases hb : b ∈ tabs.map (·.2)
      · exact .inr (.inr ⟨if_pos hb, hb⟩)
      · exact .inl (if_neg hb)
    · by_cases hb : b ∈ tabs.map (·.2)
      · have z' := (if_pos hb).symm.trans z
        cases z'
        exact memT b hb
      · have z' := (if_neg hb).symm.trans z
        cases z'
  | none =>
    refine core (fun b => if b = a then some (.frz { cls := .type "list", data := .seq vs.toArray } (.lst (ns.map V.int))) else if b ∈ tabs.map (·.2) then some (.tbl #[]) else none) (fun b => ?_) (fun q hq => ?_) (.inl (.inr ⟨{ cls := .type "list", data := .seq vs.toArray }, if_pos rfl⟩)) (fun b u z => ?_)
    · by_cases hb : b = a
      · exact .inr (.inl ⟨_, _, if_pos hb, hb, hk⟩)
      · by_cases hb2 : b ∈ tabs.map (·.2)
        · exact .inr (.inr ⟨(if_neg hb).trans (if_pos hb2), hb2⟩)
        · exact .inl ((if_neg hb).trans (if_neg hb2))
    · exact (if_neg (hPa q hq)).trans (if_pos (List.mem_map_of_mem hq))
    · by_cases hb : b = a
      · have z' := (if_pos hb).symm.trans z
        cases z'
        subst hb
        exact ⟨ha, by rw [List.length_map]; exact hl, vs, _, rv, ha⟩
      · have z1 := (if_neg hb).symm.trans z
        by_cases hb2 : b ∈ tabs.map (·.2)
        · have z' := (if_pos hb2).symm.trans z1
          cases z'
          exact memT b hb2
        · have z' := (if_neg hb2).symm.trans z1
          cases z'
/-- the goal that k_head leaves, of a law that comes to lambdas; x the defs that make them -/
theorem walk_ofT {l : PySem.W.OpenLaw} {n k : Nat} {q : Program} {loose : List Str} {XP : (Str → Option Value) → Heap → Prop} {YP : World → Heap → Prop} {d : DefRec} {K : Params → PySem.W.Frag} {sp : World → Sp} {x : Str} {tabs : World → List (Addr × Addr)}
    (hn : l.most = some n) (hn2 : n ≤ sizeLine) (hdf : d.params.defaults = []) (hr : Room k callerA)
    (hY : ∀ (w : World) (h : Heap), YP w h → (K w.params).In h) (hK0 : ∀ w : World, PySem.W.noTabs (K w.params) = true)
    (hT : ∀ (w : World) (h : Heap), YP w h → PySem.W.TabsAt (tabs w) h)
    (F : ∀ (w : World) (mg : Str → Option Value) (fa : Addr) (h : Heap), (K w.params).In h → h.Ns mainGlobals mg → mg d.name = some (.ref fa) →
      ∃ fd : FuncData, (∀ (s : Shared) (u : Value), BindsTo s fd ⟨[u], []⟩ [(x, u)]) ∧
        ∀ base : Heap, (K w.params).In base → base.Ns mainGlobals mg → (∀ p ∈ tabs w, LamB mg base p.1 p.2) → FnOk l.prog w (K w.params) mg base CX0 k fa fd [x] (sp w))
    (hsp : ∀ (w : World) (H : Hp) (a : Addr) (ns : List Int), ns.length ≤ n → (∀ p ∈ tabs w, TabOk H p.2) → SqL (K w.params) H a (ns.map V.int) → sp w [.ref a] H (fun v _ => v = .bl true) fun _ _ _ => False) :
    PySem.W.WalkO q loose XP YP l.row.toRowW d [] (fun f vs => PySem.call f vs) := by
  refine Att.attach_call hn hdf fun w s₀ s₁ mg mb fa o pm cd doc a vs ns G Y ho hd hcd hmg hobj hints hlen hg => ?_
  have KX := hY w _ Y
  obtain ⟨fd, hb, hF⟩ := F w mg fa _ KX G.T.g hmg
  have hTT := hT w _ Y
  exact law_callT KX G.T.g G.T.b G.T.builtins G.T.nolimit hg hTT (hK0 w) G.T.bmain hobj hints (Nat.le_trans hlen hn2) hr hF hb fun H hO hS => hsp w H a ns hlen hO hS
/-- the pieces of a written lambda -/
def lastArg : Expr → Expr
  | .Call _ args _ _ => args.getLastD (.Constant .none 0 ⟨0, 0, 0, 0⟩)
  | e => e
def lamScope : Expr → Scope
  | .Lambda _ _ sc _ => sc
  | _ => { kind := .function, names := [], isGenerator := false, isCoroutine := false }
theorem lookup_one {x y : Str} {c cc : Addr} (h : [(y, c)].lookup x = some cc) : x = y ∧ cc = c := by
  have m := PySem.mem_of_lookup h
  rw [List.mem_singleton] at m
  cases m
  exact ⟨rfl, rfl⟩
end L2

set_option maxRecDepth 100000
set_option maxHeartbeats 4000000
namespace Wd
open PySem L2 Ow
theorem iteC {b : Bool} {A B : Prop} (hb : b = true) (h : A) : if b = true then A else B := by
  rw [if_pos hb]
  exact h
theorem iteCN {b : Bool} {A B : Prop} (hb : b = false) (h : B) : if b = true then A else B := by
  rw [if_neg (by rw [hb]; simp)]
  exact h
/-! ### trees told with leaves of a function -/
/-- a promise at a heap where a table of code is tracked -/
def spT (P0 : Addr) (sp : Sp) : Sp := fun vs H Q E => TabOk H P0 ∧ sp vs H Q E
def toldD (ts : List Tie) (il : List Nat) (m : Nat) (leaf : Nat → Nat → Option PyData) : Nat → Nat → Nat → PyData
  | f, y, n => match firstSB ts il y n with
    | some t => .tuple [.str ("broken" : Str), .int (t : Int)]
    | none => match leaf y n with
      | some d => d
      | none => match openL m y n, f with
        | k :: _, f + 1 => .tuple [.str ("split" : Str), .int (k : Int), toldD ts il m leaf f (y ||| 2 ^ k) n, toldD ts il m leaf f y (n ||| 2 ^ k)]
        | _, _ => .tuple []
section
variable {ts : List Tie} {il : List Nat} {m f y n : Nat} {leaf : Nat → Nat → Option PyData}
theorem toldD_broken {i : Nat} (hb : firstSB ts il y n = some i) : toldD ts il m leaf f y n = .tuple [.str ("broken" : Str), .int (i : Int)] := by
  unfold toldD
  simp [hb]
theorem toldD_leaf {d : PyData} (hb : firstSB ts il y n = none) (hl : leaf y n = some d) : toldD ts il m leaf f y n = d := by
  unfold toldD
  simp [hb, hl]
theorem toldD_split {k : Nat} {r : List Nat} (hb : firstSB ts il y n = none) (hl : leaf y n = none) (ho : openL m y n = k :: r) : toldD ts il m leaf (f + 1) y n = .tuple [.str ("split" : Str), .int (k : Int), toldD ts il m leaf f (y ||| 2 ^ k) n, toldD ts il m leaf f y (n ||| 2 ^ k)] := by
  conv => lhs; unfold toldD
  simp only [hb, hl, ho]
end
/-- what a leaf's function told -/
def LeafV (leaf : Nat → Nat → Option PyData) (y n : Nat) (H : Hp) (v : V) : Prop := match leaf y n with
  | none => v = .non
  | some d => Dn H d v ∧ ∃ p, v = .ref p
def spLf (C : Hp → Prop) (leaf : Nat → Nat → Option PyData) : Sp := fun vs H Q _ => ∃ y n : Nat, vs = [.int y, .int n] ∧ C H ∧ ∀ (v : V) (H' : Hp), Same H H' → LeafV leaf y n H' v → Q v H'
/-- at the stands that are come to, a leaf is told where nothing is open -/
def EndsR (ts : List Tie) (il : List Nat) (m : Nat) (leaf : Nat → Nat → Option PyData) (y n : Nat) : Prop := ∃ R : Nat → Nat → Prop, R y n ∧ (∀ y n k, R y n → k ∈ openL m y n → R (y ||| 2 ^ k) n ∧ R y (n ||| 2 ^ k)) ∧ ∀ y n, R y n → firstSB ts il y n = none → openL m y n = [] → leaf y n ≠ none
theorem EndsR.all {ts : List Tie} {il : List Nat} {m : Nat} {leaf : Nat → Nat → Option PyData} (h : ∀ y n, firstSB ts il y n = none → openL m y n = [] → leaf y n ≠ none) (y n : Nat) : EndsR ts il m leaf y n := ⟨fun _ _ => True, trivial, fun _ _ _ _ _ => ⟨trivial, trivial⟩, fun y n _ => h y n⟩
def spToldF (f : Nat) (p : Addr) (C : Hp → Prop) (m : Nat) (leaf : Nat → Nat → Option PyData) : Sp := fun vs H Q _ => ∃ (wd : Addr) (ts : List Tie) (tl : Addr) (il : List Nat) (y n : Nat), vs = [.ref wd, .ref tl, .int y, .int n, .ref p] ∧ WoodT H wd m ts ∧ H tl = some (.lst (natsL il)) ∧ (∀ i ∈ il, i < ts.length) ∧ (openL m y n).length ≤ f ∧ C H ∧ EndsR ts il m leaf y n ∧ ∀ (v : V) (H' : Hp), Same H H' → Dn H' (toldD ts il m leaf f y n) v → Q v H'
/-- a lambda as a leaf's function -/
theorem lam_fn {P : Program} {w : World} {K : PySem.W.Frag} {mg : Str → Option Value} {base : Heap} {p c : Addr} {qual : Str} {params : Arguments} {body : Expr} {scope : Scope} {cl : List (Str × Addr)} {H1 : Hp} {ps fr : List Str} {fv : List V} {k : Nat} {leaf : Nat → Nat → Option PyData} (C0 : Hp → Prop)
    (hp : H1 p = some (.ext (lamP p qual params body scope cl c)))
    (S : LamScope ps fr scope) (hcl : ∀ x cc, cl.lookup x = some cc → ∃ v, base.IsCell cc v) (inj : ∀ x y cc, cl.lookup x = some cc → cl.lookup y = some cc → x = y) (has : ∀ y ∈ scope.names, y.2 = .free → ∃ cc, cl.lookup y.1 = some cc)
    (hfv : ∀ (i : Nat) (x : Str) (v : V), fr[i]? = some x → fv[i]? = some v → ∃ cc u, cl.lookup x = some cc ∧ RelV v u ∧ base.IsCell cc (some u)) (hlen : fv.length = fr.length)
    (hsame : ∀ pm ctv args, bindArgs (PySem.W.kla_fn "<lambda>" qual params body scope cl pm (.ref c) ctv) args = bindArgs (PySem.W.kla_fn "<lambda>" qual params body scope cl .none (.ref c) .none) args)
    (len2 : ps.length = 2)
    (hbody : ∀ (q : Str) (A : Around) (outer : List Env) (s : Shared) (H : Hp) (y n : Nat) (Q : VK), Room k (A.deeper (PySem.W.envX q scope s.heap.objs.size p (.ref c) cl)) → C0 H → (∀ (v : V) (H' : Hp), Same H H' → LeafV leaf y n H' v → Q v H') →
      ∃ t, PE (cxLam P w K mg base (ps ++ fr) q scope p c cl A outer s H) body t ∧ t ([some (.int y), some (.int n)] ++ fv.map some) H Q) :
    FnOk P w K mg base CX0 (k + 1) p (PySem.W.kla_fn "<lambda>" qual params body scope cl .none (.ref c) .none) ps (spLf (fun H => C0 H ∧ H p = some (.ext (lamP p qual params body scope cl c)) ∧ H c = some (.ext (codeP c))) leaf) := by
  refine lam_ok S hcl inj has hfv hlen hsame (fun vs H Q E h => ?_) (fun vs H Q E h => ?_) (fun q A outer s H vs Q E hr h => ?_)
  · obtain ⟨y, n, rfl, _⟩ := h
    exact len2.symm
  · obtain ⟨y, n, rfl, ⟨_, h1, h2⟩, _⟩ := h
    exact ⟨h1, h2⟩
  · obtain ⟨y, n, rfl, ⟨h0, _, _⟩, q'⟩ := h
    exact hbody q A outer s H y n Q hr h0 q'
theorem lamP_fn {p : Addr} {qual : Str} {params : Arguments} {body : Expr} {scope : Scope} {cl : List (Str × Addr)} {c : Addr} (h : Heap) (x : lamP p qual params body scope cl c h) : ∃ o fd', h.get? p = some o ∧ o.data = .func fd' := by
  obtain ⟨pm, ctv, e⟩ := x
  exact ⟨_, _, e, rfl⟩
/-- the leaves of a tree of cases -/
def wareLeaf (m : Nat) (y n : Nat) : Option PyData := if openL m y n = [] then some (.tuple [.str ("ware" : Str)]) else none
theorem told_cases {ts : List Tie} {il : List Nat} {m : Nat} : ∀ (f y n : Nat), (openL m y n).length ≤ f → toldD ts il m (wareLeaf m) f y n = (casesF ts il m f y n).toD
  | f, y, n, hf => by
    cases hb : firstSB ts il y n with
    | some i => rw [toldD_broken hb, casesF_broken hb]; rfl
    | none =>
      cases ho : openL m y n with
      | nil => rw [toldD_leaf hb (by unfold wareLeaf; rw [if_pos ho]), casesF_full hb ho]; rfl
      | cons k r =>
        cases f with
        | zero => rw [ho] at hf; simp at hf
        | succ f =>
          have hk : k ∈ openL m y n := by rw [ho]; exact List.mem_cons_self
          have l1 := open_less1 hk
          have l2 := open_less2 hk
          rw [toldD_split hb (by unfold wareLeaf; rw [if_neg (by rw [ho]; simp)]) ho, casesF_split hb ho, told_cases f _ _ (by omega), told_cases f _ _ (by omega)]
          rfl
end Wd

set_option maxRecDepth 100000
set_option maxHeartbeats 4000000
namespace L2
open PySem PySem.Spec PyProof.Rows

/-! ### zip of two tuples -/
section
variable {prog : Program} {w : World} {A : Around} {E : Value → Shared → Prop} {s : Shared}
end
end L2
namespace Wd
open PySem L2 Ow
end Wd

set_option maxRecDepth 100000
set_option maxHeartbeats 4000000
namespace Wd
open PySem L2 Ow
/-! ### the wares of a wood, in their order -/
def wareL (m : Nat) (ts : List Tie) : List Nat := (List.range (2 ^ m)).filter fun s => wareB ts s
theorem mem_wareL {m : Nat} {ts : List Tie} {s : Nat} : s ∈ wareL m ts ↔ s < 2 ^ m ∧ wareB ts s = true := by
  unfold wareL
  rw [List.mem_filter, List.mem_range]
theorem wareL_pw (m : Nat) (ts : List Tie) : (wareL m ts).Pairwise (· < ·) := List.Pairwise.filter _ List.pairwise_lt_range
theorem leaves_nodup {m : Nat} {ts : List Tie} {il : List Nat} (ok : ∀ t ∈ ts, t.Ok m) : ∀ (f y n : Nat), (openL m y n).length ≤ f → Stand m y n → ((casesF ts il m f y n).leaves y).Nodup
  | f, y, n, hf, S => by
    cases hb : firstSB ts il y n with
    | some i => rw [casesF_broken hb]; exact List.nodup_nil
    | none =>
      cases ho : openL m y n with
      | nil => rw [casesF_full hb ho]; exact List.nodup_cons.mpr ⟨List.not_mem_nil, List.nodup_nil⟩
      | cons k r =>
        have hk : k ∈ openL m y n := by rw [ho]; exact List.mem_cons_self
        cases f with
        | zero => rw [ho] at hf; simp at hf
        | succ f =>
          have l1 := open_less1 hk
          have l2 := open_less2 hk
          rw [casesF_split hb ho]
          show ((casesF ts il m f (y ||| 2 ^ k) n).leaves (y ||| 2 ^ k) ++ (casesF ts il m f y (n ||| 2 ^ k)).leaves y).Nodup
          refine List.nodup_append.mpr ⟨leaves_nodup ok f _ _ (by omega) (S.one hk), leaves_nodup ok f _ _ (by omega) (S.other hk), fun a ha b hb' e => ?_⟩
          subst e
          have h1 := ((leaves_iff ok f _ _ (by omega) (S.one hk) a).mp ha).2.1.1 k (by rw [Nat.testBit_or, Nat.testBit_two_pow_self, Bool.or_true])
          have h2 := ((leaves_iff ok f _ _ (by omega) (S.other hk) a).mp hb').2.1.2 k (by rw [Nat.testBit_or, Nat.testBit_two_pow_self, Bool.or_true])
          rw [h1] at h2
          cases h2
theorem stand1 {m : Nat} (m1 : 1 ≤ m) : Stand m 1 0 := ⟨fun _ _ => Nat.zero_testBit _, Nat.lt_of_lt_of_le (by decide) (Nat.pow_le_pow_right (by decide) m1 : 2 ^ 1 ≤ 2 ^ m), Nat.two_pow_pos m⟩
theorem wares_perm {m : Nat} {ts : List Tie} (ok : ∀ t ∈ ts, t.Ok m) (m1 : 1 ≤ m) (f : Nat) (hf : (openL m 1 0).length ≤ f) : ((casesF ts (allT ts) m f 1 0).leaves 1).Perm (wareL m ts) := by
  refine (List.perm_ext_iff_of_nodup (leaves_nodup ok f 1 0 hf (stand1 m1)) ((wareL_pw m ts).imp fun h => Nat.ne_of_lt h)).mpr fun s => ?_
  rw [leaves_iff ok f 1 0 hf (stand1 m1), mem_wareL, allKeep_all]
  unfold wareB
  rw [Bool.and_eq_true]
  constructor
  · rintro ⟨h1, h2, h3⟩
    exact ⟨h1, h2.1 0 rfl, h3⟩
  · rintro ⟨h1, h2, h3⟩
    refine ⟨h1, ⟨fun k hk => ?_, fun k hk => ?_⟩, h3⟩
    · have : k = 0 := by
        rcases Nat.eq_zero_or_pos k with z | z
        · exact z
        · have e : (1 : Nat).testBit k = false := Nat.testBit_lt_two_pow (Nat.lt_of_lt_of_le (by decide : 1 < 2 ^ 1) (Nat.pow_le_pow_right (by decide) z))
          rw [e] at hk; cases hk
      rw [this]; exact h2
    · rw [Nat.zero_testBit] at hk; cases hk
/-- a sorted list of the same numbers is the list of the wares -/
theorem sorted_nats {ms : List Int} {L M : List Nat} (p : ms.Perm (L.map fun k : Nat => (k : Int))) (so : ms.Pairwise (· ≤ ·)) (q : L.Perm M) (pw : M.Pairwise (· < ·)) : ms = M.map fun k : Nat => (k : Int) := by
  refine List.Perm.eq_of_pairwise (le := (· ≤ ·)) (fun a b _ _ h1 h2 => Int.le_antisymm h1 h2) so ?_ (p.trans (q.map _))
  rw [List.pairwise_map]
  exact pw.imp fun h => by omega
def spWares : Sp := fun vs H Q _ => ∃ (wd : Addr) (m : Nat) (ts : List Tie), vs = [.ref wd] ∧ WoodT H wd m ts ∧ 1 ≤ m ∧ m ≤ 9 ∧ ∀ (l : Addr) (H' : Hp), Same H H' → H l = none → H' l = some (.lst (natsL (wareL m ts))) → Q (.ref l) H'
end Wd

set_option maxHeartbeats 4000000
namespace Srt
open PySem PyProof PyProof.Rows

def gallopR : Bool → Keyed → Array Keyed → Nat → Nat → Nat → StateT SortSt Sem (Option Nat) := sortPriv% PySem.Builtin.gallop
def mergeLoR : Array Keyed → Array Keyed → StateT SortSt Sem (Array Keyed) := sortPriv% PySem.Builtin.mergeLo
def mergeHiR : Array Keyed → Array Keyed → StateT SortSt Sem (Array Keyed) := sortPriv% PySem.Builtin.mergeHi

def kn (p : Keyed) : Int := numOf p.1
def IntK (p : Keyed) : Prop := ∃ n t, p.1 = .int n t
theorem K_kn {arr : Array Keyed} {i : Nat} {p : Keyed} (h : arr[i]? = some p) : K arr i = kn p := by unfold K; rw [h]; rfl
def gp (left : Bool) (key : Keyed) (arr : Array Keyed) (base i : Nat) : Bool := if left then decide (K arr (base + i) < kn key) else !decide (kn key < K arr (base + i))

section
variable {prog : Program} {w : World} {A : Around} {E : Value → Shared → Prop} {s : Shared}

theorem wpS_lt {st : SortSt} {x y : Keyed} {Q : Option Bool → SortSt → Prop} (hk : kindOf st = oneType') (hx : IntK x) (hy : IntK y) (h : Q (some (decide (kn x < kn y))) st) :
    wpS (model prog w) A E s (lt' x y) Q st := by
  obtain ⟨a, t, e1⟩ := hx
  obtain ⟨b, u, e2⟩ := hy
  obtain ⟨x1, x2⟩ := x
  obtain ⟨y1, y2⟩ := y
  cases e1; cases e2
  rw [lt'_eq]
  refine wpS_bind (wpS_get ?_)
  rw [hk, keyLt'_oneType]
  refine wpS_bind (wpS_lift (wpAny_attempt (oneLt_int ⟨rfl, ?_⟩)))
  exact wpS_pure h

theorem wpS_elem {st : SortSt} {arr : Array Keyed} {i : Nat} {p : Keyed} {Q : Keyed → SortSt → Prop} (hp : arr[i]? = some p) (h : Q p st) : wpS (model prog w) A E s (elem' arr i) Q st := by
  rw [elem'_eq, hp]; exact wpS_pure h

theorem wpS_gallop {st : SortSt} {left : Bool} {key : Keyed} {arr : Array Keyed} {base n hint : Nat} {Q : Option Nat → SortSt → Prop} (hk : kindOf st = oneType') (hkey : IntK key)
    (hall : ∀ i, i < n → ∃ p, arr[base + i]? = some p ∧ IntK p) (hs : ∀ i j, i ≤ j → j < n → K arr (base + i) ≤ K arr (base + j)) (hn : hint < n)
    (h : ∀ k, k ≤ n → (∀ i, i < k → gp left key arr base i = true) → (∀ i, k ≤ i → i < n → gp left key arr base i = false) → Q (some k) st) :
    wpS (model prog w) A E s (gallopR left key arr base n hint) Q st := by
  have hb : ∀ (i : Nat) (R : Option Bool → SortSt → Prop), i < n → R (some (gp left key arr base i)) st →
      wpS (model prog w) A E s (elem' arr (base + i) >>= fun x => if left = true then lt' x key else lt' key x >>= fun b => pure (b.map (!·))) R st := by
    intro i R hi hR
    obtain ⟨p, hp, ip⟩ := hall i hi
    refine wpS_bind (wpS_elem hp ?_)
    unfold gp at hR
    rw [K_kn hp] at hR
    cases left with
    | true => exact wpS_lt hk ip hkey hR
    | false => exact wpS_bind (wpS_lt hk hkey ip (wpS_pure hR))
  have mono : ∀ i j, i ≤ j → j < n → gp left key arr base j = true → gp left key arr base i = true := by
    intro i j hij hj hg
    have := hs i j hij hj
    unfold gp at hg ⊢
    cases left <;> simp at hg ⊢ <;> omega
  have anti : ∀ i j, i ≤ j → j < n → gp left key arr base i = false → gp left key arr base j = false := by
    intro i j hij hj hg
    cases hgj : gp left key arr base j with
    | false => rfl
    | true => rw [mono i j hij hj hgj] at hg; cases hg
  refine wpS_bind (hb hint _ hn ?_)
  dsimp only
  cases hr : gp left key arr base hint with
  | true =>
    rw [if_pos rfl]
    refine wpS_bind (wpS_mono (wpS_forRange
      (I := fun x c st' => st = st' ∧ ∃ la of, c = (none, la, of) ∧ la < of ∧ hint + la < n ∧ x + 1 ≤ of ∧ gp left key arr base (hint + la) = true)
      (Q := fun c st' => st = st' ∧ ∃ la of, c = (none, la, of) ∧ la < of ∧ hint + la < n ∧ gp left key arr base (hint + la) = true ∧ (of ≥ n - hint ∨ (hint + of < n ∧ gp left key arr base (hint + of) = false)))
      ?_ ?_ ⟨rfl, 0, 1, rfl, by omega, by omega, by omega, hr⟩) ?_)
    · rintro x c st' _ hx ⟨rfl, la, of, rfl, k1, k2, k3, k4⟩
      dsimp only
      by_cases hge : of ≥ n - hint
      · rw [if_pos hge]
        exact wpS_pure ⟨rfl, la, of, rfl, k1, k2, k4, .inl hge⟩
      · rw [if_neg hge]
        refine wpS_bind (hb _ _ (by omega) ?_)
        dsimp only
        cases hm : gp left key arr base (hint + of) with
        | true => exact wpS_pure ⟨rfl, of, 2 * of + 1, rfl, by omega, by omega, by omega, hm⟩
        | false => exact wpS_pure ⟨rfl, la, of, rfl, k1, k2, k4, .inr ⟨by omega, hm⟩⟩
    · rintro c st' ⟨rfl, la, of, rfl, k1, k2, k3, k4⟩
      exact ⟨rfl, la, of, rfl, k1, k2, k4, .inl (by omega)⟩
    · rintro c st' ⟨rfl, la, of, rfl, k1, k2, k4, k5⟩
      dsimp only
      have g1 : hint + la + 1 ≤ hint + min of (n - hint) := by omega
      have g2 : hint + min of (n - hint) ≤ n := by omega
      have g3 : ∀ i, i < hint + la + 1 → gp left key arr base i = true := fun i hi => mono i _ (by omega) k2 k4
      have g4 : ∀ i, hint + min of (n - hint) ≤ i → i < n → gp left key arr base i = false := fun i h1 h2 => by
        rcases k5 with z | ⟨z, hz⟩
        · omega
        · exact anti _ i (by omega) h2 hz
      refine wpS_bind (wpS_mono (wpS_forRange
        (I := fun x c st' => st = st' ∧ ∃ lo hi, c = (none, lo, hi) ∧ lo ≤ hi ∧ hi ≤ n ∧ hi - lo ≤ n - x ∧ (∀ i, i < lo → gp left key arr base i = true) ∧ (∀ i, hi ≤ i → i < n → gp left key arr base i = false))
        (Q := fun c st' => st = st' ∧ ∃ hi, c = (none, hi, hi) ∧ hi ≤ n ∧ (∀ i, i < hi → gp left key arr base i = true) ∧ (∀ i, hi ≤ i → i < n → gp left key arr base i = false))
        ?_ ?_ ⟨rfl, _, _, rfl, g1, g2, by omega, g3, g4⟩) ?_)
      · rintro x c st' _ hx ⟨rfl, lo, hi, rfl, k1, k2, k3, k4, k5⟩
        dsimp only
        by_cases hge : lo ≥ hi
        · rw [if_pos hge]
          have : lo = hi := by omega
          subst this
          exact wpS_pure ⟨rfl, lo, rfl, k2, k4, k5⟩
        · rw [if_neg hge]
          refine wpS_bind (hb _ _ (by omega) ?_)
          dsimp only
          by_cases hm : gp left key arr base (lo + (hi - lo) / 2) = true
          · rw [if_pos hm]
            exact wpS_pure ⟨rfl, _, _, rfl, by omega, k2, by omega, fun i hi' => mono i _ (by omega) (by omega) hm, k5⟩
          · rw [if_neg hm]
            exact wpS_pure ⟨rfl, _, _, rfl, by omega, by omega, by omega, k4, fun i h1 h2 => anti _ i h1 h2 (by simpa using hm)⟩
      · rintro c st' ⟨rfl, lo, hi, rfl, k1, k2, k3, k4, k5⟩
        have : lo = hi := by omega
        subst this
        exact ⟨rfl, lo, rfl, k2, k4, k5⟩
      · rintro c st' ⟨rfl, hi, rfl, k2, k4, k5⟩
        exact wpS_pure (h hi k2 k4 k5)
  | false =>
    rw [if_neg (by decide)]
    refine wpS_bind (wpS_mono (wpS_forRange
      (I := fun x c st' => st = st' ∧ ∃ la of, c = (none, la, of) ∧ la < of ∧ la ≤ hint ∧ x + 1 ≤ of ∧ gp left key arr base (hint - la) = false)
      (Q := fun c st' => st = st' ∧ ∃ la of, c = (none, la, of) ∧ la < of ∧ la ≤ hint ∧ gp left key arr base (hint - la) = false ∧ (of ≥ hint + 1 ∨ (of ≤ hint ∧ gp left key arr base (hint - of) = true)))
      ?_ ?_ ⟨rfl, 0, 1, rfl, by omega, by omega, by omega, hr⟩) ?_)
    · rintro x c st' _ hx ⟨rfl, la, of, rfl, k1, k2, k3, k4⟩
      dsimp only
      by_cases hge : of ≥ hint + 1
      · rw [if_pos hge]
        exact wpS_pure ⟨rfl, la, of, rfl, k1, k2, k4, .inl hge⟩
      · rw [if_neg hge]
        refine wpS_bind (hb _ _ (by omega) ?_)
        dsimp only
        cases hm : gp left key arr base (hint - of) with
        | false => exact wpS_pure ⟨rfl, of, 2 * of + 1, rfl, by omega, by omega, by omega, hm⟩
        | true => exact wpS_pure ⟨rfl, la, of, rfl, k1, k2, k4, .inr ⟨by omega, hm⟩⟩
    · rintro c st' ⟨rfl, la, of, rfl, k1, k2, k3, k4⟩
      exact ⟨rfl, la, of, rfl, k1, k2, k4, .inl (by omega)⟩
    · rintro c st' ⟨rfl, la, of, rfl, k1, k2, k4, k5⟩
      dsimp only
      have g1 : hint + 1 - min of (hint + 1) ≤ hint - la := by omega
      have g2 : hint - la ≤ n := by omega
      have g3 : ∀ i, i < hint + 1 - min of (hint + 1) → gp left key arr base i = true := fun i hi => by
        rcases k5 with z | ⟨z, hz⟩
        · omega
        · exact mono i _ (by omega) (by omega) hz
      have g4 : ∀ i, hint - la ≤ i → i < n → gp left key arr base i = false := fun i h1 h2 => anti _ i h1 h2 k4
      refine wpS_bind (wpS_mono (wpS_forRange
        (I := fun x c st' => st = st' ∧ ∃ lo hi, c = (none, lo, hi) ∧ lo ≤ hi ∧ hi ≤ n ∧ hi - lo ≤ n - x ∧ (∀ i, i < lo → gp left key arr base i = true) ∧ (∀ i, hi ≤ i → i < n → gp left key arr base i = false))
        (Q := fun c st' => st = st' ∧ ∃ hi, c = (none, hi, hi) ∧ hi ≤ n ∧ (∀ i, i < hi → gp left key arr base i = true) ∧ (∀ i, hi ≤ i → i < n → gp left key arr base i = false))
        ?_ ?_ ⟨rfl, _, _, rfl, g1, g2, by omega, g3, g4⟩) ?_)
      · rintro x c st' _ hx ⟨rfl, lo, hi, rfl, k1, k2, k3, k4, k5⟩
        dsimp only
        by_cases hge : lo ≥ hi
        · rw [if_pos hge]
          have : lo = hi := by omega
          subst this
          exact wpS_pure ⟨rfl, lo, rfl, k2, k4, k5⟩
        · rw [if_neg hge]
          refine wpS_bind (hb _ _ (by omega) ?_)
          dsimp only
          by_cases hm : gp left key arr base (lo + (hi - lo) / 2) = true
          · rw [if_pos hm]
            exact wpS_pure ⟨rfl, _, _, rfl, by omega, k2, by omega, fun i hi' => mono i _ (by omega) (by omega) hm, k5⟩
          · rw [if_neg hm]
            exact wpS_pure ⟨rfl, _, _, rfl, by omega, by omega, by omega, k4, fun i h1 h2 => anti _ i h1 h2 (by simpa using hm)⟩
      · rintro c st' ⟨rfl, lo, hi, rfl, k1, k2, k3, k4, k5⟩
        have : lo = hi := by omega
        subst this
        exact ⟨rfl, lo, rfl, k2, k4, k5⟩
      · rintro c st' ⟨rfl, hi, rfl, k2, k4, k5⟩
        exact wpS_pure (h hi k2 k4 k5)
end
end Srt

set_option maxHeartbeats 4000000
namespace Srt
open PySem PyProof PyProof.Rows

def kle (x y : Keyed) : Prop := kn x ≤ kn y
theorem kle_trans {x y z : Keyed} (h : kle x y) (g : kle y z) : kle x z := Int.le_trans h g

structure MI (A B out : List Keyed) (ia ib : Nat) : Prop where
  perm : out.Perm (A.take ia ++ B.take ib)
  srt : out.Pairwise kle
  la : ∀ x ∈ out, ∀ y ∈ A.drop ia, kle x y
  lb : ∀ x ∈ out, ∀ y ∈ B.drop ib, kle x y

def SP (A B R : List Keyed) : Prop := R.Perm (A ++ B) ∧ R.Pairwise kle

theorem MI.swap {A B out : List Keyed} {ia ib : Nat} (m : MI A B out ia ib) : MI B A out ib ia :=
  ⟨m.perm.trans List.perm_append_comm, m.srt, m.lb, m.la⟩

theorem MI.more {A B out : List Keyed} {ia ib : Nat} (hA : A.Pairwise kle) (m : MI A B out ia ib) (k : Nat) (hx : ∀ x ∈ (A.drop ia).take k, ∀ y ∈ B.drop ib, kle x y) :
    MI A B (out ++ (A.drop ia).take k) (ia + k) ib := by
  have hd : (A.drop ia).Pairwise kle := hA.sublist (List.drop_sublist _ _)
  have hs : ((A.drop ia).take k ++ (A.drop ia).drop k).Pairwise kle := by rw [List.take_append_drop]; exact hd
  obtain ⟨p1, p2, p3⟩ := List.pairwise_append.mp hs
  refine ⟨?_, List.pairwise_append.mpr ⟨m.srt, p1, fun x h y g => m.la x h y (List.mem_of_mem_take g)⟩, fun x h y g => ?_, fun x h y g => ?_⟩
  · rw [List.take_add]
    refine (List.Perm.append_right _ m.perm).trans ?_
    rw [List.append_assoc, List.append_assoc]
    exact List.Perm.append_left _ List.perm_append_comm
  · rw [← List.drop_drop] at g
    rcases List.mem_append.mp h with z | z
    · exact m.la x z y (List.mem_of_mem_drop g)
    · exact p3 x z y g
  · rcases List.mem_append.mp h with z | z
    · exact m.lb x z y g
    · exact hx x z y g

theorem MI.fin {A B out : List Keyed} {ia ib : Nat} (m : MI A B out ia ib) (ha : A.length ≤ ia) (hb : B.length ≤ ib) : SP A B out := by
  have := m.perm
  rw [List.take_of_length_le ha, List.take_of_length_le hb] at this
  exact ⟨this, m.srt⟩

theorem MI.done {A B out : List Keyed} {ia ib : Nat} (hA : A.Pairwise kle) (m : MI A B out ia ib) (hb : B.length ≤ ib) : SP A B (out ++ A.drop ia ++ B.drop ib) := by
  have h := m.more hA A.length (fun x _ y g => by rw [List.drop_of_length_le hb] at g; cases g)
  rw [List.take_of_length_le (by rw [List.length_drop]; omega)] at h
  rw [List.drop_of_length_le hb, List.append_nil]
  exact h.fin (by omega) hb

theorem MI.last {A B out : List Keyed} {ia ib : Nat} (hA : A.Pairwise kle) (hB : B.Pairwise kle) (m : MI A B out ia ib) (hx : ∀ x ∈ B.drop ib, ∀ y ∈ A.drop ia, kle x y) :
    SP A B (out ++ B.drop ib ++ A.drop ia) := by
  have h := (m.swap.more hB B.length (fun x g y g2 => hx x (List.mem_of_mem_take g) y g2)).swap
  rw [List.take_of_length_le (by rw [List.length_drop]; omega)] at h
  have := h.done hA (Nat.le_add_left _ _)
  rwa [List.drop_of_length_le (l := B) (Nat.le_add_left _ _), List.append_nil] at this

theorem ext_all {a : Array Keyed} {i : Nat} : (a.extract i a.size).toList = a.toList.drop i := by
  rw [Array.toList_extract, List.extract_eq_drop_take]
  rw [List.take_of_length_le]
  rw [List.length_drop, Array.length_toList]
  exact Nat.le_refl _
theorem ext_k {a : Array Keyed} {i k : Nat} : (a.extract i (i + k)).toList = (a.toList.drop i).take k := by
  rw [Array.toList_extract, List.extract_eq_drop_take, Nat.add_sub_cancel_left]
theorem drop_one {a : Array Keyed} {i : Nat} {p : Keyed} (h : a[i]? = some p) : (a.toList.drop i).take 1 = [p] := by
  have hi : i < a.toList.length := by
    rw [Array.length_toList]; exact (Array.getElem?_eq_some_iff.mp h).1
  have e : a.toList[i] = p := by
    obtain ⟨h1, h2⟩ := Array.getElem?_eq_some_iff.mp h
    rw [← h2]; exact Array.getElem_toList h1
  rw [List.drop_eq_getElem_cons hi, e]; rfl
theorem mem_at {a : Array Keyed} {i : Nat} {p : Keyed} (h : a[i]? = some p) : p ∈ a.toList := by
  obtain ⟨h1, h2⟩ := Array.getElem?_eq_some_iff.mp h
  rw [← h2]; exact Array.getElem_mem_toList h1
theorem MI.one {a b out : Array Keyed} {ia ib : Nat} {p : Keyed} (hA : a.toList.Pairwise kle) (m : MI a.toList b.toList out.toList ia ib) (hp : a[ia]? = some p) (hx : ∀ y ∈ b.toList.drop ib, kle p y) :
    MI a.toList b.toList (out.push p).toList (ia + 1) ib := by
  have := m.more hA 1 (by rw [drop_one hp]; intro x hx' y hy; rw [List.mem_singleton.mp hx']; exact hx y hy)
  rw [drop_one hp] at this
  rwa [Array.toList_push]
theorem MI.blk {a b out : Array Keyed} {ia ib k : Nat} (hA : a.toList.Pairwise kle) (m : MI a.toList b.toList out.toList ia ib) (hx : ∀ x ∈ (a.toList.drop ia).take k, ∀ y ∈ b.toList.drop ib, kle x y) :
    MI a.toList b.toList (out ++ a.extract ia (ia + k)).toList (ia + k) ib := by
  rw [Array.toList_append, ext_k]
  exact m.more hA k hx
theorem MI.doneA {a b out : Array Keyed} {ia ib : Nat} (hA : a.toList.Pairwise kle) (m : MI a.toList b.toList out.toList ia ib) (hb : b.size ≤ ib) :
    SP a.toList b.toList (out ++ a.extract ia a.size ++ b.extract ib b.size).toList := by
  rw [Array.toList_append, Array.toList_append, ext_all, ext_all]
  exact m.done hA hb
theorem MI.doneB {a b out : Array Keyed} {ia ib : Nat} (hB : b.toList.Pairwise kle) (m : MI a.toList b.toList out.toList ia ib) (ha : a.size ≤ ia) :
    SP a.toList b.toList (out ++ a.extract ia a.size ++ b.extract ib b.size).toList := by
  rw [Array.toList_append, Array.toList_append, ext_all, ext_all, List.drop_of_length_le (l := a.toList) (by rw [Array.length_toList]; exact ha), List.append_nil]
  have h := m.swap.done hB (by rw [Array.length_toList]; exact ha)
  rw [List.drop_of_length_le (l := a.toList) (by rw [Array.length_toList]; exact ha), List.append_nil] at h
  exact ⟨h.1.trans List.perm_append_comm, h.2⟩
theorem MI.lastA {a b out : Array Keyed} {ia ib : Nat} (hA : a.toList.Pairwise kle) (hB : b.toList.Pairwise kle) (m : MI a.toList b.toList out.toList ia ib) (hx : ∀ x ∈ b.toList, ∀ y ∈ a.toList.drop ia, kle x y) :
    SP a.toList b.toList (out ++ b.extract ib b.size ++ a.extract ia a.size).toList := by
  rw [Array.toList_append, Array.toList_append, ext_all, ext_all]
  exact m.last hA hB fun x h => hx x (List.mem_of_mem_drop h)
theorem MI.lastE {a b out : Array Keyed} {ia ib : Nat} (hA : a.toList.Pairwise kle) (hB : b.toList.Pairwise kle) (m : MI a.toList b.toList out.toList ia ib) (e : ia + 1 = a.size)
    (hx : ∀ x ∈ b.toList, ∀ y ∈ a.toList.drop (a.size - 1), kle x y) : SP a.toList b.toList (out ++ b.extract ib b.size ++ a.extract ia a.size).toList :=
  m.lastA hA hB (by rw [show ia = a.size - 1 by omega]; exact hx)
section
variable {prog : Program} {w : World} {A : Around} {E : Value → Shared → Prop} {s : Shared}
theorem wpS_ite' {α : Type} {c : Prop} [Decidable c] {t e : StateT SortSt Sem α} {Q : α → SortSt → Prop} {st : SortSt} (h1 : c → wpS (model prog w) A E s t Q st) (h2 : ¬ c → wpS (model prog w) A E s e Q st) :
    wpS (model prog w) A E s (if c then t else e) Q st := by
  by_cases hc : c
  · rw [if_pos hc]; exact h1 hc
  · rw [if_neg hc]; exact h2 hc
abbrev setG (st : SortSt) (g : Nat) : SortSt := SortSt.mk' (kindOf st) (arrOf st) (pendingOf st) g (failedOf st)
theorem kle_at {a b : Array Keyed} {i j : Nat} {p q : Keyed} (hB : b.toList.Pairwise kle) (hq : b[j]? = some q) (h : kle p q) : ∀ y ∈ b.toList.drop j, kle p y := by
  intro y hy
  obtain ⟨h1, h2⟩ := Array.getElem?_eq_some_iff.mp hq
  have hi : j < b.toList.length := by rw [Array.length_toList]; exact h1
  have e : b.toList[j] = q := by rw [← h2]; exact Array.getElem_toList h1
  have hd := hB.sublist (List.drop_sublist j b.toList)
  rw [List.drop_eq_getElem_cons hi, e] at hy hd
  rcases List.mem_cons.mp hy with z | z
  · rw [z]; exact h
  · exact kle_trans h ((List.pairwise_cons.mp hd).1 y z)

theorem K_pw {a : Array Keyed} (hA : a.toList.Pairwise kle) {i j : Nat} (hij : i ≤ j) (hj : j < a.size) : K a i ≤ K a j := by
  have hi : i < a.size := by omega
  rw [K_kn (Array.getElem?_eq_getElem hi), K_kn (Array.getElem?_eq_getElem hj)]
  by_cases e : i = j
  · subst e; exact Int.le_refl _
  · have := List.pairwise_iff_getElem.mp hA i j (by rw [Array.length_toList]; exact hi) (by rw [Array.length_toList]; exact hj) (by omega)
    rw [Array.getElem_toList, Array.getElem_toList] at this
    exact this
theorem mem_drop_at {a : Array Keyed} {i : Nat} {x : Keyed} (h : x ∈ a.toList.drop i) : ∃ j, i ≤ j ∧ j < a.size ∧ a[j]? = some x := by
  obtain ⟨j, hj, e⟩ := List.mem_iff_getElem.mp h
  rw [List.length_drop, Array.length_toList] at hj
  rw [List.getElem_drop, Array.getElem_toList] at e
  exact ⟨i + j, by omega, by omega, by rw [Array.getElem?_eq_getElem (by omega), e]⟩
theorem mem_take_at {a : Array Keyed} {i k : Nat} {x : Keyed} (h : x ∈ (a.toList.drop i).take k) : ∃ j, j < k ∧ i + j < a.size ∧ a[i + j]? = some x := by
  obtain ⟨j, hj, e⟩ := List.mem_iff_getElem.mp h
  rw [List.length_take, List.length_drop, Array.length_toList] at hj
  rw [List.getElem_take, List.getElem_drop, Array.getElem_toList] at e
  exact ⟨j, by omega, by omega, by rw [Array.getElem?_eq_getElem (by omega), e]⟩
theorem gp_false {q : Keyed} {a : Array Keyed} {i j : Nat} {x : Keyed} (h : gp false q a i j = true) (hx : a[i + j]? = some x) : kle x q := by
  unfold gp at h; rw [K_kn hx] at h
  simp at h; exact h
theorem gp_false' {q : Keyed} {a : Array Keyed} {i j : Nat} {x : Keyed} (h : gp false q a i j = false) (hx : a[i + j]? = some x) : kle q x := by
  unfold gp at h; rw [K_kn hx] at h
  simp at h; exact Int.le_of_lt h
theorem gp_true {q : Keyed} {a : Array Keyed} {i j : Nat} {x : Keyed} (h : gp true q a i j = true) (hx : a[i + j]? = some x) : kle x q := by
  unfold gp at h; rw [K_kn hx] at h
  simp at h; exact Int.le_of_lt h
theorem gp_true' {q : Keyed} {a : Array Keyed} {i j : Nat} {x : Keyed} (h : gp true q a i j = false) (hx : a[i + j]? = some x) : kle q x := by
  unfold gp at h; rw [K_kn hx] at h
  simp at h; exact h

structure MV (a b out : Array Keyed) (ia ib : Nat) : Prop where
  m : MI a.toList b.toList out.toList ia ib
  ha : ia + 2 ≤ a.size
  hb : ib < b.size

theorem wpS_mergeLo {st : SortSt} {a b : Array Keyed} {Q : Array Keyed → SortSt → Prop} (hk : kindOf st = oneType') (iA : ∀ x ∈ a.toList, IntK x) (iB : ∀ x ∈ b.toList, IntK x)
    (hA : a.toList.Pairwise kle) (hB : b.toList.Pairwise kle) (na : 0 < a.size) (nb : 0 < b.size)
    (hb0 : ∀ x ∈ b.toList.take 1, ∀ y ∈ a.toList, kle x y) (hla : ∀ x ∈ b.toList, ∀ y ∈ a.toList.drop (a.size - 1), kle x y)
    (h : ∀ r g, SP a.toList b.toList r.toList → Q r (setG st g)) :
    wpS (model prog w) A E s (mergeLoR a b) Q st := by
  refine wpS_bind (wpS_lift (wpAny_rule ⟨rfl, ?_⟩))
  refine wpS_bind (wpS_elem (Array.getElem?_eq_getElem nb) ?_)
  have m0 : MI a.toList b.toList (#[b[0]] : Array Keyed).toList 0 1 := by
    have z : MI b.toList a.toList (#[] : Array Keyed).toList 0 0 := ⟨List.Perm.refl _, List.Pairwise.nil, nofun, nofun⟩
    exact (z.one hB (Array.getElem?_eq_getElem nb) (fun y hy => hb0 _ (by have := drop_one (Array.getElem?_eq_getElem nb); rw [List.drop_zero] at this; rw [this]; exact List.mem_singleton.mpr rfl) y hy)).swap
  have pA : ∀ {i}, i < a.size → ∃ p, a[i]? = some p ∧ IntK p := fun hi => ⟨_, Array.getElem?_eq_getElem hi, iA _ (Array.getElem_mem_toList hi)⟩
  have pB : ∀ {i}, i < b.size → ∃ p, b[i]? = some p ∧ IntK p := fun hi => ⟨_, Array.getElem?_eq_getElem hi, iB _ (Array.getElem_mem_toList hi)⟩
  refine wpS_ite' (fun c1 => wpS_pure (h _ (gallopOf st) (m0.doneA hA (Nat.le_of_eq (beq_iff_eq.mp c1).symm)))) (fun c1 => ?_)
  refine wpS_ite' (fun c2 => wpS_pure (h _ (gallopOf st) (m0.lastE hA hB (beq_iff_eq.mp c2) hla))) (fun c2 => ?_)
  replace c1 : 1 ≠ b.size := fun z => c1 (beq_iff_eq.mpr z)
  replace c2 : 0 + 1 ≠ a.size := fun z => c2 (beq_iff_eq.mpr z)
  refine wpS_bind (wpS_get ?_)
  refine wpS_bind (wpS_mono (wpS_forRange
    (I := fun x c st' => (∃ g, setG st g = st') ∧ ∃ out ia ib mg, c = (none, out, ia, ib, mg) ∧ MV a b out ia ib ∧ x + 1 ≤ ia + ib)
    (Q := fun c st' => (∃ g, setG st g = st') ∧ ∃ r rest, c = (some r, rest) ∧ SP a.toList b.toList r.toList)
    ?_ ?_ ⟨⟨gallopOf st, rfl⟩, _, 0, 1, _, rfl, ⟨m0, by omega, by omega⟩, by omega⟩) ?_)
  · rintro x0 c st' _ hx0 ⟨⟨g, rfl⟩, out, ia, ib, mg, rfl, v, hx⟩
    refine wpS_bind (wpS_mono (wpS_forRange
      (I := fun x c st' => setG st g = st' ∧ ∃ out ia ib ac bc, c = (none, out, ia, ib, ac, bc) ∧ MV a b out ia ib ∧ x0 + 1 + x ≤ ia + ib)
      (Q := fun c st' => setG st g = st' ∧ ((∃ r rest, c = (some r, rest) ∧ SP a.toList b.toList r.toList) ∨ ∃ out ia ib ac bc, c = (none, out, ia, ib, ac, bc) ∧ MV a b out ia ib ∧ x0 + 2 ≤ ia + ib))
      ?_ ?_ ⟨rfl, out, ia, ib, 0, 0, rfl, v, by omega⟩) ?_)
    · rintro x c st' _ hx1 ⟨rfl, out, ia, ib, ac, bc, rfl, v, hx⟩
      obtain ⟨p, hp, ip⟩ := pA (show ia < a.size by have := v.ha; omega)
      obtain ⟨q, hq, iq⟩ := pB v.hb
      refine wpS_bind (wpS_elem hq (wpS_bind (wpS_elem hp (wpS_bind (wpS_lt hk iq ip ?_)))))
      dsimp only
      have va := v.ha
      have vb := v.hb
      refine wpS_ite' (fun c3 => ?_) (fun c3 => ?_)
      · have c3' : kle q p := Int.le_of_lt (of_decide_eq_true c3)
        have m2 := (v.m.swap.one hB hq (kle_at (a := b) (i := ib) hA hp c3')).swap
        refine wpS_bind (wpS_elem hq ?_)
        refine wpS_ite' (fun c4 => wpS_pure ⟨rfl, .inl ⟨_, _, rfl, m2.doneA hA (Nat.le_of_eq (beq_iff_eq.mp c4).symm)⟩⟩) (fun c4 => ?_)
        have c4' : ib + 1 ≠ b.size := fun z => c4 (beq_iff_eq.mpr z)
        exact wpS_ite' (fun c5 => wpS_pure ⟨rfl, .inr ⟨_, _, _, _, _, rfl, ⟨m2, va, by omega⟩, by omega⟩⟩) (fun c5 => wpS_pure ⟨rfl, _, _, _, _, _, rfl, ⟨m2, va, by omega⟩, by omega⟩)
      · have c3' : kle p q := Int.not_lt.mp (fun z => c3 (decide_eq_true z))
        have m2 := v.m.one hA hp (kle_at (a := a) (i := ia) hB hq c3')
        refine wpS_bind (wpS_elem hp ?_)
        refine wpS_ite' (fun c4 => wpS_pure ⟨rfl, .inl ⟨_, _, rfl, m2.lastE hA hB (beq_iff_eq.mp c4) hla⟩⟩) (fun c4 => ?_)
        have c4' : ia + 1 + 1 ≠ a.size := fun z => c4 (beq_iff_eq.mpr z)
        exact wpS_ite' (fun c5 => wpS_pure ⟨rfl, .inr ⟨_, _, _, _, _, rfl, ⟨m2, by omega, vb⟩, by omega⟩⟩) (fun c5 => wpS_pure ⟨rfl, _, _, _, _, _, rfl, ⟨m2, by omega, vb⟩, by omega⟩)
    · rintro c st' ⟨rfl, out, ia, ib, ac, bc, rfl, v, hx⟩
      have va := v.ha
      have vb := v.hb
      omega
    · rintro c st' ⟨rfl, ⟨r, rest, rfl, hr⟩ | ⟨out, ia, ib, ac, bc, rfl, v, hx⟩⟩
      · exact wpS_pure ⟨⟨g, rfl⟩, r, _, rfl, hr⟩
      refine wpS_bind (wpS_lift (wpAny_rule ⟨rfl, ?_⟩))
      refine wpS_bind (wpS_mono (wpS_forRange
        (I := fun x c st' => (∃ g, setG st g = st') ∧ ∃ out ia ib mg ac bc, c = (none, out, ia, ib, mg, ac, bc) ∧ MV a b out ia ib ∧ x0 + 2 + x ≤ ia + ib)
        (Q := fun c st' => (∃ g, setG st g = st') ∧ ((∃ r rest, c = (some r, rest) ∧ SP a.toList b.toList r.toList) ∨ ∃ out ia ib mg ac bc, c = (none, out, ia, ib, mg, ac, bc) ∧ MV a b out ia ib ∧ x0 + 2 ≤ ia + ib))
        ?_ ?_ ⟨⟨g, rfl⟩, out, ia, ib, _, ac, bc, rfl, v, by omega⟩) ?_)
      · rintro x c st' _ hx1 ⟨⟨g, rfl⟩, out, ia, ib, mg, ac, bc, rfl, v, hx⟩
        have va := v.ha
        have vb := v.hb
        obtain ⟨q, hq, iq⟩ := pB vb
        dsimp (config := { zeta := false, zetaHave := false, zetaUnused := false }) only
        extract_lets _ _ _ _ _ _ _ _ _ _ _ _ jp
        suffices hj : ∀ mg', wpS (model prog w) A E s (jp () mg') _ (setG st g) from wpS_ite' (fun _ => hj _) (fun _ => hj _)
        intro mg'
        refine wpS_bind (wpS_modify ?_)
        refine wpS_bind (wpS_elem hq ?_)
        refine wpS_bind (wpS_gallop (left := false) (arr := a) (base := ia) (n := a.size - ia) (hint := 0) hk iq (fun i hi => pA (i := ia + i) (by omega)) (fun i j hij hj => K_pw hA (by omega) (by omega)) (by omega) fun k k1 k2 k3 => ?_)
        have le1 : ∀ x ∈ (a.toList.drop ia).take k, ∀ y ∈ b.toList.drop ib, kle x y := fun x hx y hy => by
          obtain ⟨j, h1, h2, h3⟩ := mem_take_at hx
          exact kle_at (a := a) (i := 0) hB hq (gp_false (k2 j h1) h3) y hy
        have le2 : ∀ y ∈ a.toList.drop (ia + k), kle q y := fun y hy => by
          obtain ⟨j, h1, h2, h3⟩ := mem_drop_at hy
          exact gp_false' (k3 (j - ia) (by omega) (by omega)) (by rw [show ia + (j - ia) = j by omega]; exact h3)
        dsimp (config := { zeta := false, zetaHave := false, zetaUnused := false }) only
        extract_lets _ jp2
        suffices hj2 : ∀ (o2 : Array Keyed) (i2 : Nat), MI a.toList b.toList o2.toList i2 ib → i2 + 2 ≤ a.size → ia ≤ i2 → (∀ y ∈ a.toList.drop i2, kle q y) → wpS (model prog w) A E s (jp2 () o2 i2) _ (setG st mg') by
          refine wpS_ite' (fun c3 => ?_) (fun c3 => hj2 out ia v.m va (Nat.le_refl _) (by rw [show ia = ia + k by omega]; exact le2))
          have m2 := v.m.blk hA le1
          refine wpS_ite' (fun c4 => wpS_pure ⟨⟨mg', rfl⟩, .inl ⟨_, _, rfl, m2.lastE hA hB (beq_iff_eq.mp c4) hla⟩⟩) (fun c4 => ?_)
          refine wpS_ite' (fun c5 => wpS_pure ⟨⟨mg', rfl⟩, .inl ⟨_, _, rfl, m2.doneB hB (Nat.le_of_eq (beq_iff_eq.mp c5).symm)⟩⟩) (fun c5 => ?_)
          have c4' : ia + k + 1 ≠ a.size := fun z => c4 (beq_iff_eq.mpr z)
          have c5' : ia + k ≠ a.size := fun z => c5 (beq_iff_eq.mpr z)
          exact hj2 _ (ia + k) m2 (by omega) (by omega) le2
        intro o2 i2 m2 hi2 hle qle
        obtain ⟨p, hp, ip⟩ := pA (show i2 < a.size by omega)
        refine wpS_bind (wpS_elem hq ?_)
        have m3 := (m2.swap.one hB hq qle).swap
        refine wpS_ite' (fun c4 => wpS_pure ⟨⟨mg', rfl⟩, .inl ⟨_, _, rfl, m3.doneA hA (Nat.le_of_eq (beq_iff_eq.mp c4).symm)⟩⟩) (fun c4 => ?_)
        have c4' : ib + 1 ≠ b.size := fun z => c4 (beq_iff_eq.mpr z)
        refine wpS_bind (wpS_elem hp ?_)
        refine wpS_bind (wpS_gallop (left := true) (arr := b) (base := ib + 1) (n := b.size - (ib + 1)) (hint := 0) hk ip (fun i hi => pB (i := ib + 1 + i) (by omega)) (fun i j hij hj => K_pw hB (by omega) (by omega)) (by omega) fun k' l1 l2 l3 => ?_)
        have le3 : ∀ x ∈ (b.toList.drop (ib + 1)).take k', ∀ y ∈ a.toList.drop i2, kle x y := fun x hx y hy => by
          obtain ⟨j, h1, h2, h3⟩ := mem_take_at hx
          exact kle_at (a := a) (i := 0) hA hp (gp_true (l2 j h1) h3) y hy
        have le4 : ∀ y ∈ b.toList.drop (ib + 1 + k'), kle p y := fun y hy => by
          obtain ⟨j, h1, h2, h3⟩ := mem_drop_at hy
          exact gp_true' (l3 (j - (ib + 1)) (by omega) (by omega)) (by rw [show ib + 1 + (j - (ib + 1)) = j by omega]; exact h3)
        dsimp (config := { zeta := false, zetaHave := false, zetaUnused := false }) only
        extract_lets _ _ jp3
        suffices hj3 : ∀ (o3 : Array Keyed) (i3 : Nat), MI a.toList b.toList o3.toList i2 i3 → i3 < b.size → ib + 1 ≤ i3 → (∀ y ∈ b.toList.drop i3, kle p y) → wpS (model prog w) A E s (jp3 () o3 i3) _ (setG st mg') by
          refine wpS_ite' (fun c3 => ?_) (fun c3 => hj3 _ (ib + 1) m3 (by omega) (Nat.le_refl _) (by rw [show ib + 1 = ib + 1 + k' by omega]; exact le4))
          have m4 := (m3.swap.blk hB le3).swap
          refine wpS_ite' (fun c5 => wpS_pure ⟨⟨mg', rfl⟩, .inl ⟨_, _, rfl, m4.doneA hA (Nat.le_of_eq (beq_iff_eq.mp c5).symm)⟩⟩) (fun c5 => ?_)
          have c5' : ib + 1 + k' ≠ b.size := fun z => c5 (beq_iff_eq.mpr z)
          exact hj3 _ (ib + 1 + k') m4 (by omega) (by omega) le4
        intro o3 i3 m4 hi3 hle3 ple
        refine wpS_bind (wpS_elem hp ?_)
        have m5 := m4.one hA hp ple
        refine wpS_ite' (fun c5 => wpS_pure ⟨⟨mg', rfl⟩, .inl ⟨_, _, rfl, m5.lastE hA hB (beq_iff_eq.mp c5) hla⟩⟩) (fun c5 => ?_)
        have c5' : i2 + 1 + 1 ≠ a.size := fun z => c5 (beq_iff_eq.mpr z)
        exact wpS_ite' (fun c6 => wpS_pure ⟨⟨mg', rfl⟩, .inr ⟨_, _, _, _, _, _, rfl, ⟨m5, by omega, hi3⟩, by omega⟩⟩) (fun c6 => wpS_pure ⟨⟨mg', rfl⟩, _, _, _, _, _, _, rfl, ⟨m5, by omega, hi3⟩, by omega⟩)
      · rintro c st' ⟨⟨g, rfl⟩, out, ia, ib, mg, ac, bc, rfl, v, hx⟩
        have va := v.ha
        have vb := v.hb
        omega
      · rintro c st' ⟨⟨g, rfl⟩, ⟨r, rest, rfl, hr⟩ | ⟨out, ia, ib, mg, ac, bc, rfl, v, hx⟩⟩
        · exact wpS_pure ⟨⟨g, rfl⟩, r, _, rfl, hr⟩
        · exact wpS_bind (wpS_modify (wpS_pure ⟨⟨_, rfl⟩, _, _, _, _, rfl, v, by omega⟩))
  · rintro c st' ⟨⟨g, rfl⟩, out, ia, ib, mg, rfl, v, hx⟩
    have va := v.ha
    have vb := v.hb
    omega
  · rintro c st' ⟨⟨g, rfl⟩, r, rest, rfl, hr⟩
    exact wpS_pure (h r g hr)
end
end Srt

set_option maxHeartbeats 4000000
namespace Srt
open PySem PyProof PyProof.Rows

structure MH (A B out : List Keyed) (na nb : Nat) : Prop where
  perm : out.Perm (A.drop na ++ B.drop nb)
  srt : out.Pairwise fun x y => kle y x
  la : ∀ x ∈ out, ∀ y ∈ A.take na, kle y x
  lb : ∀ x ∈ out, ∀ y ∈ B.take nb, kle y x

theorem MH.swap {A B out : List Keyed} {na nb : Nat} (m : MH A B out na nb) : MH B A out nb na :=
  ⟨m.perm.trans List.perm_append_comm, m.srt, m.lb, m.la⟩

theorem MH.more {A B out : List Keyed} {na nb : Nat} (hA : A.Pairwise kle) (m : MH A B out na nb) {k : Nat} (hk : k ≤ na) (hn : na ≤ A.length) (hx : ∀ x ∈ (A.take na).drop k, ∀ y ∈ B.take nb, kle y x) :
    MH A B (out ++ ((A.take na).drop k).reverse) k nb := by
  have hd : (A.take na).Pairwise kle := hA.sublist (List.take_sublist _ _)
  have hs : ((A.take na).take k ++ (A.take na).drop k).Pairwise kle := by rw [List.take_append_drop]; exact hd
  obtain ⟨p1, p2, p3⟩ := List.pairwise_append.mp hs
  rw [List.take_take, Nat.min_eq_left hk] at p3
  have ed : A.drop k = (A.take na).drop k ++ A.drop na := by
    conv => lhs; rw [← List.take_append_drop na A]
    rw [List.drop_append_of_le_length (by rw [List.length_take]; omega)]
  refine ⟨?_, List.pairwise_append.mpr ⟨m.srt, List.pairwise_reverse.mpr p2, fun x h y g => m.la x h y (List.mem_of_mem_drop (List.mem_reverse.mp g))⟩, fun x h y g => ?_, fun x h y g => ?_⟩
  · rw [ed]
    refine (List.Perm.append m.perm (List.reverse_perm _)).trans ?_
    refine List.perm_append_comm.trans ?_
    rw [List.append_assoc]
  · rcases List.mem_append.mp h with z | z
    · exact m.la x z y (by have : A.take k = (A.take na).take k := by rw [List.take_take, Nat.min_eq_left hk]
                           rw [this] at g; exact List.mem_of_mem_take g)
    · exact p3 y g x (List.mem_reverse.mp z)
  · rcases List.mem_append.mp h with z | z
    · exact m.lb x z y g
    · exact hx x (List.mem_reverse.mp z) y g

theorem MH.fin {A B out : List Keyed} (m : MH A B out 0 0) : SP A B out.reverse :=
  ⟨(List.reverse_perm _).trans m.perm, List.pairwise_reverse.mpr m.srt⟩

theorem MH.allA {A B out : List Keyed} {na : Nat} (hA : A.Pairwise kle) (m : MH A B out na 0) (hn : na ≤ A.length) : SP A B (A.take na ++ out.reverse) := by
  have h := (m.more hA (Nat.zero_le _) hn (fun x _ y g => by rw [List.take_zero] at g; cases g)).fin
  rwa [List.drop_zero, List.reverse_append, List.reverse_reverse] at h

theorem MH.allB {A B out : List Keyed} {nb : Nat} (hB : B.Pairwise kle) (m : MH A B out 0 nb) (hn : nb ≤ B.length) : SP A B (B.take nb ++ out.reverse) := by
  have h := m.swap.allA hB hn
  exact ⟨h.1.trans List.perm_append_comm, h.2⟩

theorem MH.first {A B out : List Keyed} {na nb : Nat} (hA : A.Pairwise kle) (hB : B.Pairwise kle) (m : MH A B out na nb) (ha : na ≤ A.length) (hb : nb ≤ B.length) (hx : ∀ x ∈ B.take nb, ∀ y ∈ A.take na, kle x y) :
    SP A B (B.take nb ++ A.take na ++ out.reverse) := by
  have h := (m.more hA (Nat.zero_le _) ha (fun x g y g2 => hx y g2 x (by rwa [List.drop_zero] at g))).allB hB hb
  rwa [List.drop_zero, List.reverse_append, List.reverse_reverse, ← List.append_assoc] at h

theorem ext0 {a : Array Keyed} {k : Nat} : (a.extract 0 k).toList = a.toList.take k := by
  rw [Array.toList_extract, List.extract_eq_drop_take, List.drop_zero, Nat.sub_zero]
theorem ext2 {a : Array Keyed} {i k : Nat} : (a.extract i k).toList = (a.toList.take k).drop i := by
  rw [Array.toList_extract, List.extract_eq_drop_take, List.drop_take]
theorem drop_last {a : Array Keyed} {n : Nat} {p : Keyed} (h : a[n - 1]? = some p) (hn : 0 < n) (hs : n ≤ a.size) : (a.toList.take n).drop (n - 1) = [p] := by
  have := drop_one h
  rw [List.drop_take, show n - (n - 1) = 1 by omega]
  exact this
theorem MH.one {a b out : Array Keyed} {na nb : Nat} {p : Keyed} (hA : a.toList.Pairwise kle) (m : MH a.toList b.toList out.toList na nb) (hp : a[na - 1]? = some p) (hn : 0 < na) (hs : na ≤ a.size) (hx : ∀ y ∈ b.toList.take nb, kle y p) :
    MH a.toList b.toList (out.push p).toList (na - 1) nb := by
  have := m.more hA (k := na - 1) (by omega) (by rw [Array.length_toList]; exact hs) (by rw [drop_last hp hn hs]; intro x hx' y hy; rw [List.mem_singleton.mp hx']; exact hx y hy)
  rw [drop_last hp hn hs] at this
  rwa [Array.toList_push]
theorem MH.blk {a b out : Array Keyed} {na nb k : Nat} (hA : a.toList.Pairwise kle) (m : MH a.toList b.toList out.toList na nb) (hk : k ≤ na) (hs : na ≤ a.size) (hx : ∀ x ∈ (a.toList.take na).drop k, ∀ y ∈ b.toList.take nb, kle y x) :
    MH a.toList b.toList (out ++ (a.extract k na).reverse).toList k nb := by
  rw [Array.toList_append, Array.toList_reverse, ext2]
  exact m.more hA hk (by rw [Array.length_toList]; exact hs) hx
theorem MH.done0 {a b out : Array Keyed} {na nb : Nat} (hA : a.toList.Pairwise kle) (m : MH a.toList b.toList out.toList na nb) (e : nb = 0) (hs : na ≤ a.size) :
    SP a.toList b.toList (a.extract 0 na ++ b.extract 0 nb ++ out.reverse).toList := by
  subst e
  rw [Array.toList_append, Array.toList_append, Array.toList_reverse, ext0, ext0, List.take_zero, List.append_nil]
  exact m.allA hA (by rw [Array.length_toList]; exact hs)
theorem MH.doneZ {a b out : Array Keyed} {na nb : Nat} (hB : b.toList.Pairwise kle) (m : MH a.toList b.toList out.toList na nb) (e : na = 0) (hs : nb ≤ b.size) :
    SP a.toList b.toList (a.extract 0 na ++ b.extract 0 nb ++ out.reverse).toList := by
  subst e
  rw [Array.toList_append, Array.toList_append, Array.toList_reverse, ext0, ext0, List.take_zero, List.nil_append]
  exact m.allB hB (by rw [Array.length_toList]; exact hs)
theorem MH.firstB {a b out : Array Keyed} {na nb : Nat} (hA : a.toList.Pairwise kle) (hB : b.toList.Pairwise kle) (m : MH a.toList b.toList out.toList na nb) (e : nb = 1) (ha : na ≤ a.size) (hb : 0 < b.size)
    (hx : ∀ x ∈ b.toList.take 1, ∀ y ∈ a.toList, kle x y) : SP a.toList b.toList (b.extract 0 nb ++ a.extract 0 na ++ out.reverse).toList := by
  subst e
  rw [Array.toList_append, Array.toList_append, Array.toList_reverse, ext0, ext0]
  exact m.first hA hB (by rw [Array.length_toList]; exact ha) (by rw [Array.length_toList]; exact hb) fun x h y g => hx x h y (List.mem_of_mem_take g)
theorem mem_takeN_at {a : Array Keyed} {n : Nat} {x : Keyed} (h : x ∈ a.toList.take n) : ∃ j, j < n ∧ j < a.size ∧ a[j]? = some x := by
  obtain ⟨j, h1, h2, h3⟩ := mem_take_at (i := 0) (k := n) (by rw [List.drop_zero]; exact h)
  rw [Nat.zero_add] at h2 h3
  exact ⟨j, h1, h2, h3⟩
theorem mem_seg_at {a : Array Keyed} {n k : Nat} {x : Keyed} (h : x ∈ (a.toList.take n).drop k) : ∃ j, k ≤ j ∧ j < n ∧ j < a.size ∧ a[j]? = some x := by
  rw [List.drop_take] at h
  obtain ⟨j, h1, h2, h3⟩ := mem_take_at h
  exact ⟨k + j, by omega, by omega, h2, h3⟩
theorem kge_at {b : Array Keyed} {n : Nat} {p q : Keyed} (hB : b.toList.Pairwise kle) (hq : b[n - 1]? = some q) (h : kle q p) (hn : n ≤ b.size) (h0 : 0 < n) : ∀ y ∈ b.toList.take n, kle y p := by
  intro y hy
  obtain ⟨j, h1, h2, h3⟩ := mem_takeN_at hy
  have := K_pw hB (i := j) (j := n - 1) (by omega) (by omega)
  rw [K_kn h3, K_kn hq] at this
  exact kle_trans this h

structure MW (a b out : Array Keyed) (na nb : Nat) : Prop where
  m : MH a.toList b.toList out.toList na nb
  a1 : 1 ≤ na
  a2 : na ≤ a.size
  b1 : 2 ≤ nb
  b2 : nb ≤ b.size

section
variable {prog : Program} {w : World} {A : Around} {E : Value → Shared → Prop} {s : Shared}

theorem wpS_mergeHi {st : SortSt} {a b : Array Keyed} {Q : Array Keyed → SortSt → Prop} (hk : kindOf st = oneType') (iA : ∀ x ∈ a.toList, IntK x) (iB : ∀ x ∈ b.toList, IntK x)
    (hA : a.toList.Pairwise kle) (hB : b.toList.Pairwise kle) (na0 : 0 < a.size) (nb0 : 0 < b.size)
    (hb0 : ∀ x ∈ b.toList.take 1, ∀ y ∈ a.toList, kle x y) (hla : ∀ x ∈ b.toList, ∀ y ∈ a.toList.drop (a.size - 1), kle x y)
    (h : ∀ r g, SP a.toList b.toList r.toList → Q r (setG st g)) :
    wpS (model prog w) A E s (mergeHiR a b) Q st := by
  have pA : ∀ {i}, i < a.size → ∃ p, a[i]? = some p ∧ IntK p := fun hi => ⟨_, Array.getElem?_eq_getElem hi, iA _ (Array.getElem_mem_toList hi)⟩
  have pB : ∀ {i}, i < b.size → ∃ p, b[i]? = some p ∧ IntK p := fun hi => ⟨_, Array.getElem?_eq_getElem hi, iB _ (Array.getElem_mem_toList hi)⟩
  obtain ⟨z, hz, iz⟩ := pA (show a.size - 1 < a.size by omega)
  refine wpS_bind (wpS_lift (wpAny_rule ⟨rfl, ?_⟩))
  refine wpS_bind (wpS_elem hz ?_)
  have m0 : MH a.toList b.toList (#[z] : Array Keyed).toList (a.size - 1) b.size := by
    have e : MH a.toList b.toList (#[] : Array Keyed).toList a.size b.size := ⟨by rw [List.drop_of_length_le (Nat.le_of_eq Array.length_toList), List.drop_of_length_le (Nat.le_of_eq Array.length_toList)]; exact List.Perm.refl _, List.Pairwise.nil, nofun, nofun⟩
    exact e.one hA hz na0 (Nat.le_refl _) fun y hy => hla y (List.mem_of_mem_take hy) z (List.mem_of_mem_take (i := 1) (by rw [drop_one hz]; exact List.mem_singleton.mpr rfl))
  refine wpS_ite' (fun c1 => wpS_pure (h _ (gallopOf st) (m0.doneZ hB (beq_iff_eq.mp c1) (Nat.le_refl _)))) (fun c1 => ?_)
  refine wpS_ite' (fun c2 => wpS_pure (h _ (gallopOf st) (m0.firstB hA hB (beq_iff_eq.mp c2) (by omega) nb0 hb0))) (fun c2 => ?_)
  replace c1 : a.size - 1 ≠ 0 := fun z => c1 (beq_iff_eq.mpr z)
  replace c2 : b.size ≠ 1 := fun z => c2 (beq_iff_eq.mpr z)
  refine wpS_bind (wpS_get ?_)
  refine wpS_bind (wpS_mono (wpS_forRange
    (I := fun x c st' => (∃ g, setG st g = st') ∧ ∃ na nb out mg, c = (none, na, nb, out, mg) ∧ MW a b out na nb ∧ x + 1 + na + nb ≤ a.size + b.size)
    (Q := fun c st' => (∃ g, setG st g = st') ∧ ∃ r rest, c = (some r, rest) ∧ SP a.toList b.toList r.toList)
    ?_ ?_ ⟨⟨gallopOf st, rfl⟩, _, _, _, _, rfl, ⟨m0, by omega, by omega, by omega, by omega⟩, by omega⟩) ?_)
  · rintro x0 c st' _ hx0 ⟨⟨g, rfl⟩, na, nb, out, mg, rfl, v, hx⟩
    refine wpS_bind (wpS_mono (wpS_forRange
      (I := fun x c st' => setG st g = st' ∧ ∃ na nb out ac bc, c = (none, na, nb, out, ac, bc) ∧ MW a b out na nb ∧ x0 + 1 + x + na + nb ≤ a.size + b.size)
      (Q := fun c st' => setG st g = st' ∧ ((∃ r rest, c = (some r, rest) ∧ SP a.toList b.toList r.toList) ∨ ∃ na nb out ac bc, c = (none, na, nb, out, ac, bc) ∧ MW a b out na nb ∧ x0 + 2 + na + nb ≤ a.size + b.size))
      ?_ ?_ ⟨rfl, na, nb, out, 0, 0, rfl, v, by omega⟩) ?_)
    · rintro x c st' _ hx1 ⟨rfl, na, nb, out, ac, bc, rfl, v, hx⟩
      obtain ⟨vm, a1, a2, b1, b2⟩ := v
      obtain ⟨p, hp, ip⟩ := pA (show na - 1 < a.size by omega)
      obtain ⟨q, hq, iq⟩ := pB (show nb - 1 < b.size by omega)
      refine wpS_bind (wpS_elem hq (wpS_bind (wpS_elem hp (wpS_bind (wpS_lt hk iq ip ?_)))))
      dsimp only
      refine wpS_ite' (fun c3 => ?_) (fun c3 => ?_)
      · have c3' : kle q p := Int.le_of_lt (of_decide_eq_true c3)
        have m2 := vm.one hA hp a1 a2 (kge_at hB hq c3' b2 (by omega))
        refine wpS_bind (wpS_elem hp ?_)
        refine wpS_ite' (fun c4 => wpS_pure ⟨rfl, .inl ⟨_, _, rfl, m2.doneZ hB (beq_iff_eq.mp c4) b2⟩⟩) (fun c4 => ?_)
        have c4' : na - 1 ≠ 0 := fun z => c4 (beq_iff_eq.mpr z)
        exact wpS_ite' (fun c5 => wpS_pure ⟨rfl, .inr ⟨_, _, _, _, _, rfl, ⟨m2, by omega, by omega, b1, b2⟩, by omega⟩⟩) (fun c5 => wpS_pure ⟨rfl, _, _, _, _, _, rfl, ⟨m2, by omega, by omega, b1, b2⟩, by omega⟩)
      · have c3' : kle p q := Int.not_lt.mp (fun z => c3 (decide_eq_true z))
        have m2 := (vm.swap.one hB hq (by omega) b2 (kge_at hA hp c3' a2 a1)).swap
        refine wpS_bind (wpS_elem hq ?_)
        refine wpS_ite' (fun c4 => wpS_pure ⟨rfl, .inl ⟨_, _, rfl, m2.firstB hA hB (beq_iff_eq.mp c4) a2 nb0 hb0⟩⟩) (fun c4 => ?_)
        have c4' : nb - 1 ≠ 1 := fun z => c4 (beq_iff_eq.mpr z)
        exact wpS_ite' (fun c5 => wpS_pure ⟨rfl, .inr ⟨_, _, _, _, _, rfl, ⟨m2, a1, a2, by omega, by omega⟩, by omega⟩⟩) (fun c5 => wpS_pure ⟨rfl, _, _, _, _, _, rfl, ⟨m2, a1, a2, by omega, by omega⟩, by omega⟩)
    · rintro c st' ⟨rfl, na, nb, out, ac, bc, rfl, ⟨vm, a1, a2, b1, b2⟩, hx⟩
      omega
    · rintro c st' ⟨rfl, ⟨r, rest, rfl, hr⟩ | ⟨na, nb, out, ac, bc, rfl, v, hx⟩⟩
      · exact wpS_pure ⟨⟨g, rfl⟩, r, _, rfl, hr⟩
      refine wpS_bind (wpS_lift (wpAny_rule ⟨rfl, ?_⟩))
      refine wpS_bind (wpS_mono (wpS_forRange
        (I := fun x c st' => (∃ g, setG st g = st') ∧ ∃ na nb out mg ac bc, c = (none, na, nb, out, mg, ac, bc) ∧ MW a b out na nb ∧ x0 + 2 + x + na + nb ≤ a.size + b.size)
        (Q := fun c st' => (∃ g, setG st g = st') ∧ ((∃ r rest, c = (some r, rest) ∧ SP a.toList b.toList r.toList) ∨ ∃ na nb out mg ac bc, c = (none, na, nb, out, mg, ac, bc) ∧ MW a b out na nb ∧ x0 + 2 + na + nb ≤ a.size + b.size))
        ?_ ?_ ⟨⟨g, rfl⟩, na, nb, out, _, ac, bc, rfl, v, by omega⟩) ?_)
      · rintro x c st' _ hx1 ⟨⟨g, rfl⟩, na, nb, out, mg, ac, bc, rfl, ⟨vm, a1, a2, b1, b2⟩, hx⟩
        obtain ⟨q, hq, iq⟩ := pB (show nb - 1 < b.size by omega)
        dsimp (config := { zeta := false, zetaHave := false, zetaUnused := false }) only
        extract_lets _ _ _ _ _ _ _ _ _ _ _ _ jp
        suffices hj : ∀ mg', wpS (model prog w) A E s (jp () mg') _ (setG st g) from wpS_ite' (fun _ => hj _) (fun _ => hj _)
        intro mg'
        refine wpS_bind (wpS_modify ?_)
        refine wpS_bind (wpS_elem hq ?_)
        refine wpS_bind (wpS_gallop (left := false) (arr := a) (base := 0) (n := na) (hint := na - 1) hk iq (fun i hi => by rw [Nat.zero_add]; exact pA (i := i) (by omega)) (fun i j hij hj => by rw [Nat.zero_add, Nat.zero_add]; exact K_pw hA hij (by omega)) (by omega) fun k k1 k2 k3 => ?_)
        have le1 : ∀ x ∈ (a.toList.take na).drop k, ∀ y ∈ b.toList.take nb, kle y x := fun x hx y hy => by
          obtain ⟨j, h1, h2, h3, h4⟩ := mem_seg_at hx
          exact kge_at hB hq (gp_false' (k3 j h1 h2) (by rw [Nat.zero_add]; exact h4)) b2 (by omega) y hy
        have le2 : ∀ y ∈ a.toList.take k, kle y q := fun y hy => by
          obtain ⟨j, h1, h2, h3⟩ := mem_takeN_at hy
          exact gp_false (k2 j h1) (by rw [Nat.zero_add]; exact h3)
        dsimp (config := { zeta := false, zetaHave := false, zetaUnused := false }) only
        extract_lets _ _ jp2
        suffices hj2 : ∀ (n2 : Nat) (o2 : Array Keyed), MH a.toList b.toList o2.toList n2 nb → 1 ≤ n2 → n2 ≤ na → (∀ y ∈ a.toList.take n2, kle y q) → wpS (model prog w) A E s (jp2 () n2 o2) _ (setG st mg') by
          refine wpS_ite' (fun c3 => ?_) (fun c3 => hj2 na out vm a1 (Nat.le_refl _) (by have c3' : ¬ (na - k > 0) := c3; rw [show na = k by omega]; exact le2))
          have m2 := vm.blk hA k1 a2 le1
          refine wpS_ite' (fun c4 => wpS_pure ⟨⟨mg', rfl⟩, .inl ⟨_, _, rfl, m2.doneZ hB (beq_iff_eq.mp c4) b2⟩⟩) (fun c4 => ?_)
          have c4' : k ≠ 0 := fun z => c4 (beq_iff_eq.mpr z)
          exact hj2 k _ m2 (by omega) k1 le2
        intro n2 o2 m2 hn2 hle qle
        obtain ⟨p, hp, ip⟩ := pA (show n2 - 1 < a.size by omega)
        refine wpS_bind (wpS_elem hq ?_)
        have m3 := (m2.swap.one hB hq (by omega) b2 qle).swap
        refine wpS_ite' (fun c4 => wpS_pure ⟨⟨mg', rfl⟩, .inl ⟨_, _, rfl, m3.firstB hA hB (beq_iff_eq.mp c4) (by omega) nb0 hb0⟩⟩) (fun c4 => ?_)
        have c4' : nb - 1 ≠ 1 := fun z => c4 (beq_iff_eq.mpr z)
        refine wpS_bind (wpS_elem hp ?_)
        refine wpS_bind (wpS_gallop (left := true) (arr := b) (base := 0) (n := nb - 1) (hint := nb - 1 - 1) hk ip (fun i hi => by rw [Nat.zero_add]; exact pB (i := i) (by omega)) (fun i j hij hj => by rw [Nat.zero_add, Nat.zero_add]; exact K_pw hB hij (by omega)) (by omega) fun k' l1 l2 l3 => ?_)
        have le3 : ∀ x ∈ (b.toList.take (nb - 1)).drop k', ∀ y ∈ a.toList.take n2, kle y x := fun x hx y hy => by
          obtain ⟨j, h1, h2, h3, h4⟩ := mem_seg_at hx
          exact kge_at hA hp (gp_true' (l3 j h1 h2) (by rw [Nat.zero_add]; exact h4)) (by omega) hn2 y hy
        have le4 : ∀ y ∈ b.toList.take k', kle y p := fun y hy => by
          obtain ⟨j, h1, h2, h3⟩ := mem_takeN_at hy
          exact gp_true (l2 j h1) (by rw [Nat.zero_add]; exact h3)
        dsimp (config := { zeta := false, zetaHave := false, zetaUnused := false }) only
        extract_lets _ _ _ jp3
        suffices hj3 : ∀ (n3 : Nat) (o3 : Array Keyed), MH a.toList b.toList o3.toList n2 n3 → 2 ≤ n3 → n3 ≤ nb - 1 → (∀ y ∈ b.toList.take n3, kle y p) → wpS (model prog w) A E s (jp3 () n3 o3) _ (setG st mg') by
          refine wpS_ite' (fun c3 => ?_) (fun c3 => hj3 (nb - 1) _ m3 (by omega) (Nat.le_refl _) (by have c3' : ¬ (nb - 1 - k' > 0) := c3; rw [show nb - 1 = k' by omega]; exact le4))
          have m4 := (m3.swap.blk hB l1 (by omega) le3).swap
          refine wpS_ite' (fun c5 => wpS_pure ⟨⟨mg', rfl⟩, .inl ⟨_, _, rfl, m4.firstB hA hB (beq_iff_eq.mp c5) (by omega) nb0 hb0⟩⟩) (fun c5 => ?_)
          refine wpS_ite' (fun c6 => wpS_pure ⟨⟨mg', rfl⟩, .inl ⟨_, _, rfl, m4.done0 hA (beq_iff_eq.mp c6) (by omega)⟩⟩) (fun c6 => ?_)
          have c5' : k' ≠ 1 := fun z => c5 (beq_iff_eq.mpr z)
          have c6' : k' ≠ 0 := fun z => c6 (beq_iff_eq.mpr z)
          exact hj3 k' _ m4 (by omega) l1 le4
        intro n3 o3 m4 hn3 hle3 ple
        refine wpS_bind (wpS_elem hp ?_)
        have m5 := m4.one hA hp hn2 (by omega) ple
        refine wpS_ite' (fun c5 => wpS_pure ⟨⟨mg', rfl⟩, .inl ⟨_, _, rfl, m5.doneZ hB (beq_iff_eq.mp c5) (by omega)⟩⟩) (fun c5 => ?_)
        have c5' : n2 - 1 ≠ 0 := fun z => c5 (beq_iff_eq.mpr z)
        exact wpS_ite' (fun c6 => wpS_pure ⟨⟨mg', rfl⟩, .inr ⟨_, _, _, _, _, _, rfl, ⟨m5, by omega, by omega, hn3, by omega⟩, by omega⟩⟩) (fun c6 => wpS_pure ⟨⟨mg', rfl⟩, _, _, _, _, _, _, rfl, ⟨m5, by omega, by omega, hn3, by omega⟩, by omega⟩)
      · rintro c st' ⟨⟨g, rfl⟩, na, nb, out, mg, ac, bc, rfl, ⟨vm, a1, a2, b1, b2⟩, hx⟩
        omega
      · rintro c st' ⟨⟨g, rfl⟩, ⟨r, rest, rfl, hr⟩ | ⟨na, nb, out, mg, ac, bc, rfl, v, hx⟩⟩
        · exact wpS_pure ⟨⟨g, rfl⟩, r, _, rfl, hr⟩
        · exact wpS_bind (wpS_modify (wpS_pure ⟨⟨_, rfl⟩, _, _, _, _, rfl, v, by omega⟩))
  · rintro c st' ⟨⟨g, rfl⟩, na, nb, out, mg, rfl, ⟨vm, a1, a2, b1, b2⟩, hx⟩
    omega
  · rintro c st' ⟨⟨g, rfl⟩, r, rest, rfl, hr⟩
    exact wpS_pure (h r g hr)
end
end Srt

set_option maxHeartbeats 4000000
namespace Srt
open PySem PyProof PyProof.Rows

def AllI (xs : Array Keyed) : Prop := ∀ p ∈ xs.toList, IntK p
theorem AllI.perm {xs ys : Array Keyed} (h : AllI xs) (hp : ys.Perm xs) : AllI ys := fun p hm => h p ((Array.perm_iff_toList_perm.mp hp).mem_iff.mp hm)
def SortedIn (xs : Array Keyed) (i j : Nat) : Prop := ∀ p q, i ≤ p → p ≤ q → q < j → K xs p ≤ K xs q

def putAll (xs : Array Keyed) (at' n : Nat) (l : List Keyed) : Array Keyed := (l.zipIdx n).foldl (fun a (p : Keyed × Nat) => a.setIfInBounds (at' + p.2) p.1) xs
theorem putAll_get : ∀ (l : List Keyed) (xs : Array Keyed) (at' n : Nat), at' + n + l.length ≤ xs.size → ∀ k : Nat,
    (putAll xs at' n l)[k]? = if at' + n ≤ k ∧ k < at' + n + l.length then l[k - (at' + n)]? else xs[k]?
  | [], xs, at', n, _, k => by
    show xs[k]? = _
    rw [if_neg (by rw [List.length_nil]; omega)]
  | p :: l, xs, at', n, h, k => by
    rw [List.length_cons] at h ⊢
    show (putAll (xs.setIfInBounds (at' + n) p) at' (n + 1) l)[k]? = _
    rw [putAll_get l _ at' (n + 1) (by rw [Array.size_setIfInBounds]; omega) k]
    by_cases e : k = at' + n
    · subst e
      rw [if_neg (by omega), if_pos (by omega), Nat.sub_self, List.getElem?_cons_zero, Array.getElem?_setIfInBounds_self_of_lt (by omega)]
    · by_cases g : at' + n ≤ k ∧ k < at' + n + (l.length + 1)
      · rw [if_pos g, if_pos (by omega), show k - (at' + n) = (k - (at' + (n + 1))) + 1 by omega, List.getElem?_cons_succ]
      · rw [if_neg g, if_neg (by omega), Array.getElem?_setIfInBounds_ne (by omega)]
theorem putAll_list {xs : Array Keyed} {at' : Nat} {l : List Keyed} (h : at' + l.length ≤ xs.size) :
    (putAll xs at' 0 l).toList = xs.toList.take at' ++ (l ++ xs.toList.drop (at' + l.length)) := by
  have hlt : (xs.toList.take at').length = at' := by rw [List.length_take, Array.length_toList]; omega
  apply List.ext_getElem?
  intro k
  have e := putAll_get l xs at' 0 (by omega) k
  rw [Nat.add_zero] at e
  rw [Array.getElem?_toList, e]
  by_cases h1 : k < at'
  · rw [if_neg (by omega), List.getElem?_append_left (by omega), List.getElem?_take, if_pos h1, Array.getElem?_toList]
  · rw [List.getElem?_append_right (by omega), hlt]
    by_cases h2 : k < at' + l.length
    · rw [if_pos (by omega), List.getElem?_append_left (by omega)]
    · rw [if_neg (by omega), List.getElem?_append_right (by omega), List.getElem?_drop, Array.getElem?_toList, show at' + l.length + (k - at' - l.length) = k by omega]
theorem seg_list {xs : Array Keyed} {i j : Nat} (h : i ≤ j) : xs.toList = xs.toList.take i ++ ((xs.extract i j).toList ++ xs.toList.drop j) := by
  rw [ext2, ← List.append_assoc]
  have : xs.toList.take i ++ (xs.toList.take j).drop i = xs.toList.take j := by
    conv => rhs; rw [← List.take_append_drop i (xs.toList.take j)]
    rw [List.take_take, Nat.min_eq_left h]
  rw [this, List.take_append_drop]
theorem pw_of {xs : Array Keyed} {i j : Nat} (h : SortedIn xs i j) (hj : j ≤ xs.size) : (xs.extract i j).toList.Pairwise kle := by
  rw [List.pairwise_iff_getElem]
  intro p q hp hq hpq
  rw [ext2, List.length_drop, List.length_take, Array.length_toList] at hp hq
  simp only [ext2, List.getElem_drop, List.getElem_take, Array.getElem_toList]
  have := h (i + p) (i + q) (by omega) (by omega) (by omega)
  rw [K_kn (Array.getElem?_eq_getElem (by omega)), K_kn (Array.getElem?_eq_getElem (by omega))] at this
  exact this

section
variable {prog : Program} {w : World} {A : Around} {E : Value → Shared → Prop} {s : Shared}

/-- two runs side by side made one -/
theorem wpS_mergeAt {st : SortSt} {i sa na sb nb pw pw2 : Nat} {Q : Bool → SortSt → Prop} (hk : kindOf st = oneType') (hf : failedOf st = none) (hI : AllI (arrOf st))
    (h1 : (pendingOf st)[i]? = some (sa, na, pw)) (h2 : (pendingOf st)[i + 1]? = some (sb, nb, pw2)) (hsb : sb = sa + na) (hna : 1 ≤ na) (hnb : 1 ≤ nb) (hsz : sb + nb ≤ (arrOf st).size)
    (s1 : SortedIn (arrOf st) sa sb) (s2 : SortedIn (arrOf st) sb (sb + nb))
    (h : ∀ xs g, xs.Perm (arrOf st) → SortedIn xs sa (sb + nb) → (∀ k, k < sa ∨ sb + nb ≤ k → K xs k = K (arrOf st) k) →
      Q true (SortSt.mk' oneType' xs (((pendingOf st).setIfInBounds i (sa, na + nb, pw)).eraseIdxIfInBounds (i + 1)) g none)) :
    wpS (model prog w) A E s (mergeAt' i) Q st := by
  obtain ⟨kd, xs, pd, g0, fl⟩ := st
  cases hk
  cases hf
  refine wpS_bind (wpS_get ?_)
  have h1' : pd[i]? = some (sa, na, pw) := h1
  have h2' : pd[i + 1]? = some (sb, nb, pw2) := h2
  replace hI : AllI xs := hI
  replace hsz : sb + nb ≤ xs.size := hsz
  replace s1 : SortedIn xs sa sb := s1
  replace s2 : SortedIn xs sb (sb + nb) := s2
  replace h : ∀ ys g, ys.Perm xs → SortedIn ys sa (sb + nb) → (∀ k, k < sa ∨ sb + nb ≤ k → K ys k = K xs k) →
      Q true (SortSt.mk' oneType' ys ((pd.setIfInBounds i (sa, na + nb, pw)).eraseIdxIfInBounds (i + 1)) g none) := h
  dsimp only
  rw [h1', h2']
  dsimp only
  have pX : ∀ {i}, i < xs.size → ∃ p, xs[i]? = some p ∧ IntK p := fun hi => ⟨_, Array.getElem?_eq_getElem hi, hI _ (Array.getElem_mem_toList hi)⟩
  refine wpS_bind (wpS_modify ?_)
  obtain ⟨q, hq, iq⟩ := pX (show sb < xs.size by omega)
  refine wpS_bind (wpS_elem hq ?_)
  refine wpS_bind (wpS_gallop (left := false) (arr := xs) (base := sa) (n := na) (hint := 0) rfl iq (fun i hi => pX (i := sa + i) (by omega)) (fun i j hij hj => s1 _ _ (by omega) (by omega) (by omega)) (by omega) fun k k1 k2 k3 => ?_)
  have f1 : ∀ p, sa ≤ p → p < sa + k → K xs p ≤ K xs sb := fun p p1 p2 => by
    obtain ⟨u, hu, _⟩ := pX (show p < xs.size by omega)
    rw [K_kn hu, K_kn hq]
    exact gp_false (k2 (p - sa) (by omega)) (by rw [show sa + (p - sa) = p by omega]; exact hu)
  have f2 : ∀ p, sa + k ≤ p → p < sb → K xs sb ≤ K xs p := fun p p1 p2 => by
    obtain ⟨u, hu, _⟩ := pX (show p < xs.size by omega)
    rw [K_kn hu, K_kn hq]
    exact gp_false' (k3 (p - sa) (by omega) (by omega)) (by rw [show sa + (p - sa) = p by omega]; exact hu)
  refine wpS_ite' (fun c1 => wpS_pure ?_) (fun c1 => ?_)
  · have c1' : na - k = 0 := beq_iff_eq.mp c1
    refine h xs g0 (Array.Perm.refl _) (fun p q' p1 p2 p3 => ?_) (fun _ _ => rfl)
    by_cases hp : q' < sb
    · exact s1 _ _ p1 p2 hp
    · by_cases hp2 : p < sb
      · exact Int.le_trans (f1 p p1 (by omega)) (s2 _ _ (Nat.le_refl _) (by omega) p3)
      · exact s2 _ _ (by omega) p2 p3
  have c1' : na - k ≠ 0 := fun z => c1 (beq_iff_eq.mpr z)
  obtain ⟨u, hu, iu⟩ := pX (show sb - 1 < xs.size by omega)
  have eu : sa + k + (na - k) - 1 = sb - 1 := by omega
  refine wpS_bind (wpS_elem (p := u) (by rw [eu]; exact hu) ?_)
  refine wpS_bind (wpS_gallop (left := true) (arr := xs) (base := sb) (n := nb) (hint := nb - 1) rfl iu (fun i hi => pX (i := sb + i) (by omega)) (fun i j hij hj => s2 _ _ (by omega) (by omega) (by omega)) (by omega) fun n' n1 n2 n3 => ?_)
  have f3 : ∀ p, sb ≤ p → p < sb + n' → K xs p ≤ K xs (sb - 1) := fun p p1 p2 => by
    obtain ⟨v, hv, _⟩ := pX (show p < xs.size by omega)
    rw [K_kn hv, K_kn hu]
    exact gp_true (n2 (p - sb) (by omega)) (by rw [show sb + (p - sb) = p by omega]; exact hv)
  have f4 : ∀ p, sb + n' ≤ p → p < sb + nb → K xs (sb - 1) ≤ K xs p := fun p p1 p2 => by
    obtain ⟨v, hv, _⟩ := pX (show p < xs.size by omega)
    rw [K_kn hv, K_kn hu]
    exact gp_true' (n3 (p - sb) (by omega) (by omega)) (by rw [show sb + (p - sb) = p by omega]; exact hv)
  refine wpS_ite' (fun c2 => wpS_pure ?_) (fun c2 => ?_)
  · have c2' : n' = 0 := beq_iff_eq.mp c2
    refine h xs g0 (Array.Perm.refl _) (fun p q' p1 p2 p3 => ?_) (fun _ _ => rfl)
    by_cases hp : q' < sb
    · exact s1 _ _ p1 p2 hp
    · by_cases hp2 : p < sb
      · exact Int.le_trans (s1 p (sb - 1) p1 (by omega) (by omega)) (f4 _ (by omega) p3)
      · exact s2 _ _ (by omega) p2 p3
  have c2' : n' ≠ 0 := fun z => c2 (beq_iff_eq.mpr z)
  -- the two that are merged
  have zX : (xs.extract (sa + k) sb).size = sb - (sa + k) := by rw [Array.size_extract]; omega
  have zY : (xs.extract sb (sb + n')).size = n' := by rw [Array.size_extract]; omega
  have gX : ∀ x ∈ (xs.extract (sa + k) sb).toList, ∃ j, sa + k ≤ j ∧ j < sb ∧ xs[j]? = some x := fun x hx => by
    rw [ext2] at hx
    obtain ⟨j, j1, j2, j3, j4⟩ := mem_seg_at hx
    exact ⟨j, j1, j2, j4⟩
  have gY : ∀ x ∈ (xs.extract sb (sb + n')).toList, ∃ j, sb ≤ j ∧ j < sb + n' ∧ xs[j]? = some x := fun x hx => by
    rw [ext2] at hx
    obtain ⟨j, j1, j2, j3, j4⟩ := mem_seg_at hx
    exact ⟨j, j1, j2, j4⟩
  have iX : ∀ x ∈ (xs.extract (sa + k) sb).toList, IntK x := fun x hx => by
    obtain ⟨j, _, _, hj⟩ := gX x hx
    exact hI x (mem_at hj)
  have iY : ∀ x ∈ (xs.extract sb (sb + n')).toList, IntK x := fun x hx => by
    obtain ⟨j, _, _, hj⟩ := gY x hx
    exact hI x (mem_at hj)
  have pwX : (xs.extract (sa + k) sb).toList.Pairwise kle := pw_of (fun p q p1 p2 p3 => s1 p q (by omega) p2 p3) (by omega)
  have pwY : (xs.extract sb (sb + n')).toList.Pairwise kle := pw_of (fun p q p1 p2 p3 => s2 p q p1 p2 (by omega)) (by omega)
  have hb0 : ∀ x ∈ (xs.extract sb (sb + n')).toList.take 1, ∀ y ∈ (xs.extract (sa + k) sb).toList, kle x y := fun x hx y hy => by
    have e0 : (xs.extract sb (sb + n'))[0]? = some q := by
      rw [Array.getElem?_extract, if_pos (by omega), Nat.add_zero]; exact hq
    have := drop_one e0
    rw [List.drop_zero] at this
    rw [this] at hx
    rw [List.mem_singleton.mp hx]
    obtain ⟨j, j1, j2, j3⟩ := gX y hy
    have := f2 j j1 j2
    rwa [K_kn hq, K_kn j3] at this
  have hla : ∀ x ∈ (xs.extract sb (sb + n')).toList, ∀ y ∈ (xs.extract (sa + k) sb).toList.drop ((xs.extract (sa + k) sb).size - 1), kle x y := fun x hx y hy => by
    have e0 : (xs.extract (sa + k) sb)[(xs.extract (sa + k) sb).size - 1]? = some u := by
      rw [zX, Array.getElem?_extract, if_pos (by omega), show sa + k + (sb - (sa + k) - 1) = sb - 1 by omega]; exact hu
    have hy' : y = u := by
      obtain ⟨j, j1, j2, j3⟩ := mem_drop_at hy
      have : j = (xs.extract (sa + k) sb).size - 1 := by omega
      rw [this, e0] at j3
      exact (Option.some.inj j3).symm
    rw [hy']
    obtain ⟨j, j1, j2, j3⟩ := gY x hx
    have := f3 j j1 j2
    rwa [K_kn hu, K_kn j3] at this
  have fin : ∀ (r : Array Keyed) (g : Nat), SP (xs.extract (sa + k) sb).toList (xs.extract sb (sb + n')).toList r.toList →
      Q true (SortSt.mk' oneType' (putAll xs (sa + k) 0 r.toList) ((pd.setIfInBounds i (sa, na + nb, pw)).eraseIdxIfInBounds (i + 1)) g none) := by
    intro r g hr
    have hl : r.toList.length = sb - (sa + k) + n' := by
      rw [hr.1.length_eq, List.length_append, Array.length_toList, Array.length_toList, zX, zY]
    have hget := putAll_get r.toList xs (sa + k) 0 (by omega)
    have hmid : ∀ p, sa + k ≤ p → p < sb + n' → ∃ x, (putAll xs (sa + k) 0 r.toList)[p]? = some x ∧ r.toList[p - (sa + k)]? = some x ∧ x ∈ r.toList := fun p p1 p2 => by
      have e := hget p
      rw [if_pos (by omega), Nat.add_zero] at e
      have hp : p - (sa + k) < r.toList.length := by omega
      rw [List.getElem?_eq_getElem hp] at e ⊢
      exact ⟨_, e, rfl, List.getElem_mem hp⟩
    have hout : ∀ p, p < sa + k ∨ sb + n' ≤ p → K (putAll xs (sa + k) 0 r.toList) p = K xs p := fun p hp => by
      have e := hget p
      rw [if_neg (by omega)] at e
      exact K_congr e
    have hbd : ∀ x ∈ r.toList, K xs sb ≤ kn x ∧ kn x ≤ K xs (sb - 1) := fun x hx => by
      rcases List.mem_append.mp (hr.1.mem_iff.mp hx) with z | z
      · obtain ⟨j, j1, j2, j3⟩ := gX x z
        rw [← K_kn j3]
        exact ⟨f2 j j1 j2, s1 _ _ (by omega) (by omega) (by omega)⟩
      · obtain ⟨j, j1, j2, j3⟩ := gY x z
        rw [← K_kn j3]
        exact ⟨s2 _ _ (Nat.le_refl _) j1 (by omega), f3 j j1 j2⟩
    have hKm : ∀ p, sa + k ≤ p → p < sb + n' → K xs sb ≤ K (putAll xs (sa + k) 0 r.toList) p ∧ K (putAll xs (sa + k) 0 r.toList) p ≤ K xs (sb - 1) := fun p p1 p2 => by
      obtain ⟨x, x1, x2, x3⟩ := hmid p p1 p2
      rw [K_kn x1]
      exact hbd x x3
    refine h _ g ?_ ?_ (fun p hp => hout p (by omega))
    · refine Array.perm_iff_toList_perm.mpr ?_
      rw [putAll_list (by omega), hl, show sa + k + (sb - (sa + k) + n') = sb + n' by omega]
      conv => rhs; rw [seg_list (xs := xs) (i := sa + k) (j := sb + n') (by omega)]
      refine List.Perm.append_left _ (List.Perm.append_right _ (hr.1.trans ?_))
      rw [ext2, ext2, ext2]
      have e1 : (xs.toList.take (sb + n')).drop (sa + k) = (xs.toList.take sb).drop (sa + k) ++ (xs.toList.take (sb + n')).drop sb := by
        conv => lhs; rw [← List.take_append_drop sb (xs.toList.take (sb + n'))]
        rw [List.take_take, Nat.min_eq_left (by omega), List.drop_append_of_le_length (by rw [List.length_take, Array.length_toList]; omega)]
      rw [e1]
    · intro p q' p1 p2 p3
      by_cases a1 : q' < sa + k
      · rw [hout p (.inl (by omega)), hout q' (.inl a1)]
        exact s1 _ _ p1 p2 (by omega)
      · by_cases a2 : q' < sb + n'
        · by_cases a3 : p < sa + k
          · rw [hout p (.inl a3)]
            exact Int.le_trans (f1 p p1 a3) (hKm q' (by omega) a2).1
          · obtain ⟨x, x1, x2, _⟩ := hmid p (by omega) (by omega)
            obtain ⟨y, y1, y2, _⟩ := hmid q' (by omega) a2
            rw [K_kn x1, K_kn y1]
            by_cases a4 : p = q'
            · subst a4
              rw [x1] at y1
              rw [Option.some.inj y1]
              exact Int.le_refl _
            · obtain ⟨i1, e1⟩ := List.getElem?_eq_some_iff.mp x2
              obtain ⟨i2, e2⟩ := List.getElem?_eq_some_iff.mp y2
              have := List.pairwise_iff_getElem.mp hr.2 _ _ i1 i2 (by omega)
              rwa [e1, e2] at this
        · rw [hout q' (.inr (by omega))]
          by_cases a3 : p < sa + k
          · rw [hout p (.inl a3)]
            exact Int.le_trans (f1 p p1 a3) (s2 _ _ (Nat.le_refl _) (by omega) p3)
          · by_cases a4 : p < sb + n'
            · exact Int.le_trans (hKm p (by omega) a4).2 (f4 q' (by omega) p3)
            · rw [hout p (.inr (by omega))]
              exact s2 _ _ (by omega) p2 p3
  refine wpS_ite' (fun c3 => ?_) (fun c3 => ?_)
  · refine wpS_bind (wpS_mergeLo rfl iX iY pwX pwY (by omega) (by omega) hb0 hla fun r g hr => ?_)
    exact wpS_bind (wpS_modify (wpS_bind (wpS_get (wpS_pure (fin r g hr)))))
  · refine wpS_bind (wpS_mergeHi rfl iX iY pwX pwY (by omega) (by omega) hb0 hla fun r g hr => ?_)
    exact wpS_bind (wpS_modify (wpS_bind (wpS_get (wpS_pure (fin r g hr)))))
end
end Srt

set_option maxHeartbeats 4000000
namespace Srt
open PySem PyProof PyProof.Rows

theorem one_in {xs : Array Keyed} {i : Nat} : SortedIn xs i (i + 1) := fun p q p1 p2 p3 => by
  have : p = q := by omega
  subst this; exact Int.le_refl _
def DecIn (xs : Array Keyed) (i j : Nat) : Prop := ∀ p q, i ≤ p → p ≤ q → q < j → K xs q ≤ K xs p
section
variable {prog : Program} {w : World} {A : Around} {E : Value → Shared → Prop} {s : Shared}

theorem wpS_ltX {st : SortSt} {xs : Array Keyed} {i j : Nat} {Q : Option Bool → SortSt → Prop} (hk : kindOf st = oneType') (hI : AllI xs) (hi : i < xs.size) (hj : j < xs.size)
    (h : Q (some (decide (K xs i < K xs j))) (setArr st xs)) : wpS (model prog w) A E s (ltAt' i j) Q (setArr st xs) := by
  have e1 := Array.getElem?_eq_getElem hi
  have e2 := Array.getElem?_eq_getElem hj
  rw [ltAt'_eq]
  refine wpS_bind (wpS_get ?_)
  refine wpS_bind (wpS_elem e1 (wpS_bind (wpS_elem e2 (wpS_lt hk (hI _ (Array.getElem_mem_toList hi)) (hI _ (Array.getElem_mem_toList hj)) ?_))))
  rw [K_kn e1, K_kn e2] at h
  exact h

/-- a run found: it is made to rise -/
theorem wpS_countRunX {st : SortSt} {xs : Array Keyed} {lo nrem : Nat} {Q : Option Nat → SortSt → Prop} (hk : kindOf st = oneType') (hI : AllI xs) (hn : lo + nrem ≤ xs.size) (h1 : 1 ≤ nrem)
    (h : ∀ m ys, ys.Perm xs → (∀ k, k < lo → K ys k = K xs k) → 1 ≤ m → m ≤ nrem → SortedIn ys lo (lo + m) → Q (some m) (setArr st ys)) :
    wpS (model prog w) A E s (countRun' lo nrem) Q (setArr st xs) := by
  refine wpS_bind (wpS_mono (wpS_forRange
    (I := fun x c st' => setArr st xs = st' ∧ c = (none, x) ∧ x ≤ nrem ∧ SortedIn xs lo (lo + x))
    (Q := fun c st' => setArr st xs = st' ∧ ∃ n, c = (none, n) ∧ 1 ≤ n ∧ n ≤ nrem ∧ SortedIn xs lo (lo + n) ∧ (n = nrem ∨ K xs (lo + n) < K xs (lo + n - 1)))
    ?_ ?_ ⟨rfl, rfl, h1, one_in⟩) ?_)
  · rintro x c st' hx1 hx2 ⟨rfl, rfl, hx, hs⟩
    dsimp only
    refine wpS_bind (wpS_ltX hk hI (by omega) (by omega) ?_)
    dsimp only
    refine wpS_ite' (fun c1 => wpS_pure ⟨rfl, x, rfl, hx1, by omega, hs, .inr (of_decide_eq_true c1)⟩) (fun c1 => wpS_pure ⟨rfl, rfl, by omega, fun p q p1 p2 p3 => ?_⟩)
    have c1' : K xs (lo + x - 1) ≤ K xs (lo + x) := Int.not_lt.mp fun z => c1 (decide_eq_true z)
    by_cases hq : q < lo + x
    · exact hs p q p1 p2 hq
    · have : q = lo + x := by omega
      subst this
      by_cases hp : p = lo + x
      · subst hp; exact Int.le_refl _
      · exact Int.le_trans (hs p (lo + x - 1) p1 (by omega) (by omega)) c1'
  · rintro c st' ⟨rfl, rfl, hx, hs⟩
    rw [show max 1 nrem = nrem by omega] at hs ⊢
    exact ⟨rfl, _, rfl, h1, Nat.le_refl _, hs, .inl rfl⟩
  rintro c st' ⟨rfl, n, rfl, n1, n2, hs, hor⟩
  refine wpS_ite' (c := (n == nrem) = true) (fun c1 => wpS_pure (h n xs (Array.Perm.refl _) (fun _ _ => rfl) n1 n2 hs)) (fun c1 => ?_)
  have c1' : n ≠ nrem := fun z => c1 (beq_iff_eq.mpr z)
  have hlt := hor.resolve_left c1'
  extract_lets _ _ jp
  suffices hj : ∀ ys, ys.Perm xs → (∀ k, k < lo → K ys k = K xs k) → DecIn ys lo (lo + (n + 1)) → wpS (model prog w) A E s (jp ()) Q (setArr st ys) by
    refine wpS_ite' (fun c2 => ?_) (fun c2 => ?_)
    · refine wpS_bind (wpS_ltX hk hI (by omega) (by omega) ?_)
      refine wpS_ite' (c := decide (K xs lo < K xs (lo + n - 1)) = true) (fun c3 => wpS_pure (h n xs (Array.Perm.refl _) (fun _ _ => rfl) n1 n2 hs)) (fun c3 => ?_)
      have c3' : K xs (lo + n - 1) ≤ K xs lo := Int.not_lt.mp fun z => c3 (decide_eq_true z)
      have all : ∀ k, lo ≤ k → k < lo + n → K xs k = K xs (lo + n - 1) := fun k k1 k2 => by
        have a1 := hs lo k (Nat.le_refl _) k1 k2
        have a2 := hs k (lo + n - 1) k1 (by omega) (by omega)
        omega
      refine wpS_bind (wpS_modify ?_)
      have e := K_mirror_equal (i := lo) (j := lo + n) (xs := xs) (by omega) all
      refine hj (mirror xs lo (lo + n) ((lo + n - lo) / 2)) (mirror_perm _ _ _ _) (fun k _ => e k) (fun p q p1 p2 p3 => ?_)
      rw [e, e]
      by_cases hq : q < lo + n
      · rw [all q (by omega) hq, all p p1 (by omega)]; exact Int.le_refl _
      · have : q = lo + n := by omega
        subst this
        by_cases hp : p = lo + n
        · subst hp; exact Int.le_refl _
        · rw [all p p1 (by omega)]; exact Int.le_of_lt hlt
    · refine hj xs (Array.Perm.refl _) (fun _ _ => rfl) (fun p q p1 p2 p3 => ?_)
      have c2' : ¬ n > 1 := c2
      have : n = 1 := by omega
      subst this
      by_cases hp : p = q
      · subst hp; exact Int.le_refl _
      · have : p = lo := by omega
        have : q = lo + 1 := by omega
        subst p q
        exact Int.le_of_lt hlt
  intro ys yp yl yd
  have yz : ys.size = xs.size := yp.size_eq
  refine wpS_bind (wpS_lift (wpAny_rule ⟨rfl, ?_⟩))
  refine wpS_bind (wpS_mono (wpS_forRange
    (I := fun x c st' => ∃ zs neq, setArr st zs = st' ∧ c = (none, x, neq) ∧ zs.Perm xs ∧ (∀ k, k < lo → K zs k = K xs k) ∧ DecIn zs lo (lo + x) ∧ x ≤ nrem ∧ neq + 1 ≤ x ∧ (∀ i, lo + x - (neq + 1) ≤ i → i < lo + x → K zs i = K zs (lo + x - 1)))
    (Q := fun c st' => ∃ zs m neq, setArr st zs = st' ∧ c = (none, m, neq) ∧ zs.Perm xs ∧ (∀ k, k < lo → K zs k = K xs k) ∧ DecIn zs lo (lo + m) ∧ 1 ≤ m ∧ m ≤ nrem ∧ neq + 1 ≤ m ∧ (∀ i, lo + m - (neq + 1) ≤ i → i < lo + m → K zs i = K zs (lo + m - 1)))
    ?_ ?_ ⟨ys, 0, rfl, rfl, yp, yl, yd, by omega, by omega, fun i i1 i2 => by rw [show i = lo + (n + 1) - 1 by omega]⟩) ?_)
  · rintro x c st' hx1 hx2 ⟨zs, neq, rfl, rfl, zp, zl, zd, z1, z2, z3⟩
    have zz : zs.size = xs.size := zp.size_eq
    have hx1' : n + 1 ≤ x := hx1
    refine wpS_bind (wpS_ltX hk (hI.perm zp) (by show lo + x < zs.size; omega) (by show lo + x - 1 < zs.size; omega) ?_)
    have grow : ∀ us : Array Keyed, (∀ k, K us k = K zs k) → K zs (lo + x) ≤ K zs (lo + x - 1) → DecIn us lo (lo + (x + 1)) := fun us hu hle p q p1 p2 p3 => by
      rw [hu, hu]
      by_cases hq : q < lo + x
      · exact zd p q p1 p2 hq
      · have : q = lo + x := by omega
        subst this
        by_cases hp : p = lo + x
        · subst hp; exact Int.le_refl _
        · exact Int.le_trans hle (zd p (lo + x - 1) p1 (by omega) (by omega))
    refine wpS_ite' (c := decide (K zs (lo + x) < K zs (lo + x - 1)) = true) (fun c3 => ?_) (fun c3 => ?_)
    · have c3' := of_decide_eq_true c3
      have e := K_mirror_equal (i := lo + x - (neq + 1)) (j := lo + x) (xs := zs) (by omega) z3
      refine wpS_ite' (c := neq > 0) (fun c4 => ?_) (fun c4 => ?_)
      · exact wpS_bind (wpS_modify (wpS_pure ⟨mirror zs (lo + x - (neq + 1)) (lo + x) ((lo + x - (lo + x - (neq + 1))) / 2), 0, rfl, rfl, (mirror_perm _ _ _ _).trans zp, fun k hk' => by rw [e]; exact zl k hk', grow _ e (Int.le_of_lt c3'), by omega, by omega, fun i i1 i2 => by rw [show i = lo + (x + 1) - 1 by omega]⟩))
      · exact wpS_pure ⟨zs, 0, rfl, rfl, zp, zl, grow _ (fun _ => rfl) (Int.le_of_lt c3'), by omega, by omega, fun i i1 i2 => by rw [show i = lo + (x + 1) - 1 by omega]⟩
    · have c3' := Int.not_lt.mp fun z => c3 (decide_eq_true z)
      refine wpS_bind (wpS_ltX hk (hI.perm zp) (by show lo + x - 1 < zs.size; omega) (by show lo + x < zs.size; omega) ?_)
      refine wpS_ite' (c := decide (K zs (lo + x - 1) < K zs (lo + x)) = true) (fun c4 => wpS_pure ⟨zs, x, neq, rfl, rfl, zp, zl, zd, by omega, z1, z2, z3⟩) (fun c4 => ?_)
      have c4' := Int.not_lt.mp fun z => c4 (decide_eq_true z)
      have ex : K zs (lo + x) = K zs (lo + x - 1) := by omega
      refine wpS_pure ⟨zs, neq + 1, rfl, rfl, zp, zl, grow _ (fun _ => rfl) c4', by omega, by omega, fun i i1 i2 => ?_⟩
      rw [show lo + (x + 1) - 1 = lo + x by omega]
      by_cases hi : i = lo + x
      · rw [hi]
      · rw [ex]; exact z3 i (by omega) (by omega)
  · rintro c st' ⟨zs, neq, rfl, rfl, zp, zl, zd, z1, z2, z3⟩
    have e : max (n + 1) nrem = nrem := by omega
    rw [e] at zd z2 z3
    exact ⟨zs, nrem, neq, rfl, by rw [e], zp, zl, zd, h1, Nat.le_refl _, z2, z3⟩
  rintro c st' ⟨zs, m, neq, rfl, rfl, zp, zl, zd, m1, z1, z2, z3⟩
  have zz : zs.size = xs.size := zp.size_eq
  dsimp (config := { zeta := false, zetaHave := false, zetaUnused := false }) only
  extract_lets
  rename_i jp2
  suffices hj2 : ∀ us, us.Perm xs → (∀ k, k < lo → K us k = K xs k) → DecIn us lo (lo + m) → wpS (model prog w) A E s (jp2 ()) Q (setArr st us) by
    have e := K_mirror_equal (i := lo + m - (neq + 1)) (j := lo + m) (xs := zs) (by omega) z3
    refine wpS_ite' (fun c4 => ?_) (fun c4 => hj2 zs zp zl zd)
    exact wpS_bind (wpS_modify (hj2 (mirror zs (lo + m - (neq + 1)) (lo + m) ((lo + m - (lo + m - (neq + 1))) / 2)) ((mirror_perm _ _ _ _).trans zp) (fun k hk' => by rw [e]; exact zl k hk') (fun p q p1 p2 p3 => by rw [e, e]; exact zd p q p1 p2 p3)))
  intro us up ul ud
  have uz : us.size = xs.size := up.size_eq
  refine wpS_bind (wpS_modify ?_)
  have hm := K_mirror (xs := us) (i := lo) (j := lo + m) (by omega)
  have vs : SortedIn (mirror us lo (lo + m) ((lo + m - lo) / 2)) lo (lo + m) := fun p q p1 p2 p3 => by
    rw [hm, hm, if_pos ⟨p1, by omega⟩, if_pos ⟨by omega, p3⟩]
    exact ud _ _ (by omega) (by omega) (by omega)
  have vl : ∀ k, k < lo → K (mirror us lo (lo + m) ((lo + m - lo) / 2)) k = K xs k := fun k hk' => by
    rw [hm, if_neg (by omega)]; exact ul k hk'
  have vp : (mirror us lo (lo + m) ((lo + m - lo) / 2)).Perm xs := (mirror_perm _ _ _ _).trans up
  show wpS _ _ _ _ _ _ (setArr st (mirror us lo (lo + m) ((lo + m - lo) / 2)))
  generalize mirror us lo (lo + m) ((lo + m - lo) / 2) = vv at vs vl vp
  have vz : vv.size = xs.size := vp.size_eq
  refine wpS_bind (wpS_mono (wpS_forRange
    (I := fun x c st' => setArr st vv = st' ∧ c = (none, x) ∧ x ≤ nrem ∧ SortedIn vv lo (lo + x))
    (Q := fun c st' => setArr st vv = st' ∧ ∃ n, c = (none, n) ∧ 1 ≤ n ∧ n ≤ nrem ∧ SortedIn vv lo (lo + n))
    ?_ ?_ ⟨rfl, rfl, z1, vs⟩) ?_)
  · rintro x c st' hx1 hx2 ⟨rfl, rfl, hx, hs'⟩
    have hx1' : m ≤ x := hx1
    refine wpS_bind (wpS_ltX hk (hI.perm vp) (by show lo + x < vv.size; omega) (by show lo + x - 1 < vv.size; omega) ?_)
    refine wpS_ite' (c := decide (K vv (lo + x) < K vv (lo + x - 1)) = true) (fun c1 => wpS_pure ⟨rfl, x, rfl, by omega, by omega, hs'⟩) (fun c1 => wpS_pure ⟨rfl, rfl, by omega, fun p q p1 p2 p3 => ?_⟩)
    have c1' : K vv (lo + x - 1) ≤ K vv (lo + x) := Int.not_lt.mp fun z => c1 (decide_eq_true z)
    by_cases hq : q < lo + x
    · exact hs' p q p1 p2 hq
    · have : q = lo + x := by omega
      subst this
      by_cases hp : p = lo + x
      · subst hp; exact Int.le_refl _
      · exact Int.le_trans (hs' p (lo + x - 1) p1 (by omega) (by omega)) c1'
  · rintro c st' ⟨rfl, rfl, hx, hs'⟩
    have e : max m nrem = nrem := by omega
    rw [e] at hs'
    exact ⟨rfl, nrem, by rw [e], h1, Nat.le_refl _, hs'⟩
  · rintro c st' ⟨rfl, n', rfl, n1', n2', hs'⟩
    exact wpS_pure (h n' vv vp vl n1' n2' hs')
end
end Srt

set_option maxHeartbeats 4000000
namespace Srt
open PySem PyProof PyProof.Rows

/-- the runs that wait: each begins where the one ahead of it ends, and each is sorted -/
def Chain (xs : Array Keyed) : Nat → List (Nat × Nat × Nat) → Nat → Prop
  | a, [], b => a = b
  | a, p :: l, b => p.1 = a ∧ 1 ≤ p.2.1 ∧ SortedIn xs a (a + p.2.1) ∧ Chain xs (a + p.2.1) l b
theorem Chain.len {xs : Array Keyed} : ∀ {l : List (Nat × Nat × Nat)} {a b : Nat}, Chain xs a l b → a + l.length ≤ b
  | [], a, b, h => by cases h; exact Nat.le_refl _
  | p :: l, a, b, h => by
    have := Chain.len h.2.2.2
    have := h.2.1
    rw [List.length_cons]; omega
theorem Chain.congr {xs ys : Array Keyed} : ∀ {l : List (Nat × Nat × Nat)} {a b : Nat}, Chain xs a l b → (∀ k, a ≤ k → k < b → K ys k = K xs k) → Chain ys a l b
  | [], a, b, h, _ => h
  | p :: l, a, b, h, e => by
    have hl := Chain.len h.2.2.2
    exact ⟨h.1, h.2.1, fun i j i1 i2 i3 => by rw [e i (by omega) (by omega), e j (by omega) (by omega)]; exact h.2.2.1 i j i1 i2 i3, Chain.congr h.2.2.2 fun k k1 k2 => e k (by omega) k2⟩
theorem Chain.app {xs : Array Keyed} : ∀ {l m : List (Nat × Nat × Nat)} {a b c : Nat}, Chain xs a l b → Chain xs b m c → Chain xs a (l ++ m) c
  | [], m, a, b, c, h, g => by cases h; exact g
  | p :: l, m, a, b, c, h, g => ⟨h.1, h.2.1, h.2.2.1, Chain.app h.2.2.2 g⟩
theorem Chain.split {xs : Array Keyed} : ∀ {l m : List (Nat × Nat × Nat)} {a c : Nat}, Chain xs a (l ++ m) c → ∃ b, Chain xs a l b ∧ Chain xs b m c
  | [], m, a, c, h => ⟨a, rfl, h⟩
  | p :: l, m, a, c, h => by
    obtain ⟨b, h1, h2⟩ := Chain.split h.2.2.2
    exact ⟨b, ⟨h.1, h.2.1, h.2.2.1, h1⟩, h2⟩
/-- the powers don't matter -/
theorem Chain.pw {xs : Array Keyed} : ∀ {l m : List (Nat × Nat × Nat)} {a b : Nat}, l.map (fun p => (p.1, p.2.1)) = m.map (fun p => (p.1, p.2.1)) → Chain xs a l b → Chain xs a m b
  | [], [], a, b, _, h => h
  | [], q :: m, a, b, e, h => by cases e
  | p :: l, [], a, b, e, h => by cases e
  | p :: l, q :: m, a, b, e, h => by
    rw [List.map_cons, List.map_cons] at e
    obtain ⟨e1, e2⟩ := List.cons.inj e
    have e3 := (Prod.mk.inj e1)
    refine ⟨e3.1 ▸ h.1, e3.2 ▸ h.2.1, e3.2 ▸ h.2.2.1, ?_⟩
    rw [← e3.2]
    exact Chain.pw e2 h.2.2.2

theorem split_two {α : Type} {l : List α} {i : Nat} (h : i + 1 < l.length) : ∃ l1 x y l2, l = l1 ++ x :: y :: l2 ∧ l1.length = i := by
  refine ⟨l.take i, l[i], l[i+1], l.drop (i + 2), ?_, by rw [List.length_take]; omega⟩
  rw [← List.drop_eq_getElem_cons, ← List.drop_eq_getElem_cons, List.take_append_drop]

theorem merged_list {α : Type} {pd : Array α} {l1 l2 : List α} {x y z : α} (h : pd.toList = l1 ++ x :: y :: l2) :
    ((pd.setIfInBounds l1.length z).eraseIdxIfInBounds (l1.length + 1)).toList = l1 ++ z :: l2 := by
  have hz : pd.size = l1.length + (l2.length + 2) := by rw [← Array.length_toList, h, List.length_append]; rfl
  rw [Array.eraseIdxIfInBounds, dif_pos (by rw [Array.size_setIfInBounds]; omega), Array.toList_eraseIdx, Array.toList_setIfInBounds, h]
  rw [List.set_append_right _ _ (Nat.le_refl _), Nat.sub_self, List.set_cons_zero, List.eraseIdx_append_of_length_le (by omega)]
  rw [show l1.length + 1 - l1.length = 1 by omega]
  rfl

structure SB (a₀ : Array Keyed) (st : SortSt) (lo : Nat) : Prop where
  perm : (arrOf st).Perm a₀
  kind : kindOf st = oneType'
  failed : failedOf st = none
  chain : Chain (arrOf st) 0 (pendingOf st).toList lo
  le : lo ≤ a₀.size

section
variable {prog : Program} {w : World} {A : Around} {E : Value → Shared → Prop} {s : Shared} {a₀ : Array Keyed}

theorem wpS_mergeC {st : SortSt} {i lo : Nat} {Q : Bool → SortSt → Prop} (h0 : AllI a₀) (hB : SB a₀ st lo) (hi : i + 1 < (pendingOf st).size)
    (h : ∀ st', SB a₀ st' lo → (pendingOf st').size + 1 = (pendingOf st).size → (∀ k, lo ≤ k → K (arrOf st') k = K (arrOf st) k) → Q true st') :
    wpS (model prog w) A E s (mergeAt' i) Q st := by
  obtain ⟨l1, ⟨sa, na, pw⟩, ⟨sb, nb, pw2⟩, l2, hl, rfl⟩ := split_two (l := (pendingOf st).toList) (by rw [Array.length_toList]; exact hi)
  have hc := hB.chain
  rw [hl] at hc
  obtain ⟨b, c1, e1, n1, s1, e2, n2, s2, c2⟩ := hc.split
  dsimp only at e1 n1 s1 e2 n2 s2 c2
  subst e1
  subst e2
  have hl2 := c2.len
  have hsz : (arrOf st).size = a₀.size := hB.perm.size_eq
  have hle := hB.le
  refine wpS_mergeAt (sa := sa) (na := na) (sb := sa + na) (nb := nb) (pw := pw) (pw2 := pw2) hB.kind hB.failed (h0.perm hB.perm) ?_ ?_ rfl n1 n2 (by omega) s1 s2 fun xs g xp xs1 xk => ?_
  · rw [← Array.getElem?_toList, hl, List.getElem?_append_right (Nat.le_refl _), Nat.sub_self]; rfl
  · rw [← Array.getElem?_toList, hl, List.getElem?_append_right (by omega), show l1.length + 1 - l1.length = 1 by omega]; rfl
  have hm := merged_list (z := (sa, na + nb, pw)) hl
  refine h _ ⟨xp.trans hB.perm, rfl, rfl, ?_, hle⟩ ?_ fun k hk => xk k (.inr (by omega))
  · show Chain xs 0 (((pendingOf st).setIfInBounds l1.length (sa, na + nb, pw)).eraseIdxIfInBounds (l1.length + 1)).toList lo
    rw [hm]
    refine (c1.congr fun k _ k2 => xk k (.inl k2)).app ⟨rfl, by dsimp only; omega, ?_, ?_⟩
    · dsimp only
      rw [← Nat.add_assoc]; exact xs1
    · dsimp only
      rw [← Nat.add_assoc]; exact c2.congr fun k k1 _ => xk k (.inr k1)
  · show (((pendingOf st).setIfInBounds l1.length (sa, na + nb, pw)).eraseIdxIfInBounds (l1.length + 1)).size + 1 = _
    rw [← Array.length_toList, hm, ← Array.length_toList, hl, List.length_append, List.length_append]
    rfl

theorem wpS_binarySortX {st : SortSt} {xs : Array Keyed} {lo n ok : Nat} {Q : Bool → SortSt → Prop} (hk : kindOf st = oneType') (hI : AllI xs) (hn : lo + n ≤ xs.size) (hok : ok ≤ n) (h1 : 1 ≤ ok) (hs : SortedIn xs lo (lo + ok))
    (h : ∀ ys, ys.Perm xs → (∀ k, k < lo → K ys k = K xs k) → SortedIn ys lo (lo + n) → Q true (setArr st ys)) : wpS (model prog w) A E s (binarySort' lo n ok) Q (setArr st xs) := by
  rw [binarySort'_eq]
  refine wpS_bind (wpS_mono (wpS_forRange (I := fun k c st' => ∃ ys, c = (none, ()) ∧ setArr st ys = st' ∧ ys.Perm xs ∧ (∀ k, k < lo → K ys k = K xs k) ∧ SortedIn ys lo (lo + min k n))
    (Q := fun c st' => ∃ ys, c = (none, ()) ∧ setArr st ys = st' ∧ ys.Perm xs ∧ (∀ k, k < lo → K ys k = K xs k) ∧ SortedIn ys lo (lo + n)) ?step ?fin ?init) ?post)
  case post =>
    rintro c st' ⟨ys, rfl, rfl, yp, yl, ys1⟩
    exact wpS_pure (h ys yp yl ys1)
  case init => exact ⟨xs, rfl, rfl, Array.Perm.refl _, fun _ _ => rfl, by rw [show min (max ok 1) n = ok by omega]; exact hs⟩
  case fin =>
    rintro c st' ⟨ys, hc, he, yp, yl, ys1⟩
    refine ⟨ys, hc, he, yp, yl, ?_⟩
    rwa [show min (max (max ok 1) n) n = n by omega] at ys1
  case step =>
    rintro k c st' hak hkn ⟨ys, rfl, rfl, yp, yl, hs'⟩
    rw [show min k n = k by omega] at hs'
    have yz : ys.size = xs.size := yp.size_eq
    have hkz : lo + k < ys.size := by omega
    refine wpS_bind (wpS_mono (wpS_forRange (I := fun x c st'' => setArr st ys = st'' ∧ ∃ l r, c = (none, l, r) ∧ l ≤ r ∧ r ≤ k ∧ r - l ≤ k - x ∧
        (∀ i, i < l → K ys (lo + i) ≤ K ys (lo + k)) ∧ (∀ i, r ≤ i → i < k → K ys (lo + k) < K ys (lo + i)))
      (Q := fun c st'' => setArr st ys = st'' ∧ ∃ l r, c = (none, l, r) ∧ l ≤ k ∧
        (∀ i, i < l → K ys (lo + i) ≤ K ys (lo + k)) ∧ (∀ i, l ≤ i → i < k → K ys (lo + k) < K ys (lo + i))) ?istep ?ifin ?iinit) ?ipost)
    case iinit => exact ⟨rfl, 0, k, rfl, by omega, by omega, by omega, fun i hi => by omega, fun i h1 h2 => by omega⟩
    case ifin =>
      rintro c st'' ⟨rfl, l, r, rfl, hlr, hrk, hm, hlo, hhi⟩
      have : l = r := by omega
      subst this
      exact ⟨rfl, l, l, rfl, hrk, hlo, hhi⟩
    case istep =>
      rintro x c st'' _ hxk ⟨rfl, l, r, rfl, hlr, hrk, hm, hlo, hhi⟩
      refine wpS_ite' (c := l ≥ r) (fun hge => ?_) (fun hge => ?_)
      · have : l = r := by omega
        subst this
        exact wpS_pure ⟨rfl, l, l, rfl, hrk, hlo, hhi⟩
      · refine wpS_bind (wpS_ltX hk (hI.perm yp) hkz (by show lo + (l + r) / 2 < ys.size; omega) ?_)
        refine wpS_ite' (c := decide (K ys (lo + k) < K ys (lo + (l + r) / 2)) = true) (fun c1 => ?_) (fun c1 => ?_)
        · have hless := of_decide_eq_true c1
          refine wpS_pure ⟨rfl, l, (l + r) / 2, rfl, by omega, by omega, by omega, hlo, fun i h1 h2 => ?_⟩
          exact Int.lt_of_lt_of_le hless (hs' _ _ (by omega) (by omega) (by omega))
        · have hless := Int.not_lt.mp fun z => c1 (decide_eq_true z)
          refine wpS_pure ⟨rfl, (l + r) / 2 + 1, r, rfl, by omega, by omega, by omega, fun i h1 => ?_, hhi⟩
          exact Int.le_trans (hs' (lo + i) (lo + (l + r) / 2) (by omega) (by omega) (by omega)) hless
    case ipost =>
      rintro c st'' ⟨rfl, l, r, rfl, hlk, hlo, hhi⟩
      refine wpS_bind (wpS_modify (wpS_pure ⟨bubble ys (lo + k) (lo + k - (lo + l)), rfl, rfl, (bubble_perm _ _ _).trans yp, fun i hi => ?_, ?_⟩))
      · rw [K_bubble hkz (by omega), if_neg (by omega), if_neg (by omega)]; exact yl i hi
      rw [show min (k + 1) n = k + 1 by omega]
      intro i j i1 hij hj
      rw [K_bubble hkz (by omega), K_bubble hkz (by omega), show lo + k - (lo + k - (lo + l)) = lo + l by omega]
      have lo' : ∀ i, lo ≤ i → i < lo + l → K ys i ≤ K ys (lo + k) := fun i a b => by
        have := hlo (i - lo) (by omega)
        rwa [show lo + (i - lo) = i by omega] at this
      have hi' : ∀ i, lo + l ≤ i → i < lo + k → K ys (lo + k) ≤ K ys i := fun i a b => by
        have := hhi (i - lo) (by omega) (by omega)
        rw [show lo + (i - lo) = i by omega] at this
        exact Int.le_of_lt this
      repeat' split
      all_goals first
        | (exfalso; omega)
        | exact Int.le_refl _
        | exact lo' _ (by omega) (by omega)
        | exact hi' _ (by omega) (by omega)
        | exact hs' _ _ (by omega) (by omega) (by omega)
end
end Srt

set_option maxHeartbeats 4000000
namespace Srt
open PySem PyProof PyProof.Rows

section
variable {prog : Program} {w : World} {A : Around} {E : Value → Shared → Prop} {s : Shared} {a₀ : Array Keyed}

theorem wpS_sortRunsX {st : SortSt} {Q : Unit → SortSt → Prop} (h0 : AllI a₀) (hB : SBase a₀ st)
    (h : ∀ st', (arrOf st').Perm a₀ → failedOf st' = none → SortedTo (arrOf st') a₀.size → Q () st') : wpS (model prog w) A E s sortRuns' Q st := by
  rw [sortRuns'_eq]
  refine wpS_bind (wpS_get ?_)
  have hz := hB.size
  extract_lets size mr
  have hz' : size = a₀.size := hz
  clear_value size mr
  subst hz'
  have hS0 : SB a₀ st 0 := ⟨hB.perm, hB.kind, hB.failed, by rw [hB.pend]; rfl, Nat.zero_le _⟩
  refine wpS_bind (wpS_mono (wpS_forRange
    (I := fun x c st' => ∃ lo, c = (none, lo) ∧ x ≤ lo ∧ SB a₀ st' lo)
    (Q := fun c st' => c = (none, a₀.size) ∧ SB a₀ st' a₀.size) ?step ?fin ⟨0, rfl, Nat.le_refl _, hS0⟩) ?post)
  case fin =>
    rintro c st' ⟨lo, rfl, h1, h2⟩
    have := h2.le
    have : lo = a₀.size := by omega
    subst this
    exact ⟨rfl, h2⟩
  case step =>
    rintro x c st' _ hx ⟨lo, rfl, hxl, hS⟩
    have hle := hS.le
    dsimp (config := { zeta := false, zetaHave := false, zetaUnused := false }) only
    refine wpS_ite' (c := lo ≥ a₀.size) (fun c1 => ?_) (fun c1 => ?_)
    · have : lo = a₀.size := by omega
      subst this
      exact wpS_pure ⟨rfl, hS⟩
    have hsz : (arrOf st').size = a₀.size := hS.perm.size_eq
    obtain ⟨R, hR⟩ : ∃ R : ForInStep (Option Unit × Nat) → SortSt → Prop, R = fun r st'' => ∃ lo, r = ForInStep.yield (none, lo) ∧ x + 1 ≤ lo ∧ SB a₀ st'' lo := ⟨_, rfl⟩
    refine wpS_mono (Q := R) ?_ (by rw [hR]; rintro r st'' ⟨lo, rfl, h1, h2⟩; exact ⟨lo, rfl, h1, h2⟩)
    refine wpS_bind (wpS_countRunX (st := st') (xs := arrOf st') hS.kind (h0.perm hS.perm) (by omega) (by omega) fun m ys yp yl m1 m2 ys1 => ?_)
    dsimp (config := { zeta := false, zetaHave := false, zetaUnused := false }) only
    extract_lets n jp force nf
    have hn : n = m := rfl
    clear_value n
    subst hn
    suffices hj : ∀ (n' : Nat) (zs : Array Keyed), zs.Perm (arrOf st') → (∀ k, k < lo → K zs k = K (arrOf st') k) → SortedIn zs lo (lo + n') → 1 ≤ n' → lo + n' ≤ a₀.size →
        wpS (model prog w) A E s (jp () n') R (setArr st' zs) by
      refine wpS_ite' (fun c2 => ?_) (fun c2 => hj n ys yp yl ys1 m1 (by omega))
      refine wpS_bind (wpS_lift (wpAny_rule ⟨rfl, ?_⟩))
      have hf : force = min (a₀.size - lo) mr := rfl
      have yz : ys.size = (arrOf st').size := yp.size_eq
      refine wpS_bind (wpS_binarySortX hS.kind ((h0.perm hS.perm).perm yp) (by omega) (by omega) m1 ys1 fun zs zp zl zs1 => ?_)
      exact hj force zs (zp.trans yp) (fun k hk => (zl k hk).trans (yl k hk)) zs1 (by omega) (by omega)
    clear ys yp yl ys1 m1 m2
    intro n' zs zp zl zs1 n1 n2
    have hS1 : SB a₀ (setArr st' zs) lo := ⟨zp.trans hS.perm, hS.kind, hS.failed, hS.chain.congr fun k _ hk => zl k hk, hle⟩
    have hs2 : SortedIn (arrOf (setArr st' zs)) lo (lo + n') := zs1
    generalize setArr st' zs = st2 at hS1 hs2
    clear zs zp zl zs1
    refine wpS_bind (wpS_get ?_)
    extract_lets lo2 jp2
    suffices hj2 : ∀ st3, SB a₀ st3 lo → SortedIn (arrOf st3) lo (lo + n') → wpS (model prog w) A E s (jp2 ()) R st3 by
      cases hb : (pendingOf st2).back? with
      | none => exact hj2 st2 hS1 hs2
      | some p =>
        obtain ⟨p1, p2, p3⟩ := p
        dsimp (config := { zeta := false, zetaHave := false, zetaUnused := false }) only
        extract_lets pw
        clear_value pw
        refine wpS_bind (wpS_mono (wpS_forRange (I := fun x c st'' => c = (none, ()) ∧ SB a₀ st'' lo ∧ SortedIn (arrOf st'') lo (lo + n')) (Q := fun c st'' => c = (none, ()) ∧ SB a₀ st'' lo ∧ SortedIn (arrOf st'') lo (lo + n')) ?_ (fun _ _ hh => hh) ⟨rfl, hS1, hs2⟩) ?_)
        · rintro y c st3 _ hy ⟨rfl, hS3, hs3⟩
          refine wpS_bind (wpS_get ?_)
          extract_lets p
          by_cases hp : p.size > 1
          · have hl : p.size - 2 < p.size := by omega
            rw [if_pos hp, Array.getElem?_eq_getElem hl]
            dsimp (config := { zeta := false, zetaHave := false, zetaUnused := false }) only
            refine wpS_ite' (fun c3 => wpS_pure ⟨rfl, hS3, hs3⟩) (fun c3 => ?_)
            refine wpS_bind (wpS_mergeC h0 hS3 (show p.size - 2 + 1 < p.size by omega) fun st4 hS4 hp4 hk4 => ?_)
            exact wpS_pure ⟨rfl, hS4, fun i j i1 i2 i3 => by rw [hk4 i i1, hk4 j (by omega)]; exact hs3 i j i1 i2 i3⟩
          · rw [if_neg hp]
            exact wpS_pure ⟨rfl, hS3, hs3⟩
        · rintro c st3 ⟨rfl, hS3, hs3⟩
          refine wpS_bind (wpS_modify (hj2 _ ⟨hS3.perm, hS3.kind, hS3.failed, ?_, hle⟩ hs3))
          refine hS3.chain.pw ?_
          show _ = ((pendingOf st3).modify _ _).toList.map _
          rw [Array.toList_modify]
          generalize (pendingOf st3).toList = l
          generalize (pendingOf st3).size - 1 = i
          apply List.ext_getElem?
          intro k
          rw [List.getElem?_map, List.getElem?_map, List.getElem?_modify]
          cases l[k]? with
          | none => rfl
          | some q =>
            by_cases e : i = k
            · simp [e]
            · simp [e]
    intro st3 hS3 hs3
    refine wpS_bind (wpS_modify (wpS_pure ?_))
    rw [hR]
    refine ⟨lo + n', rfl, by omega, hS3.perm, hS3.kind, hS3.failed, ?_, n2⟩
    show Chain (arrOf st3) 0 ((pendingOf st3).push (lo, n', 0)).toList (lo + n')
    rw [Array.toList_push]
    exact hS3.chain.app ⟨rfl, n1, hs3, rfl⟩
  case post =>
    rintro c st' ⟨rfl, hS⟩
    dsimp (config := { zeta := false, zetaHave := false, zetaUnused := false }) only
    refine wpS_bind (wpS_mono (wpS_forRange (I := fun x c st'' => c = (none, ()) ∧ SB a₀ st'' a₀.size ∧ (pendingOf st'').size + x ≤ a₀.size) (Q := fun c st'' => c = (none, ()) ∧ SB a₀ st'' a₀.size ∧ (pendingOf st'').size ≤ 1) ?_ ?_ ?_) ?_)
    · rintro x c st'' _ hx ⟨rfl, hS', hp⟩
      refine wpS_bind (wpS_get ?_)
      refine wpS_ite' (c := (pendingOf st'').size ≤ 1) (fun c1 => wpS_pure ⟨rfl, hS', c1⟩) (fun c1 => ?_)
      extract_lets i before i'
      have hi' : i' + 1 < (pendingOf st'').size := by
        have : i' = i - 1 ∨ i' = i := by
          show (if _ then i - 1 else i) = i - 1 ∨ (if _ then i - 1 else i) = i
          split
          · exact .inl rfl
          · exact .inr rfl
        have hi : i = (pendingOf st'').size - 2 := rfl
        omega
      clear_value i'
      refine wpS_bind (wpS_mergeC h0 hS' hi' fun st3 hS3 hp3 _ => ?_)
      exact wpS_pure ⟨rfl, hS3, by omega⟩
    · rintro c st'' ⟨hc, hS', hp⟩
      have : max 0 a₀.size = a₀.size := by omega
      rw [this] at hp
      exact ⟨hc, hS', by omega⟩
    · have := hS.chain.len
      rw [Array.length_toList] at this
      exact ⟨rfl, hS, by omega⟩
    · rintro c st'' ⟨rfl, hS', hp⟩
      refine wpS_pure (h _ hS'.perm hS'.failed ?_)
      have hc := hS'.chain
      have hl : (pendingOf st'').toList.length ≤ 1 := by rw [Array.length_toList]; exact hp
      generalize (pendingOf st'').toList = l at hc hl
      match l, hc, hl with
      | [], hc, _ =>
        have : a₀.size = 0 := hc.symm
        intro i j _ hj; omega
      | [p], hc, _ =>
        obtain ⟨_, _, hs, e⟩ := hc
        have e' : 0 + p.2.1 = a₀.size := e
        intro i j hij hj
        exact hs i j (Nat.zero_le _) hij (by omega)
end
end Srt

set_option maxHeartbeats 4000000
set_option maxRecDepth 100000
namespace Srt
open PySem PyProof PyProof.Rows
section
variable {prog : Program} {w : World} {A : Around} {E : Value → Shared → Prop} {s : Shared}

theorem sort_any {a : Addr} {vs : List Value} {ns : List Int} {n : Nat} {P : Fin → Shared → Prop} (o0 : s.heap.get? a = some (seqObj "list" vs.toArray n)) (hI : IntsAre vs ns) (hz : vs.length ≤ sizeLine)
    (h : ∀ (out : Array Value) (ns' : List Int), IntsAre out.toList ns' → ns'.Perm ns → ns'.Pairwise (· ≤ ·) → P (.done (.ret .none)) { s with heap := sortedHeap s.heap a vs out }) :
    wpAny (model prog w) A (Builtin.«list.sort» ⟨[.ref a], []⟩) P E s := by
  rw [list_sort_plain]
  have la : a < s.heap.objs.size := Heap.lt_size o0
  obtain ⟨e1, o1⟩ : ∃ e, (s.heap.update a (Obj.mapSeq fun _ => #[])).get? a = some (seqObj "list" #[] e) := ⟨_, get?_update_seq o0 _⟩
  have o6 : (((s.heap.update a (Obj.mapSeq fun _ => #[])).push (seqObj "tuple" vs.toArray 0)).push (seqObj "list" #[] 0)).get? a = some (seqObj "list" #[] e1) := by
    rwa [Heap.get?_push_ne _ _ _ (by rw [size_push', Heap.size_update]; exact Nat.ne_of_lt (Nat.lt_succ_of_lt la)), Heap.get?_push_ne _ _ _ (by rw [Heap.size_update]; exact Nat.ne_of_lt la)]
  refine wpAny_bind (listItems_at o0 rfl (wpAny_bind (listUpdate_at o0 rfl ?_ (by simpa using hz) (Nat.zero_le _))))
  refine wpAny_bind (seqEpoch_at o1 rfl (wpAny_bind (wpAny_newTuple (wpAny_bind (wpAny_newList (wpAny_holding ?_))))))
  have fit : ∀ xs : Array Keyed, xs.Perm (pairsOf vs) → (xs.map (·.2)).size ≤ sizeLine := fun xs p => Nat.le_trans (Nat.le_of_eq ((Array.size_map ..).trans (p.size_eq.trans (pairsOf_size vs)))) hz
  have fin : ∀ xs : Array Keyed, xs.Perm (pairsOf vs) → SortedTo xs (pairsOf vs).size → P (.done (.ret .none)) { s with heap := sortedHeap s.heap a vs (xs.map (·.2)) } := fun xs p so => by
    obtain ⟨ms, m1, m2, m3⟩ := sorted_out hI p so
    exact h _ ms m1 m2 m3
  by_cases c : vs.toArray.size < 2
  · rw [if_pos c, if_pos c]
    refine wpAny_bind (wpAny_pure (wpAny_bind (wpAny_pure ?_)))
    refine wpAny_bind (seqEpoch_at o6 rfl (wpAny_bind (listUpdate_at o6 rfl ?_ (Nat.zero_le _) (Nat.le_succ_of_le (fit _ (Array.Perm.refl _))))))
    simp only [bne_self_eq_false, Bool.false_eq_true, if_false]
    refine wpAny_pure (fin (pairsOf vs) (Array.Perm.refl _) fun i j i1 i2 => ?_)
    have hl : vs.length < 2 := by simpa using c
    have : i = j := by rw [pairsOf_size] at i2; omega
    subst this
    exact Int.le_refl _
  · rw [if_neg c, if_neg c]
    obtain ⟨x, y, r, rfl⟩ : ∃ x y r, vs = x :: y :: r := by
      cases vs with
      | nil => exact absurd (show 0 < 2 by decide) c
      | cons x r => cases r with
        | nil => exact absurd (show 1 < 2 by decide) c
        | cons y r => exact ⟨x, y, r, rfl⟩
    rw [keyKind_ints hI]
    refine wpAny_bind (wpAny_pure (wpAny_bind (wpAny_mono (wpS_sortRunsX (a₀ := pairsOf (x :: y :: r)) (st := SortSt.mk' oneType' (pairsOf (x :: y :: r)) #[] 7 none)
      (Q := fun _ st' => (arrOf st').Perm (pairsOf (x :: y :: r)) ∧ failedOf st' = none ∧ SortedTo (arrOf st') (pairsOf (x :: y :: r)).size) hI.intKeys ⟨Array.Perm.refl _, rfl, rfl, rfl⟩ fun _ b1 b2 b3 => ⟨b1, b2, b3⟩) ?_ fun _ _ e => e)))
    rintro ⟨u, st'⟩ s' ⟨rfl, b1, b2, b3⟩
    refine wpAny_bind (seqEpoch_at o6 rfl (wpAny_bind (listUpdate_at o6 rfl ?_ (Nat.zero_le _) (Nat.le_succ_of_le (fit _ b1)))))
    rw [b2]
    simp only [bne_self_eq_false, Bool.false_eq_true, if_false]
    exact wpAny_pure (fin _ b1 b3)

theorem sorted_any {l : Addr} {vs : List Value} {ns : List Int} {Q : Value → Shared → Prop} (hl : s.heap.IsList l vs.toArray) (hI : IntsAre vs ns) (hz : vs.length ≤ sizeLine)
    (h : ∀ (out : Array Value) (ns' : List Int), IntsAre out.toList ns' → ns'.Perm ns → ns'.Pairwise (· ≤ ·) → Q (.ref (s.heap.objs.size + 1)) { s with heap := sortedAll s.heap vs out }) :
    wpAny (model prog w) A (call (.builtin "sorted") [.ref l]) Q E s := by
  have ez : ((s.heap.push (seqObj "list" #[] 0)).update s.heap.objs.size (Obj.mapSeq (· ++ vs.toArray))).objs.size = s.heap.objs.size + 1 := by rw [Heap.size_update, size_push']
  have oL : (((s.heap.push (seqObj "list" #[] 0)).update s.heap.objs.size (Obj.mapSeq (· ++ vs.toArray))).push (seqObj "list" vs.toArray 0)).get? (s.heap.objs.size + 1) = some (seqObj "list" vs.toArray 0) := by
    rw [← ez]; exact Heap.get?_push_size _ rfl
  refine Calls.call_function_entry kind_sorted plain_sorted entry_sorted (args_sorted1 _) (wpAny_bind (m := checkCount "sorted" 1 1 _) (wpAny_pure (wpAny_bind (collect_list hl ?_ hz))))
  refine wpAny_bind (wpAny_newList ?_)
  rw [ez]
  refine wpAny_bind (wpAny_holding (wpAny_call_entry slot_list_sort ⟨_, oL, rfl⟩ entry_list_sort (sort_any oL hI hz fun out ns' a1 a2 a3 => ⟨_, rfl, ?_⟩) (args_list_sort _)))
  exact wpAny_pure ⟨_, rfl, h out ns' a1 a2 a3⟩
end
end Srt
namespace L2
open PySem PySem.Spec PyProof.Rows
variable {X : Cx}
/-- sorted of a list of ints, however long -/
theorem call_sortedB : CallR X (.builtin "sorted") (fun xs H Q => ∃ (p : Addr) (ns : List Int), xs = [.ref p] ∧ SqL X.K H p (ns.map V.int) ∧ ∀ ms : List Int, ms.Perm ns → ms.Pairwise (· ≤ ·) → ∀ l, H l = none → Q (.ref l) (upd H l (.lst (ms.map V.int)))) := by
  intro pins s σ H xs us Q I r h
  obtain ⟨p, ns, rfl, hq, q⟩ := h
  obtain ⟨u, rfl, rx⟩ := vals1 r
  cases rx
  obtain ⟨its, rv, pl, hz'⟩ := I.list hq
  have hlen := rv.length
  rw [List.length_map] at hlen hz'
  refine Srt.sorted_any pl.isList (intsAre_of rv) (by omega) fun out ms a1 a2 a3 => ?_
  obtain ⟨e, he⟩ := sortedAll_at s.heap its out
  have hm : ms.length = ns.length := a2.length_eq
  refine ⟨.ref (s.heap.objs.size + 1), _, I.laid (t' := s.toks) (fun b o => sortedAll_old) (Nat.le_succ _) (show ObjOk X.prog X.w _ _ _ (.lst (ms.map V.int)) from ⟨by rw [List.length_map, hm]; exact hz', out.toList, e, vals_ints a1, he⟩), rfl, q ms a2 a3 _ (I.hok.fresh (Nat.le_succ _))⟩
end L2

set_option maxRecDepth 100000
set_option maxHeartbeats 4000000
namespace Wd
open PySem L2 Ow
/-! ### sets counted by how many of some options they have, weighed -/
/-! ### all sets of some options -/
/-! ### boughs taken one by one -/
end Wd

set_option maxRecDepth 100000
set_option maxHeartbeats 4000000
namespace L2
open PySem PySem.Spec PyProof.Rows

/-! ### zip of two lists -/
end L2

set_option maxRecDepth 100000
set_option maxHeartbeats 4000000
namespace Wd
open PySem L2 Ow
/-! ### the boughs in the order in which they are taken -/
/-! ### all sets, by their numbers -/
end Wd

set_option maxRecDepth 100000
set_option maxHeartbeats 4000000
namespace L2
open PySem PySem.Spec PyProof.Rows
/-! ### set(l) of a list of unlike whole numbers, and how many it has -/
section
variable {X : Cx}
end
end L2

set_option maxRecDepth 100000
set_option maxHeartbeats 4000000
namespace Wd
open PySem L2 Ow
theorem take_map_succ {α β : Type} {g : α → β} {l : List α} {i : Nat} {x : α} (h : l[i]? = some x) : (l.take (i + 1)).map g = (l.take i).map g ++ [g x] := by
  rw [List.take_add_one, h, Option.toList_some, List.map_append]
  rfl
theorem natsL_app (A B : List Nat) : natsL (A ++ B) = natsL A ++ natsL B := List.map_append
end Wd
namespace Wd
open PySem L2 Ow
/-! ### choices by the bits of a number -/
end Wd
namespace Wd
open PySem L2 Ow
end Wd

set_option maxRecDepth 100000
set_option maxHeartbeats 4000000
namespace L2
open PySem PySem.Spec PyProof.Rows
/-! ### a, b = a list -/
section
variable {prog : Program} {w : World} {A : Around} {E : Value → Shared → Prop} {s : Shared}
end
section
variable {X : Cx} {pos : Pos}
end
section
variable {X : Cx}
/-! ### list.insert at a place within -/
def rInsert : V → List V → Hp → VK → Prop := fun x vs H Q => ∃ (l : Addr) (xs : List V) (i : Int) (y : V), x = .ref l ∧ vs = [.int i, y] ∧ H l = some (.lst xs) ∧ 0 ≤ i ∧ i ≤ xs.length ∧ xs.length < sizeLine ∧ Q .non (upd H l (.lst (xs.take i.toNat ++ y :: xs.drop i.toNat)))
theorem mt_insert : MtM X "list.insert" rInsert := by
  intro pins s σ H x vs v us Q I rx rv h
  obtain ⟨l, xs, i, y, rfl, rfl, hH, h0, hk, hz, q⟩ := h
  cases rx
  obtain ⟨u1, us1, rfl, r1, rr⟩ : ∃ u1 us1, us = u1 :: us1 ∧ RelV (.int i) u1 ∧ Vals [y] us1 := by
    cases rv with
    | cons a b => exact ⟨_, _, rfl, a, b⟩
  obtain ⟨u2, rfl, ru⟩ := rr.one
  obtain ⟨t, rfl⟩ := r1
  obtain ⟨z, its, n, r, hl, e⟩ := I.lstM hH
  have hsz : its.toArray.size ≤ sizeLine := by rw [List.size_toArray, ← hl]; exact z
  have b1 : -(2 ^ 63) ≤ i := Int.le_trans (by decide) h0
  have b2 : i < 2 ^ 63 := by
    have h63 : ((xs.length : Nat) : Int) < ((2 ^ 63 : Nat) : Int) := Int.ofNat_lt.mpr (Nat.lt_of_le_of_lt z line63)
    exact Int.lt_of_le_of_lt hk h63
  have fit : ¬ (!Builtin.List.listFitsIndex i) = true := by
    rw [fitsIndex_both b1 b2]
    exact Bool.false_ne_true
  refine call_meets F.slot_list_insert ⟨_, e, rfl⟩ F.entry_list_insert (F.args_list_insert_3 _ _ _) (AutoListH.list_insert_list_int_val_1 l its.toArray n i t u2 fit hsz) ⟨e, ?_⟩
  have r2 : Vals (xs.take i.toNat ++ y :: xs.drop i.toNat) (its.take i.toNat ++ u2 :: its.drop i.toNat) := (r.take i.toNat).append (.cons ru (r.drop i.toNat))
  refine ⟨.non, _, I.lset (its' := its.take i.toNat ++ u2 :: its.drop i.toNat) hH e ?_ r2 ?_, rfl, q⟩
  · have hn : ¬ (i < 0) := Int.not_lt.mpr h0
    have hm : i.toNat ≤ its.length := by omega
    simp [hn, Nat.min_eq_left hm]
    exact List.take_of_length_le (by rw [List.length_drop]; exact Nat.le_refl _)
  · rw [List.length_append, List.length_cons, List.length_take, List.length_drop]
    omega
end
end L2

set_option maxRecDepth 100000
set_option maxHeartbeats 4000000
namespace Wd
open PySem L2 Ow
/-! ### woods drawn by a state (the laws from k50 on) -/
/-- the boughs drawn: a list of data -/
def spBoughsP (K : PySem.W.Frag) : Sp := fun vs H Q _ => ∃ (pen sp : Addr) (ns : List Int) (m : Nat) (k : Int), vs = [.ref pen, .int (m : Int)] ∧ Pen K H pen sp ns k ∧ 0 ≤ k ∧ k ≤ 900000 ∧ 1 ≤ m ∧ m ≤ 9 ∧
  ∀ (l : Addr) (bs : List PyData) (xs : List V) (k' : Int) (H' : Hp), SameX pen H H' → H' pen = some (.lst [.ref sp, .int k']) → k ≤ k' → k' ≤ k + 80 → H' l = some (.lst xs) → H l = none → DnL H' bs xs → GoodB m bs → bs.length ≤ 8 → bs.all (flatD 3) = true → Q (.ref l) H'
end Wd

set_option maxRecDepth 100000
set_option maxHeartbeats 4000000
namespace Wd
open PySem L2 Ow
theorem _root_.Ow.GAt.ins {H0 H : Hp} {g l t : Addr} {pre post : List Grp} {u k : Int} (G : GAt H0 H g (pre ++ post)) (hf : H0 l = none) (hl : H l = none) (ht : upd H l (.lst [.int k]) t = none) :
    GAt H0 (upd (upd (upd H l (.lst [.int k])) t (.tup [.int u, .ref l])) g (.lst ((pre.map fun x => V.ref x.t) ++ V.ref t :: (post.map fun x => V.ref x.t)))) g (pre ++ ⟨t, u, l, [k]⟩ :: post) := by
  have A := GAt.add2 (u := u) (k := k) G hf hl ht
  have mem : ∀ x, x ∈ pre ++ ⟨t, u, l, [k]⟩ :: post ↔ x ∈ (pre ++ post) ++ [⟨t, u, l, [k]⟩] := fun x => by
    simp only [List.mem_append, List.mem_cons, List.not_mem_nil, or_false]
    constructor
    · rintro (h | h | h)
      · exact .inl (.inl h)
      · exact .inr h
      · exact .inl (.inr h)
    · rintro ((h | h) | h)
      · exact .inl h
      · exact .inr (.inr h)
      · exact .inr (.inl h)
  have other : ∀ (o o' : HO) (b : Addr), b ≠ g → (upd (upd (upd H l (.lst [.int k])) t (.tup [.int u, .ref l])) g o) b = (upd (upd (upd H l (.lst [.int k])) t (.tup [.int u, .ref l])) g o') b := fun o o' b n => by rw [upd_ne n, upd_ne n]
  refine ⟨?_, A.new, fun x hx => ?_, fun x hx => ?_, ?_⟩
  · rw [upd_same, List.map_append]
    rfl
  · have h := A.tup x ((mem x).mp hx)
    have n : x.t ≠ g := fun z => by rw [z, upd_same] at h; cases h
    rw [other _ _ _ n]
    exact h
  · have h := A.lst x ((mem x).mp hx)
    refine ⟨?_, h.2⟩
    rw [other _ _ _ (Ne.symm h.2.2)]
    exact h.1
  · have p : (pre ++ (⟨t, u, l, [k]⟩ : Grp) :: post).Perm ((pre ++ post) ++ [⟨t, u, l, [k]⟩]) := by
      rw [List.append_assoc]
      exact List.Perm.append_left _ (List.perm_append_singleton _ _).symm
    exact ((p.map (·.l)).nodup_iff).mpr A.nd
theorem _root_.Ow.GOk.ins {k : Nat} {pre post : List Grp} {t l : Addr} {u : Int} (G : GOk ((k : Int) + 1) (pre ++ post)) (u0 : 0 ≤ u) (u1 : u < (k : Int) + 1) : GOk ((k : Int) + 2) (pre ++ ⟨t, u, l, [(k : Int) + 1]⟩ :: post) := by
  have A := GOk.new (t := t) (l := l) G u0 u1
  have p : (pre ++ (⟨t, u, l, [(k : Int) + 1]⟩ : Grp) :: post).Perm ((pre ++ post) ++ [⟨t, u, l, [(k : Int) + 1]⟩]) := by
    rw [List.append_assoc]
    exact List.Perm.append_left _ (List.perm_append_singleton _ _).symm
  exact ⟨fun x hx => A.each x (p.mem_iff.mp hx), (List.Perm.flatMap_right _ p).trans A.perm⟩
end Wd

set_option maxRecDepth 100000
set_option maxHeartbeats 4000000
namespace HT
open PySem PySem.Spec PyProof.Rows
section
variable {prog : Program} {w : World} {A : Around} {E : Value → Shared → Prop} {s : Shared}
/-- the whole of a tuple is the tuple itself -/
theorem tup_whole {t sl : Addr} {items : Array Value} {vl vu : Value} {lo hi : Option Int} {Q : Value → Shared → Prop} (ht : IsTup s.heap t items) (hs : s.heap.IsSliceOf sl vl vu .none) (pl : IsPart vl lo) (pu : IsPart vu hi)
    (h0 : sIx items.size 0 lo = 0) (h1 : sIx items.size items.size hi = items.size) (h : Q (.ref t) s) : wpAny (model prog w) A (getItem (.ref t) (.ref sl)) Q E s := by
  obtain ⟨os, hos, hcs, hds⟩ := id hs
  have hTs : s.TypeIs (.ref sl) "slice" := ⟨os, hos, hcs⟩
  unfold getItem
  refine wpAny_holding ?_
  refine wpAny_bind (wpAny_sequenceKey ht.typeIs (by decide) ?_)
  refine wpAny_bind (wpAny_callSpecial?_slot (name := Str.ofString "__getitem__") ht.typeIs PyProof.Rows.slot_tuple_getitem (wpAny_call_entry PyProof.Rows.slot_tuple_getitem ht.typeIs entry_tuple_getitem ?_ (args_tuple_getitem _ _)))
  show wpAny _ _ (Builtin.Tuple.tupleItemsOf (.ref t) >>= _) _ _ s
  refine wpAny_bind (tupleItemsOf_ ht ?_)
  refine wpAny_bind (wpAny_typeOf hTs ?_)
  rw [if_pos (by decide)]
  refine wpAny_bind (sliceApplied_gen hs pl pu ?_)
  have hyes : (((sIx items.size 0 lo : Nat) : Int) == 0 && (1 : Int) == 1 && (sIx items.size items.size hi - sIx items.size 0 lo) == items.size) = true := by
    rw [h0, h1, Nat.sub_zero]
    simp
  show wpAny _ _ (if (((sIx items.size 0 lo : Nat) : Int) == 0 && (1 : Int) == 1 && (sIx items.size items.size hi - sIx items.size 0 lo) == items.size) = true then _ else _) _ _ s
  rw [if_pos hyes]
  refine wpAny_bind (wpAny_bind (wpAny_typeOf ht.typeIs (wpAny_pure ?_)))
  show wpAny _ _ (if (Value.type "tuple" == Value.type "tuple") = true then _ else _) _ _ s
  rw [if_pos (by decide)]
  refine wpAny_bind (wpAny_rule ?_)
  exact wpAny_pure ⟨_, rfl, wpAny_pure h⟩
end
end HT
namespace HT
open PySem PySem.Spec PyProof.Rows
section
variable {prog : Program} {w : World} {A : Around} {E : Value → Shared → Prop} {s : Shared}
end
end HT
namespace L2
open PySem PySem.Spec PyProof.Rows
section
variable {X : Cx} {e st : Expr} {te tst : TE} {pos p2 : Pos}
/-- t[lo:hi], also where it is the whole -/
theorem sl_tupA : SlR X (fun x lo hi H Q => ∃ a xs, x = .ref a ∧ H a = some (.tup xs) ∧ ∀ p H', Same H H' → H' p = some (.tup (cutV xs lo hi)) → Q (.ref p) H') := by
  intro pins s σ H x v vl vu lo hi sl Q I rx hs pl pu h
  obtain ⟨a, xs, rfl, hx, q⟩ := h
  by_cases hw : HT.sIx xs.length 0 lo = 0 ∧ HT.sIx xs.length xs.length hi = xs.length
  · cases rx
    obtain ⟨its, r, ht, hz⟩ := I.tuple (.inl (.inl hx))
    have hlen : its.toArray.size = xs.length := by rw [List.size_toArray]; exact r.length.symm
    refine ⟨"tuple", _, PyProof.Rows.slot_tuple_getitem.lookup, ht.typeIs, ?_⟩
    refine HT.tup_whole ht hs pl pu (by rw [hlen]; exact hw.1) (by rw [hlen]; exact hw.2) ⟨.ref a, H, I, rfl, q a H (Same.refl H) ?_⟩
    rw [hx]
    unfold cutV
    rw [hw.1, hw.2, List.drop_zero, Nat.sub_zero, List.take_length]
  · exact sl_tup pins s σ H _ v vl vu lo hi sl Q I rx hs pl pu ⟨a, xs, rfl, .inl (.inl hx), hw, fun p hp => q p _ (same_of fun b o e => by rw [upd_ne (ne_of_none e hp)]; exact e) upd_same⟩
/-- data against data -/
theorem op_eq_data (hu : X.A.units + 64 < cLine) : OpR X (compareOp .Eq) (fun x y H Q => ∃ d e : PyData, Dn H d x ∧ Dn H e y ∧ SeqAt.shaped d = true ∧ SeqAt.shaped e = true ∧ Q (.bl (PyData.eqv d e)) H) := by
  intro pins s σ H x y v u Q I rx ry h
  obtain ⟨d, e, hd, he, sd, se, q⟩ := h
  obtain ⟨as, ra⟩ := Dn.reads I d x v hd (SeqAt.canLay_of_shaped sd) rx
  obtain ⟨bs, rb⟩ := Dn.reads I e y u he (SeqAt.canLay_of_shaped se) ry
  exact SeqAt.compareEq_shaped ra rb sd se hu ⟨.bl _, H, I, rfl, q⟩
end
end L2
namespace L2
open PySem PySem.Spec PyProof.Rows
section
variable {X : Cx}
end
end L2
namespace Wd
open PySem L2 Ow
mutual
theorem flat_lay : ∀ (n : Nat) (d : PyData), flatD n d = true → PyData.canLay0 d = true ∧ PyData.depth d ≤ n + 1
  | _, .int i, _ => ⟨by simp [PyData.canLay0], by simp only [PyData.depth]; omega⟩
  | n, .str s, h => ⟨by cases n <;> simpa [PyData.canLay0] using (show PyData.strOk s = true from h), by simp only [PyData.depth]; omega⟩
  | n + 1, .tuple ds, h => by
    have z : (decide (ds.length ≤ 1000) && ds.all (flatD n)) = true := h
    rw [Bool.and_eq_true] at z
    obtain ⟨a, b⟩ := flat_layAll n ds z.2
    exact ⟨by simpa [PyData.canLay0] using a, by simp only [PyData.depth]; omega⟩
  | 0, .tuple _, h => by cases h
  | 0, .none, h => by cases h
  | n + 1, .none, h => by cases h
  | 0, .bool _, h => by cases h
  | n + 1, .bool _, h => by cases h
  | 0, .list _, h => by cases h
  | n + 1, .list _, h => by cases h
  | 0, .dict _, h => by cases h
  | n + 1, .dict _, h => by cases h
theorem flat_layAll : ∀ (n : Nat) (ds : List PyData), ds.all (flatD n) = true → PyData.canLayAll0 ds = true ∧ PyData.depthAll ds ≤ n + 1
  | _, [], _ => ⟨by simp [PyData.canLayAll0], by simp only [PyData.depthAll]; omega⟩
  | n, d :: ds, h => by
    rw [List.all_cons, Bool.and_eq_true] at h
    obtain ⟨a1, b1⟩ := flat_lay n d h.1
    obtain ⟨a2, b2⟩ := flat_layAll n ds h.2
    exact ⟨by simp [PyData.canLayAll0, a1, a2], by simp only [PyData.depthAll]; omega⟩
end
theorem shaped_tup {n : Nat} {ds : List PyData} (hn : n ≤ 60) (h : ds.all (flatD n) = true) : SeqAt.shaped (.tuple ds) = true := by
  obtain ⟨a, b⟩ := flat_layAll n ds h
  unfold SeqAt.shaped
  rw [Bool.and_eq_true]
  refine ⟨by simp [PyData.canLay0, a], decide_eq_true ?_⟩
  simp only [PyData.depth]
  omega
end Wd

set_option maxRecDepth 100000
set_option maxHeartbeats 4000000
namespace Wd
open PySem L2 Ow
/-! ### which ties a set breaks -/
end Wd

set_option maxRecDepth 100000
set_option maxHeartbeats 4000000
namespace Wd
open PySem L2 Ow
end Wd

set_option maxRecDepth 100000
set_option maxHeartbeats 4000000
namespace Wd
open PySem L2 Ow
/-! ### the sets of a stand, one by one -/
end Wd

set_option maxRecDepth 100000
set_option maxHeartbeats 4000000
namespace L2
open PySem PySem.Spec PyProof.Rows

/-! ### lists of pairs as tables -/
section
variable {κ : Type} [DecidableEq κ]
end


/-! ### a tracked dict, its keys ints and texts or tuples of these -/
section
variable {P : Program} {w : World} {H : Hp} {h : Heap} {a : Addr}
end

section
variable {X : Cx} {pins : List (Addr × Obj)} {σ : St} {H : Hp} {s : Shared} {a : Addr} {y v : V} {u r : Value} {o : Option V} {A : Around} {E : Value → Shared → Prop}

end

section
variable {X : Cx} {pins : List (Addr × Obj)} {σ : St} {H : Hp} {s : Shared} {a : Addr} {kvs : List (Key × V)} {k : Key} {u : Value} {A : Around} {E : Value → Shared → Prop}
end


/-! ### readings and rules -/
section
variable {X : Cx} {o i e value : Expr} {pos pos' tpos : Pos} {td ty tv : TE}
end


/-! ### displays -/
section
variable {X : Cx} {pos : Pos}
end

/-! ### methods -/
section
variable {X : Cx} {pins : List (Addr × Obj)} {σ : St} {H : Hp} {s : Shared} {a : Addr} {y d : V} {u r : Value} {o : Option V} {A : Around} {E : Value → Shared → Prop}
end

section
variable {X : Cx} {o e f : Expr} {apos cpos : Pos} {td ty tx : TE}
end

/-! ### dict(d): a copy -/
section
variable {X : Cx} {pins : List (Addr × Obj)} {σ : St} {H : Hp} {s : Shared} {a : Addr} {kvs : List (Key × V)} {A : Around} {E : Value → Shared → Prop}
end


section
variable {X : Cx} {pins : List (Addr × Obj)} {σ : St} {H : Hp} {s : Shared} {a : Addr} {y : V} {u : Value} {A : Around} {E : Value → Shared → Prop}
end
end L2
namespace L2
open PySem PySem.Spec PyProof.Rows
section
variable {X : Cx}
end

/-! ### a dict's pairs: keys that differ -/
section
variable {κ : Type} [DecidableEq κ]
end
end L2

set_option maxRecDepth 100000
set_option maxHeartbeats 4000000
namespace L2
open PySem PySem.Spec
/-- PE as a word that the elaborator doesn't unfold (a display's run is long) -/
@[irreducible] def PEi (X : Cx) (e : Expr) (t : TE) : Prop := PE X e t
@[irreducible] def PSi (X : Cx) (e : Stmt) (t : TS) : Prop := PS X e t
@[irreducible] def PLi (X : Cx) (l : List Stmt) (t : TS) : Prop := PSs X l t
end L2
namespace Wd
open PySem L2 Ow
end Wd

set_option maxRecDepth 100000
set_option maxHeartbeats 4000000
namespace Wd
open PySem L2 Ow
end Wd

set_option maxRecDepth 100000
set_option maxHeartbeats 4000000
namespace L2
open PySem PySem.Spec PyProof.Rows
end L2
namespace Wd
open PySem L2 Ow
/-! ### trees that are looked at -/
inductive WT where
  | leaf (w : Str)
  | broken (t : Int)
  | split (k : Int) (a b : WT)
def WT.toD : WT → PyData
  | .leaf w => .tuple [.str w]
  | .broken t => .tuple [.str ("broken" : Str), .int t]
  | .split k a b => .tuple [.str ("split" : Str), .int k, a.toD, b.toD]
def WT.depth : WT → Nat
  | .leaf _ => 0
  | .broken _ => 0
  | .split _ a b => max a.depth b.depth + 1
def WT.good : WT → Prop
  | .leaf w => ¬ V.str w = V.str ("broken" : Str) ∧ ¬ V.str w = V.str ("split" : Str)
  | .broken _ => True
  | .split _ a b => a.good ∧ b.good
def CT.toW : CT → WT
  | .broken t => .broken (t : Int)
  | .ware => .leaf ("ware" : Str)
  | .split k a b => .split (k : Int) a.toW b.toW
theorem toW_D : ∀ t : CT, t.toW.toD = t.toD
  | .broken _ => rfl
  | .ware => rfl
  | .split k a b => by
    show PyData.tuple [.str ("split" : Str), .int (k : Int), a.toW.toD, b.toW.toD] = PyData.tuple [.str ("split" : Str), .int (k : Int), a.toD, b.toD]
    rw [toW_D a, toW_D b]
theorem toW_depth : ∀ t : CT, t.toW.depth = t.depth
  | .broken _ => rfl
  | .ware => rfl
  | .split k a b => by
    show max a.toW.depth b.toW.depth + 1 = max a.depth b.depth + 1
    rw [toW_depth a, toW_depth b]
def brB (ts : List Tie) (t : Int) (y n : Nat) : Bool := decide (0 ≤ t) && (decide (t < (ts.length : Int)) && sbAt ts t.toNat y n)
/-- whether a tree is one of the wood's ties and of leaves as lf tells, at a stand -/
def isT (ts : List Tie) (m : Nat) (lf : Str → Nat → Nat → Bool) : WT → Nat → Nat → Bool
  | .broken t, y, n => brB ts t y n
  | .leaf w, y, n => lf w y n
  | .split k a b, y, n => if 0 ≤ k ∧ k.toNat ∈ openL m y n then isT ts m lf a (y ||| 2 ^ k.toNat) n && isT ts m lf b y (n ||| 2 ^ k.toNat) else false
def wareOk (ts : List Tie) (m : Nat) (w : Str) (y n : Nat) : Bool := decide (V.str w = V.str ("ware" : Str)) && (decide (openL m y n = []) && wareB ts y)
theorem inV_int (k : Int) (op : List Nat) : inV (.int k) (natsL op) = decide (0 ≤ k ∧ k.toNat ∈ op) := by
  by_cases h : 0 ≤ k
  · obtain ⟨j, rfl⟩ : ∃ j : Nat, k = (j : Int) := ⟨k.toNat, by omega⟩
    rw [inV_nats, Int.toNat_natCast]
    by_cases c : j ∈ op
    · rw [decide_eq_true c, decide_eq_true ⟨h, c⟩]
    · rw [decide_eq_false c, decide_eq_false fun z => c z.2]
  · rw [decide_eq_false fun z => h z.1]
    cases e : inV (.int k) (natsL op) with
    | false => rfl
    | true =>
      exfalso
      have : ∀ l : List Nat, inV (.int k) (natsL l) = false := by
        intro l
        induction l with
        | nil => rfl
        | cons a r ih =>
          show (eqV (.int (a : Int)) (.int k) || inV (.int k) (natsL r)) = false
          rw [ih, Bool.or_false]
          show ((a : Int) == k) = false
          simpa using fun z : (a : Int) = k => h (by omega)
      rw [this] at e
      cases e
def spBrLeaf : Sp := fun vs H Q _ => ∃ (wd : Addr) (m : Nat) (ts : List Tie) (y n : Nat) (t : Int), vs = [.ref wd, .int y, .int n, .int t] ∧ WoodT H wd m ts ∧ ∀ H', Same H H' → Q (.bl (brB ts t y n)) H'
def spWLeaf : Sp := fun vs H Q _ => ∃ (wd : Addr) (m : Nat) (ts : List Tie) (w : Str) (y n : Nat), vs = [.ref wd, .str w, .int y, .int n] ∧ WoodT H wd m ts ∧ ∀ H', Same H H' → Q (.bl (wareOk ts m w y n)) H'
def spLf3 (C : Hp → Prop) (lf : Str → Nat → Nat → Bool) : Sp := fun vs H Q _ => ∃ (w : Str) (y n : Nat), vs = [.str w, .int y, .int n] ∧ C H ∧ ∀ H', Same H H' → Q (.bl (lf w y n)) H'
def spIsTree (f : Nat) (p : Addr) (C : Hp → Prop) (m : Nat) (ts : List Tie) (lf : Str → Nat → Nat → Bool) : Sp := fun vs H Q _ => ∃ (wd : Addr) (y n : Nat) (t : WT) (v : V), vs = [.ref wd, .int y, .int n, v, .ref p] ∧ WoodT H wd m ts ∧ Dn H t.toD v ∧ t.good ∧ t.depth < f ∧ C H ∧ ∀ H', Same H H' → Q (.bl (isT ts m lf t y n)) H'
def spAreCases (f : Nat) : Sp := fun vs H Q _ => ∃ (wd : Addr) (m : Nat) (ts : List Tie) (y n : Nat) (t : WT) (v : V), vs = [.ref wd, .int y, .int n, v] ∧ WoodT H wd m ts ∧ Dn H t.toD v ∧ t.good ∧ t.depth < f ∧ ∀ H', Same H H' → Q (.bl (isT ts m (wareOk ts m) t y n)) H'
/-- a lambda that tells of a word and a stand whether such a leaf may stand there -/
theorem lam_ok3 {P : Program} {w : World} {K : PySem.W.Frag} {mg : Str → Option Value} {base : Heap} {p c : Addr} {qual : Str} {params : Arguments} {body : Expr} {scope : Scope} {cl : List (Str × Addr)} {H1 : Hp} {ps fr : List Str} {fv : List V} {k : Nat} {lf : Str → Nat → Nat → Bool} (C0 : Hp → Prop)
    (hp : H1 p = some (.ext (lamP p qual params body scope cl c)))
    (S : LamScope ps fr scope) (hcl : ∀ x cc, cl.lookup x = some cc → ∃ v, base.IsCell cc v) (inj : ∀ x y cc, cl.lookup x = some cc → cl.lookup y = some cc → x = y) (has : ∀ y ∈ scope.names, y.2 = .free → ∃ cc, cl.lookup y.1 = some cc)
    (hfv : ∀ (i : Nat) (x : Str) (v : V), fr[i]? = some x → fv[i]? = some v → ∃ cc u, cl.lookup x = some cc ∧ RelV v u ∧ base.IsCell cc (some u)) (hlen : fv.length = fr.length)
    (hsame : ∀ pm ctv args, bindArgs (PySem.W.kla_fn "<lambda>" qual params body scope cl pm (.ref c) ctv) args = bindArgs (PySem.W.kla_fn "<lambda>" qual params body scope cl .none (.ref c) .none) args)
    (len3 : ps.length = 3)
    (hbody : ∀ (q : Str) (A : Around) (outer : List Env) (s : Shared) (H : Hp) (wo : Str) (y n : Nat) (Q : VK), Room k (A.deeper (PySem.W.envX q scope s.heap.objs.size p (.ref c) cl)) → C0 H → (∀ (H' : Hp), Same H H' → Q (.bl (lf wo y n)) H') →
      ∃ t, PE (cxLam P w K mg base (ps ++ fr) q scope p c cl A outer s H) body t ∧ t ([some (.str wo), some (.int y), some (.int n)] ++ fv.map some) H Q) :
    FnOk P w K mg base CX0 (k + 1) p (PySem.W.kla_fn "<lambda>" qual params body scope cl .none (.ref c) .none) ps (spLf3 (fun H => C0 H ∧ H p = some (.ext (lamP p qual params body scope cl c)) ∧ H c = some (.ext (codeP c))) lf) := by
  refine lam_ok S hcl inj has hfv hlen hsame (fun vs H Q E h => ?_) (fun vs H Q E h => ?_) (fun q A outer s H vs Q E hr h => ?_)
  · obtain ⟨wo, y, n, rfl, _⟩ := h
    exact len3.symm
  · obtain ⟨wo, y, n, rfl, ⟨_, h1, h2⟩, _⟩ := h
    exact ⟨h1, h2⟩
  · obtain ⟨wo, y, n, rfl, ⟨h0, _, _⟩, q'⟩ := h
    exact hbody q A outer s H wo y n Q hr h0 q'
/-- all leaves are of the one word -/
def WT.wares : WT → Prop
  | .leaf w => w = ("ware" : Str)
  | .broken _ => True
  | .split _ a b => a.wares ∧ b.wares
theorem wares_good : ∀ t : WT, t.wares → t.good
  | .leaf w, h => by cases (show w = ("ware" : Str) from h); exact ⟨ware_broken, ware_split⟩
  | .broken _, _ => trivial
  | .split _ a b, h => ⟨wares_good a h.1, wares_good b h.2⟩
theorem toW_wares : ∀ t : CT, t.toW.wares
  | .broken _ => trivial
  | .ware => rfl
  | .split k a b => ⟨toW_wares a, toW_wares b⟩
theorem strOk_w : PyData.strOk ("ware" : Str) = true := by decide +kernel
theorem strOk_b : PyData.strOk ("broken" : Str) = true := by decide +kernel
theorem strOk_s : PyData.strOk ("split" : Str) = true := by decide +kernel
theorem wt_flat : ∀ (t : WT) (f : Nat), t.wares → t.depth < f → flatD (f + 1) t.toD = true
  | .leaf w, f, h, _ => by
    cases (show w = ("ware" : Str) from h)
    show (decide (1 ≤ 1000) && List.all [PyData.str ("ware" : Str)] (flatD f)) = true
    simp [flatD, strOk_w]
  | .broken t, f, _, _ => by
    show (decide (2 ≤ 1000) && List.all [PyData.str ("broken" : Str), .int t] (flatD f)) = true
    simp [flatD, strOk_b]
  | .split k a b, f, h, hd => by
    have e : (WT.split k a b).depth = max a.depth b.depth + 1 := rfl
    obtain ⟨f', rfl⟩ : ∃ f', f = f' + 1 := ⟨f - 1, by omega⟩
    have ha := wt_flat a f' h.1 (by have := Nat.le_max_left a.depth b.depth; omega)
    have hb := wt_flat b f' h.2 (by have := Nat.le_max_right a.depth b.depth; omega)
    show (decide (4 ≤ 1000) && List.all [PyData.str ("split" : Str), .int k, a.toD, b.toD] (flatD (f' + 1))) = true
    simp [flatD, strOk_s, ha, hb]
/-- the told tree of cases is one -/
theorem cases_right {ts : List Tie} {m : Nat} (ok : ∀ t ∈ ts, t.Ok m) : ∀ (f y n : Nat), (openL m y n).length ≤ f → Stand m y n → y.testBit 0 = true → isT ts m (wareOk ts m) (casesF ts (allT ts) m f y n).toW y n = true
  | f, y, n, hf, S, y0 => by
    cases hb : firstSB ts (allT ts) y n with
    | some t =>
      rw [casesF_broken hb]
      obtain ⟨h1, h2⟩ := firstSB_some hb
      have tl := List.mem_range.mp h1
      show brB ts (t : Int) y n = true
      unfold brB
      rw [decide_eq_true (by omega), decide_eq_true (by omega), Int.toNat_natCast, h2]
      rfl
    | none =>
      have nsb := firstSB_none hb
      cases ho : openL m y n with
      | nil =>
        rw [casesF_full hb ho]
        show wareOk ts m ("ware" : Str) y n = true
        unfold wareOk wareB
        rw [decide_eq_true rfl, decide_eq_true ho, y0, Bool.true_and, Bool.true_and, Bool.true_and, List.all_eq_true]
        intro t ht
        obtain ⟨i, hi, e⟩ := List.mem_iff_getElem.mp ht
        have hti : ts[i]? = some t := by rw [List.getElem?_eq_getElem hi, e]
        have kp := keep_full ok S.dj ho (nsb i (List.mem_range.mpr hi))
        unfold keepAt at kp
        rw [hti] at kp
        exact kp
      | cons k r =>
        cases f with
        | zero => rw [ho] at hf; simp at hf
        | succ f =>
          have hk : k ∈ openL m y n := by rw [ho]; exact List.mem_cons_self
          have l1 := open_less1 hk
          have l2 := open_less2 hk
          rw [casesF_split hb ho]
          show isT ts m (wareOk ts m) (.split (k : Int) (casesF ts (allT ts) m f (y ||| 2 ^ k) n).toW (casesF ts (allT ts) m f y (n ||| 2 ^ k)).toW) y n = true
          unfold isT
          rw [if_pos ⟨by omega, by rw [Int.toNat_natCast]; exact hk⟩, Int.toNat_natCast, cases_right ok f _ _ (by omega) (S.one hk) (by rw [Nat.testBit_or, y0]; rfl), cases_right ok f _ _ (by omega) (S.other hk) y0]
          rfl
end Wd

set_option maxRecDepth 100000
set_option maxHeartbeats 4000000
namespace Wd
open PySem L2 Ow
section
variable {t1 t2 : List Tie} {m f y n : Nat}
end
end Wd

set_option maxRecDepth 100000
set_option maxHeartbeats 4000000
namespace L2
open PySem PySem.Spec PyProof.Rows
end L2
namespace Wd
open PySem L2 Ow
/-- [x for k in range(n) if ..] -/
theorem lc_rfilt {n : Nat} {σ0 σr : St} {H : Hp} {tc : TT} {Q : VK} (gB : Nat → Bool) (h0 : σ0 = none :: σr) (few : n ≤ 1000)
    (ht : ∀ s, s < n → ∀ R : Bool → Hp → Prop, R (gB s) H → tc (some (.int (s : Int)) :: σr) H R)
    (hd : ∀ p, H p = none → Q (.ref p) (upd H p (.lst (natsL ((List.range n).filter gB))))) :
    lcGo (Itr 0 n) (gName 0) tc (tVar 0) σ0 H Q := by
  refine lc_range0 (k := n) (fun i ys σ H2 => (∃ v, σ = v :: σr) ∧ H2 = H ∧ ys = natsL ((List.range i).filter gB)) ⟨⟨none, h0⟩, rfl, rfl⟩ (fun i ys σ H2 hi pv => ?_) (fun i ys σ H2 hi pv => ?_) (fun ys σ H2 pv p hp => ?_)
  · obtain ⟨_, _, rfl⟩ := pv
    rw [List.length_map]
    refine small (Nat.le_trans (List.length_filter_le _ _) ?_)
    rw [List.length_range]
    omega
  · obtain ⟨⟨v, rfl⟩, rfl, rfl⟩ := pv
    refine ht i hi _ ?_
    have e : natsL ((List.range (i + 1)).filter gB) = natsL ((List.range i).filter gB) ++ (if gB i = true then [.int (i : Int)] else []) := by
      rw [List.range_succ, List.filter_append]
      unfold natsL
      rw [List.map_append]
      cases c : gB i
      · rw [List.filter_cons_of_neg (by rw [c]; decide)]; rfl
      · rw [List.filter_cons_of_pos c]; rfl
    cases c : gB i
    · refine iteF ?_
      rw [c, if_neg (by decide), List.append_nil] at e
      exact ⟨⟨_, rfl⟩, rfl, e.symm⟩
    · refine iteT ?_
      rw [c, if_pos rfl] at e
      exact ⟨_, rfl, ⟨_, rfl⟩, rfl, e.symm⟩
  · obtain ⟨_, rfl, rfl⟩ := pv
    exact hd p hp
/-! ### trees of one wood within another that are looked at -/
theorem tupS_trans {H H1 H2 : Hp} (a : TupS H H1) (b : TupS H1 H2) : TupS H H2 := fun c xs h => b c xs (a c xs h)
end Wd

set_option maxRecDepth 100000
set_option maxHeartbeats 4000000
namespace L2
open PySem PySem.Spec PyProof.Rows
/-! ### own exceptions: their classes -/
/-! ### what stays when an exception passes: all but the frames that run -/
section
variable {X : Cx} {pins : List (Addr × Obj)} {σ : St} {H H' : Hp} {s s' : Shared} {h2 : Heap}
end
/-! ### how an exception lies behind a call -/
/-! ### try .. except C as n -/
section
variable {X : Cx} {pins : List (Addr × Obj)} {σ : St} {H H' : Hp} {s s' : Shared} {h2 : Heap}
end
end L2

set_option maxRecDepth 100000
set_option maxHeartbeats 4000000
namespace L2
open PySem PySem.Spec PyProof.Rows
/-! ### isinstance of an own exception -/
section
variable {prog : Program} {w : World} {A : Around} {E : Value → Shared → Prop} {h : Heap} {g : Array GenState} {d : Drawn} {t : Nat} {os : OsState} {a D : Addr} {o : Obj} {K : PySem.W.Frag} {bD : List Value}
end
end L2
namespace Wd
open PySem L2 Ow
end Wd

set_option maxRecDepth 100000
set_option maxHeartbeats 4000000
namespace Wd
open PySem L2 Ow
/-! ### what lies beneath an option -/
/-! ### how it is found: turn by turn -/
end Wd

set_option maxRecDepth 100000
set_option maxHeartbeats 4000000
namespace L2
open PySem PySem.Spec PyProof.Rows
end L2

set_option maxRecDepth 100000
set_option maxHeartbeats 4000000
namespace L2
open PySem PySem.Spec PyProof.Rows
/-! ### lambdas that an exception may leave -/
section
variable {X : Cx} {k : Nat} {f : Addr} {fd : FuncData} {ps : List Str} {x : Str} {p pos : Pos} {e : Expr} {es : List Expr} {t : TA}
end
end L2

set_option maxRecDepth 100000
set_option maxHeartbeats 4000000
namespace Wd
open PySem L2 Ow
/-! ### asked, and what is heard -/
end Wd

set_option maxRecDepth 100000
set_option maxHeartbeats 4000000
namespace Ow
open PySem
end Ow
namespace Wd
open PySem L2 Ow
/-! ### picks, and the stand that they tell -/
theorem tupS_refl (H : Hp) : TupS H H := fun _ _ h => h
theorem tupS_put {H : Hp} {a : Addr} {o o' : HO} (h : H a = some o) (no : ∀ xs, o ≠ .tup xs) : TupS H (upd H a o') := fun b xs hb => by
  have n : b ≠ a := fun z => by
    rw [z, h] at hb
    exact no xs (Option.some.inj hb)
  rw [upd_ne n]
  exact hb
/-! ### a ware chosen option by option -/
/-! ### one wood within another, by their wares -/
end Wd

set_option maxRecDepth 100000
set_option maxHeartbeats 4000000
namespace L2
open PySem PySem.Spec PyProof.Rows
end L2
namespace Wd
open PySem L2 Ow
end Wd

set_option maxRecDepth 100000
set_option maxHeartbeats 4000000
namespace Wd
open PySem L2 Ow
/-! ### picks taken back -/
end Wd

set_option maxRecDepth 100000
set_option maxHeartbeats 4000000
namespace L2
open PySem PySem.Spec PyProof.Rows
/-! ### in, of a list of data -/
end L2
namespace Wd
open PySem L2 Ow
theorem Pen.same {K : PySem.W.Frag} {H H' : Hp} {pen sp : Addr} {ns : List Int} {k : Int} (p : Pen K H pen sp ns k) (s : Same H H') : Pen K H' pen sp ns k := p.to (Same.x s) (s _ _ p.at_)
/-! ### the sets that a stand and ties let in -/
/-! ### picks of a ware, in any order -/
/-! ### orders of options -/
/-! ### boughs alone always have a ware -/
/-! ### picks taken back one by one -/
end Wd

set_option maxRecDepth 100000
set_option maxHeartbeats 4000000
namespace Wd
open PySem L2 Ow
/-! ### picks that a choice may hold -/
/-! ### what is offered, told option by option -/
/-! ### what a lambda closes over -/
/-! ### deeds that are refused -/
/-! ### picks, where only a pen or a choice is written -/
end Wd

set_option maxRecDepth 100000
set_option maxHeartbeats 4000000
namespace L2
open PySem PySem.Spec
theorem tupOfK {X : Cx} {K : PySem.W.Frag} (h : X.K = K := by rfl) : CallR X (.type "tuple") (fun xs H Q => ∃ p ys, xs = [V.ref p] ∧ ((SqL K H p ys ∧ ∀ l, H l = none → Q (.ref l) (upd H l (.tup ys))) ∨ SqT K H p ys ∧ Q (.ref p) H)) := h ▸ call_tuple_of
end L2
namespace Wd
open PySem L2 Ow
/-! ### woods drawn, kids handed on in a tuple -/
def spBoughT (K : PySem.W.Frag) : Sp := fun vs H Q _ => ∃ (pen sp : Addr) (ns : List Int) (tk : Addr) (u : Int) (kids : List Int) (m : Int) (k : Int), vs = [.ref pen, .int u, .ref tk] ∧ Pen K H pen sp ns k ∧ 0 ≤ k ∧ k ≤ 950000 ∧ H tk = some (.tup (kids.map V.int)) ∧ kids.length ≤ 9 ∧ 0 ≤ u ∧ kids ≠ [] ∧ rising m (kids.map PyData.int) u = true ∧
  ∀ (d : PyData) (v : V) (k' : Int) (H' : Hp), SameX pen H H' → H' pen = some (.lst [.ref sp, .int k']) → k ≤ k' → k' ≤ k + 3 → Dn H' d v → isBough m d = true → flatD 3 d = true → kidsOf d = kids → Q v H'
/-- a cross tie drawn -/
def spCrossT (K : PySem.W.Frag) : Sp := fun vs H Q _ => ∃ (pen sp : Addr) (ns : List Int) (m : Nat) (k : Int), vs = [.ref pen, .int (m : Int)] ∧ Pen K H pen sp ns k ∧ 0 ≤ k ∧ k ≤ 900000 ∧ 1 ≤ m ∧ m ≤ 9 ∧
  ∀ (c : PyData) (v : V) (k' : Int) (H' : Hp), SameX pen H H' → H' pen = some (.lst [.ref sp, .int k']) → k ≤ k' → k' ≤ k + 30 → Dn H' c v → isTie m c = true → flatD 3 c = true → Q v H'
def spCrossU (K : PySem.W.Frag) : Sp := fun vs H Q _ => ∃ (pen sp : Addr) (ns : List Int) (m : Nat) (k : Int), vs = [.ref pen, .int (m : Int)] ∧ Pen K H pen sp ns k ∧ 0 ≤ k ∧ k ≤ 800000 ∧ 1 ≤ m ∧ m ≤ 9 ∧
  ∀ (c : PyData) (v : V) (k' : Int) (H' : Hp), SameX pen H H' → H' pen = some (.lst [.ref sp, .int k']) → k ≤ k' → k' ≤ k + 31 → Dn H' c v → isTie m c = true → flatD 3 c = true → Q v H'
/-- a wood drawn -/
def spWoodW (K : PySem.W.Frag) : Sp := fun vs H Q _ => ∃ (pen sp : Addr) (ns : List Int) (k : Int), vs = [.ref pen] ∧ Pen K H pen sp ns k ∧ 0 ≤ k ∧ k ≤ 700000 ∧
  ∀ (wd : Addr) (m : Nat) (bs cs : List PyData) (k' : Int) (H' : Hp), SameX pen H H' → H' pen = some (.lst [.ref sp, .int k']) → k ≤ k' → k' ≤ k + 400 → 1 ≤ m → m ≤ 9 → WoodX H' wd m bs cs → cs.length ≤ 8 → Q (.ref wd) H'
/-- has, by // and % -/
def spHasD : Sp := fun vs H Q _ => ∃ (n k : Nat), vs = [.int (n : Int), .int (k : Int)] ∧ k ≤ 20 ∧ Q (.bl (n.testBit k)) H
theorem bit_div (n k : Nat) : decide (V.int ((n : Int) / ((2 ^ k : Nat) : Int) % 2) = V.int 1) = n.testBit k := by
  have e : (n : Int) / ((2 ^ k : Nat) : Int) % 2 = ((n / 2 ^ k % 2 : Nat) : Int) := by
    rw [Int.natCast_emod, Int.natCast_ediv]
    rfl
  rw [e, Nat.testBit_eq_decide_div_mod_eq, Bool.eq_iff_iff, decide_eq_true_iff, decide_eq_true_iff]
  constructor
  · intro h
    injection h with h
    omega
  · intro h
    rw [h]
    rfl
theorem tie_most {m : Nat} {top : Int} {ps : List PyData} (pok : ps.all pairOk = true) (pri : rising (m : Int) (ps.map fstD) (-1) = true) (p0 : 0 < ps.length) : isTie m (.tuple [.str ("most" : Str), .int top, .tuple ps]) = true := by
  show tieK m ("most" : Str) (.int top) (.tuple ps) = true
  unfold tieK
  rw [if_pos rfl]
  show (true && (decide (0 < ps.length) && ps.all pairOk && rising m (ps.map fstD) (-1))) = true
  rw [decide_eq_true p0, pok, pri]
  rfl
theorem flat_most {m : Nat} {top : Int} {ps : List PyData} (pfl : ps.all (flatD 1) = true) (pfw : ps.length ≤ 1000) : flatD 3 (.tuple [.str ("most" : Str), .int top, .tuple ps]) = true := by
  have f2 : flatD 2 (.tuple ps) = true := by
    show (decide (ps.length ≤ 1000) && ps.all (flatD 1)) = true
    rw [decide_eq_true pfw, pfl]
    rfl
  show (true && (flatD 2 (.str ("most" : Str)) && (flatD 2 (.int top) && (flatD 2 (.tuple ps) && true)))) = true
  rw [show flatD 2 (.str ("most" : Str)) = true from strOk_most, f2]
  rfl
theorem _root_.Ow.PairsTo.snoc {H : Hp} {i : Nat} {ps : List PyData} {xs : List V} {tp : Addr} {x : Int} (pt : PairsTo H i ps xs) (h : H tp = some (.tup [.int (i : Int), .int x])) : PairsTo H (i + 1) (ps ++ [.tuple [.int (i : Int), .int x]]) (xs ++ [.ref tp]) := by
  refine ⟨?_, ?_, ?_, ?_, ?_⟩
  · exact pt.dn.append ⟨_, [], rfl, ⟨tp, _, rfl, h, _, _, rfl, rfl, _, _, rfl, rfl, rfl⟩, rfl⟩
  · rw [List.all_append, pt.ok]
    rfl
  · rw [List.all_append, pt.flat]
    rfl
  · rw [List.map_append]
    show rising ((i + 1 : Nat) : Int) (ps.map fstD ++ [.int (i : Int)]) (-1) = true
    exact rising_snoc (by omega) pt.ris (by omega)
  · rw [List.length_append, List.length_singleton]
    have := pt.few
    omega
theorem _root_.Ow.PairsTo.up {H : Hp} {i : Nat} {ps : List PyData} {xs : List V} (pt : PairsTo H i ps xs) : PairsTo H (i + 1) ps xs := ⟨pt.dn, pt.ok, pt.flat, rising_mono (by omega) pt.ris, Nat.le_succ_of_le pt.few⟩
theorem _root_.Ow.PairsTo.tupS {H H' : Hp} (t : TupS H H') {i : Nat} {ps : List PyData} {xs : List V} (pt : PairsTo H i ps xs) : PairsTo H' i ps xs := ⟨DnL.tupS t pt.flat pt.dn, pt.ok, pt.flat, pt.ris, pt.few⟩
theorem pairs_one {H : Hp} {m : Nat} {tp : Addr} {o x : Int} (o0 : 0 ≤ o) (o1 : o < m) (h : H tp = some (.tup [.int o, .int x])) : PairsTo H m [.tuple [.int o, .int x]] [.ref tp] := by
  refine ⟨⟨_, [], rfl, ⟨tp, _, rfl, h, _, _, rfl, rfl, _, _, rfl, rfl, rfl⟩, rfl⟩, rfl, rfl, ?_, by show 1 ≤ m; omega⟩
  have := rising_snoc (m := (m : Int)) (j := o) o1 (ks := []) (u := -1) rfl (by omega)
  exact this
end Wd

set_option maxRecDepth 100000
set_option maxHeartbeats 4000000
namespace L2
open PySem PySem.Spec PyProof.Rows
section
variable {X : Cx}
theorem list_iter_facts {s : Shared} {p : Addr} {its : List Value} (pl : s.heap.IsList p its.toArray) : p < s.heap.objs.size := by
  obtain ⟨o, e, _⟩ := pl
  exact Heap.lt_size e
end
end L2

set_option maxRecDepth 100000
set_option maxHeartbeats 4000000
namespace L2
open PySem PySem.Spec PyProof.Rows
/-! ### try .. except C, without a name -/
end L2

set_option maxRecDepth 100000
set_option maxHeartbeats 4000000
namespace Wd
open PySem L2 Ow
/-! ### options that stay, numbered anew -/
/-! ### ties numbered anew -/
/-! ### a ware's set keeps the ties numbered anew -/
/-! ### the options of some ware -/
end Wd

set_option maxRecDepth 100000
set_option maxHeartbeats 4000000
namespace Wd
open PySem L2 Ow
/-! ### ties in a tuple -/
/-! ### the whole fold -/
end Wd

set_option maxRecDepth 100000
set_option maxHeartbeats 4000000
namespace L2
open PySem PySem.Spec
end L2
namespace Wd
open PySem L2 Ow
end Wd

set_option maxRecDepth 100000
set_option maxHeartbeats 4000000
namespace Wd
open PySem L2 Ow
/-! ### what a fold keeps -/
end Wd

set_option maxRecDepth 100000
set_option maxHeartbeats 4000000
namespace Wd
open PySem L2 Ow
end Wd

set_option maxRecDepth 100000
set_option maxHeartbeats 4000000
namespace Wd
open PySem L2 Ow
/-! ### sets of new numbers, by the old ones -/
theorem pw_ext : ∀ {A B : List Nat}, A.Pairwise (· < ·) → B.Pairwise (· < ·) → (∀ x, x ∈ A ↔ x ∈ B) → A = B
  | [], [], _, _, _ => rfl
  | [], b :: r, _, _, h => nomatch (h b).mpr List.mem_cons_self
  | a :: r, [], _, _, h => nomatch (h a).mp List.mem_cons_self
  | a :: r, b :: r', pa, pb, h => by
    rw [List.pairwise_cons] at pa pb
    have e : a = b := by
      rcases List.mem_cons.mp ((h a).mp List.mem_cons_self) with z | z
      · exact z
      · rcases List.mem_cons.mp ((h b).mpr List.mem_cons_self) with y | y
        · exact y.symm
        · have := pa.1 b y
          have := pb.1 a z
          omega
    subst e
    congr 1
    refine pw_ext pa.2 pb.2 fun x => ⟨fun hx => ?_, fun hx => ?_⟩
    · rcases List.mem_cons.mp ((h x).mp (List.mem_cons_of_mem _ hx)) with z | z
      · have := pa.1 x hx; omega
      · exact z
    · rcases List.mem_cons.mp ((h x).mpr (List.mem_cons_of_mem _ hx)) with z | z
      · have := pb.1 x hx; omega
      · exact z
/-! ### a set that keeps the ties numbered anew, by the old numbers -/
/-! ### folded again -/
end Wd

set_option maxRecDepth 100000
set_option maxHeartbeats 4000000
namespace L2
open PySem PySem.Spec PyProof.Rows
theorem op_is_bl {X : Cx} : OpR X (compareOp .Is) (fun x y H Q => ∃ a b : Bool, x = .bl a ∧ y = .bl b ∧ Q (.bl (a == b)) H) := by
  intro pins s σ H x y v u Q I rx ry h
  obtain ⟨a, b, rfl, rfl, q⟩ := h
  cases rx
  cases ry
  exact is_bool (fin_bl I q rfl)
end L2
namespace Wd
open PySem L2 Ow
def bitsL (n : Nat) : List Nat := (List.range (Builtin.Int.intBits (n : Int))).filter fun k => n.testBit k
theorem bits_lt {n k : Nat} (h : n.testBit k = true) : k < Builtin.Int.intBits (n : Int) := by
  rcases Nat.lt_or_ge k (Builtin.Int.intBits (n : Int)) with z | z
  · exact z
  · exfalso
    unfold Builtin.Int.intBits at z
    by_cases e : n = 0
    · rw [e, Nat.zero_testBit] at h
      cases h
    · rw [if_neg (by simpa using e)] at z
      have h1 : (n : Int).natAbs = n := Int.natAbs_natCast n
      rw [h1] at z
      have h2 := Nat.lt_log2_self (n := n)
      have p : 2 ^ (n.log2 + 1) ≤ 2 ^ k := Nat.pow_le_pow_right (by decide) z
      rw [Nat.testBit_lt_two_pow (by omega)] at h
      cases h
theorem bits_le9 {n : Nat} (h : n < 512) : Builtin.Int.intBits (n : Int) ≤ 9 := by
  have : ∀ n : _root_.Fin 512, Builtin.Int.intBits ((n.val : Nat) : Int) ≤ 9 := by decide +kernel
  exact this ⟨n, h⟩
theorem mem_bitsL {n k : Nat} : k ∈ bitsL n ↔ n.testBit k = true := by
  unfold bitsL
  rw [List.mem_filter, List.mem_range]
  exact ⟨fun h => h.2, fun h => ⟨bits_lt h, h⟩⟩
def spBitsOf : Sp := fun vs H Q _ => ∃ n : Nat, vs = [.int (n : Int)] ∧ n < 512 ∧ ∀ (l : Addr) (H' : Hp), Same H H' → H l = none → H' l = some (.lst (natsL (bitsL n))) → Q (.ref l) H'
end Wd

set_option maxRecDepth 100000
set_option maxHeartbeats 4000000
namespace L2
open PySem PySem.Spec PyProof.Rows
/-- over a list or a tuple that stays as it is -/
theorem lc_seq {K : PySem.W.Frag} {a : Addr} {xs : List V} {σ0 : St} {H : Hp} {g : TG} {tc : TT} {te : TE} {Q : VK} (hq : H a = some (.tup xs) ∨ H a = some (.lst xs)) (Pv : Nat → List V → St → Hp → Prop) (h0 : Pv 0 [] σ0 H) (hz : ∀ i ys σ H, i ≤ xs.length → Pv i ys σ H → ys.length ≤ sizeLine)
    (hl : ∀ i ys σ H2, i ≤ xs.length → Pv i ys σ H2 → H2 a = H a)
    (hs : ∀ i x ys σ H, xs[i]? = some x → Pv i ys σ H → g x σ H fun σ3 H3 => tc σ3 H3 fun b H4 => if b = true then te σ3 H4 fun v H5 => Pv (i + 1) (ys ++ [v]) σ3 H5 else Pv (i + 1) ys σ3 H4)
    (hd : ∀ ys σ H, Pv xs.length ys σ H → ∀ p, H p = none → Q (.ref p) (upd H p (.lst ys))) :
    ((∃ xs, SqL K H a xs) ∧ lcGo (Itl K a) g tc te σ0 H Q) ∨ ((∃ xs, SqT K H a xs) ∧ lcGo (Itt K a) g tc te σ0 H Q) := by
  rcases hq with h | h
  · exact .inr ⟨⟨_, Wd.sqT h⟩, lc_tup Pv h0 hz (fun i ys σ H2 hi pv => Wd.sqT ((hl i ys σ H2 hi pv).trans h)) hs hd⟩
  · exact .inl ⟨⟨_, SqL.of h⟩, lc_list Pv h0 hz (fun i ys σ H2 hi pv => SqL.of ((hl i ys σ H2 hi pv).trans h)) hs hd⟩
end L2
namespace Wd
open PySem L2 Ow
def spSumA (f : List (Nat × Int) → Nat → Nat → Int) : Sp := fun vs H Q _ => ∃ (q : Addr) (xs : List V) (ps : List (Nat × Int)) (y n : Nat), vs = [.ref q, .int y, .int n] ∧ (H q = some (.tup xs) ∨ H q = some (.lst xs)) ∧ DnL H (ps.map pairD) xs ∧ ps.length ≤ 1000 ∧ ∀ H', Same H H' → Q (.int (f ps y n)) H'
theorem spSumA_of {f : List (Nat × Int) → Nat → Nat → Int} {vs : List V} {H : Hp} {Q : VK} {E : XK} (h : spSum f vs H Q E) : spSumA f vs H Q E := by
  obtain ⟨q, xs, ps, y, n, e, hq, r⟩ := h
  exact ⟨q, xs, ps, y, n, e, .inl hq, r⟩
end Wd

set_option maxRecDepth 100000
set_option maxHeartbeats 4000000
namespace Wd
open PySem L2 Ow
/-- of a leaf's word, at the stands that are come to -/
def spLf3R (C : Hp → Prop) (R : Nat → Nat → Prop) (lf : Str → Nat → Nat → Bool) : Sp := fun vs H Q _ => ∃ (w : Str) (y n : Nat), vs = [.str w, .int y, .int n] ∧ (C H ∧ R y n) ∧ ∀ H', Same H H' → Q (.bl (lf w y n)) H'
def spIsTreeR (f : Nat) (p : Addr) (C : Hp → Prop) (R : Nat → Nat → Prop) (m : Nat) (ts : List Tie) (lf : Str → Nat → Nat → Bool) : Sp := fun vs H Q _ => ∃ (wd : Addr) (y n : Nat) (t : WT) (v : V), vs = [.ref wd, .int y, .int n, v, .ref p] ∧ WoodT H wd m ts ∧ Dn H t.toD v ∧ t.good ∧ t.depth < f ∧ (C H ∧ R y n) ∧ ∀ H', Same H H' → Q (.bl (isT ts m lf t y n)) H'
theorem lf3_of {C : Hp → Prop} {lf : Str → Nat → Nat → Bool} {vs : List V} {H : Hp} {Q : VK} {E : XK} (h : spLf3R C (fun _ _ => True) lf vs H Q E) : spLf3 C lf vs H Q E := by
  obtain ⟨w, y, n, e, c, q⟩ := h
  exact ⟨w, y, n, e, c.1, q⟩
theorem isTree_of {f : Nat} {p : Addr} {C : Hp → Prop} {m : Nat} {ts : List Tie} {lf : Str → Nat → Nat → Bool} {vs : List V} {H : Hp} {Q : VK} {E : XK} (h : spIsTree f p C m ts lf vs H Q E) : spIsTreeR f p C (fun _ _ => True) m ts lf vs H Q E := by
  obtain ⟨wd, y, n, t, v, e, a, b, c, d, g, q⟩ := h
  exact ⟨wd, y, n, t, v, e, a, b, c, d, ⟨g, trivial⟩, q⟩
end Wd

set_option maxRecDepth 100000
set_option maxHeartbeats 4000000
namespace L2
open PySem PySem.Spec PyProof.Rows
section
variable {prog : Program} {w : World} {A : Around} {E : Value → Shared → Prop} {s : Shared}
theorem alive_any {a : Addr} {Q : Option Obj → Shared → Prop} (q : Q (s.heap.get? a) s) : wpAny (model prog w) A (loadIfAlive a) Q E s := by
  intro Γ p _
  unfold loadIfAlive
  rw [Sem.wp_loadIfAlive, Sem.wp_pure]
  exact q
/-- an enumerate, whatever became of the tuple that it gave first -/
def EnAny (h : Heap) (e it : Addr) (i : Int) : Prop := ∃ (z : Value) (f : Bool) (y : Value), (z = .none ∨ ∃ c : Nat, z = rawInt c) ∧
  h.get? e = some { cls := .type "enumerate", dict := none, data := .fields #[z, .bool f, .ref it, rawInt i, .none, y], slots := #[] }
theorem enum_next_any {e it l : Addr} {i : Nat} {its : Array Value} {x : Value} {Q : Value → Shared → Prop}
    (he0 : EnAny s.heap e it i) (hi : s.heap.IsListIter it l i) (hl : s.heap.IsList l its) (hx : its[i]? = some x) (ne : e ≠ it)
    (q : ∀ h', EnAny h' e it ((i : Int) + 1) → h'.IsListIter it l (i + 1) → h'.get? s.heap.objs.size = some { cls := .type "tuple", data := .seq #[.int i s.toks, x] } → h'.objs.size = s.heap.objs.size + 1 →
      (∀ b o, b ≠ e → b ≠ it → s.heap.get? b = some o → h'.get? b = some o) → Q (.ref s.heap.objs.size) { s with heap := h', toks := s.toks + 1 }) :
    wpAny (model prog w) A (Builtin.«enumerate.__next__» ⟨[.ref e], []⟩) (fun r s' => ∃ v, r = .done (.ret v) ∧ Q v s') E s := by
  obtain ⟨hp, g, d, tk, os⟩ := s
  obtain ⟨z, f, y, hz, he⟩ := he0
  show wpAny _ _ (field (.ref e) 2 >>= _) _ _ _
  refine wpAny_bind (wpAny_field he rfl (x := .ref it) rfl ?_)
  refine wpAny_bind (wpAny_nextOf_list_item hi hl hx fun k1 hi1 t1 => ?_)
  have t1' : Heap.SameBut it hp k1 := t1
  have e1 := (t1'.2 e ne).trans he
  show wpAny _ _ (field (.ref e) 3 >>= _) _ _ ⟨k1, g, d, tk, os⟩
  refine wpAny_bind (wpAny_field e1 rfl (x := rawInt i) rfl ?_)
  show wpAny _ _ (field (.ref e) 4 >>= _) _ _ ⟨k1, g, d, tk, os⟩
  refine wpAny_bind (wpAny_field e1 rfl (x := .none) rfl ?_)
  show wpAny _ _ (mkInt i >>= _) _ _ ⟨k1, g, d, tk, os⟩
  refine wpAny_bind (wpAny_mkInt ?_)
  show wpAny _ _ (setField (.ref e) 3 (rawInt ((i : Int) + 1)) >>= _) _ _ ⟨k1, g, d, tk + 1, os⟩
  refine wpAny_bind (wpAny_setField_rec e1 (by simp) fun k2 e2 t2 => ?_)
  have t2' : Heap.SameBut e k1 k2 := t2
  show wpAny _ _ (setField (.ref e) 4 .none >>= _) _ _ ⟨k2, g, d, tk + 1, os⟩
  refine wpAny_bind (wpAny_setField_rec e2 (by simp) fun k3 e3 t3 => ?_)
  have t3' : Heap.SameBut e k2 k3 := t3
  have e3' : k3.get? e = some { cls := .type "enumerate", dict := none, data := .fields #[z, .bool f, .ref it, rawInt ((i : Int) + 1), .none, y], slots := #[] } := e3
  show wpAny _ _ (newTuple [.int i tk, x] >>= _) _ _ ⟨k3, g, d, tk + 1, os⟩
  refine wpAny_bind (wpAny_newTuple ?_)
  have sz : k3.objs.size = hp.objs.size := by rw [t3'.1, t2'.1, t1'.1]
  obtain ⟨k4, ek4⟩ : ∃ k4, k4 = k3.push { cls := .type "tuple", data := .seq #[.int i tk, x] } := ⟨_, rfl⟩
  have e4 : k4.get? e = some { cls := .type "enumerate", dict := none, data := .fields #[z, .bool f, .ref it, rawInt ((i : Int) + 1), .none, y], slots := #[] } := by rw [ek4]; exact Heap.get?_push_of_some _ e3'
  have u4 : k4.get? hp.objs.size = some { cls := .type "tuple", data := .seq #[.int i tk, x] } := by rw [ek4, ← sz]; exact Heap.get?_push_size _ rfl
  have z4 : k4.objs.size = hp.objs.size + 1 := by rw [ek4, Heap.size_push, sz]
  have keep : ∀ b o, b ≠ e → b ≠ it → hp.get? b = some o → k4.get? b = some o := fun b o n1 n2 hb => by
    rw [ek4]
    exact Heap.get?_push_of_some _ (t3'.extBut b o n1 (t2'.extBut b o n1 (t1'.extBut b o n2 hb)))
  have i4 : k4.IsListIter it l (i + 1) := by
    obtain ⟨o, ho, r⟩ := (hi1.extBut t2'.extBut (Ne.symm ne)).extBut t3'.extBut (Ne.symm ne)
    rw [ek4]
    exact ⟨o, Heap.get?_push_of_some _ ho, r⟩
  have el : e < hp.objs.size := Heap.lt_size he
  have enx : e ≠ hp.objs.size := Nat.ne_of_lt el
  show wpAny _ _ (Builtin.SmallTypes.ownedTupleIsFree (.ref e) >>= _) _ _ ⟨k3.push _, g, d, tk + 1, os⟩
  rw [← ek4, sz]
  clear ek4 e3 e3' e2 e1 t3 t2 t1 t3' t2' t1' hi1 sz k3 k2 k1
  have free : wpAny (model prog w) A (do rule "enumerate.__next__.owned-tuple-again"; let old ← field (.ref e) 5; setField (.ref e) 5 x; Builtin.SmallTypes.ownedTupleHandOut (.ref e) (.ref hp.objs.size); letGo [old] [.ref hp.objs.size]; ret (.ref hp.objs.size)) (fun r s' => ∃ v, r = .done (.ret v) ∧ Q v s') E ⟨k4, g, d, tk + 1, os⟩ := by
    refine wpAny_bind (wpAny_rule ?_)
    refine wpAny_bind (wpAny_field e4 rfl (x := y) rfl ?_)
    refine wpAny_bind (wpAny_setField_rec e4 (by simp) fun k5 e5 t5 => ?_)
    have t5' : Heap.SameBut e k4 k5 := t5
    refine wpAny_bind ?_
    unfold Builtin.SmallTypes.ownedTupleHandOut
    refine wpAny_bind (wpAny_setField_rec e5 (by simp) fun k6 e6 t6 => ?_)
    have t6' : Heap.SameBut e k5 k6 := t6
    refine wpAny_setField_rec e6 (by simp) fun k7 e7 t7 => ?_
    have t7' : Heap.SameBut e k6 k7 := t7
    refine wpAny_bind (wpAny_letGo (wpAny_pure ⟨_, rfl, q k7 ⟨_, _, _, .inr ⟨hp.objs.size, rfl⟩, e7⟩ ?_ ?_ ?_ ?_⟩))
    · exact ((i4.extBut t5'.extBut (Ne.symm ne)).extBut t6'.extBut (Ne.symm ne)).extBut t7'.extBut (Ne.symm ne)
    · exact t7'.extBut _ _ (Ne.symm enx) (t6'.extBut _ _ (Ne.symm enx) (t5'.extBut _ _ (Ne.symm enx) u4))
    · rw [t7'.1, t6'.1, t5'.1, z4]
    · exact fun b o n1 n2 hb => t7'.extBut b o n1 (t6'.extBut b o n1 (t5'.extBut b o n1 (keep b o n1 n2 hb)))
  refine wpAny_bind ?_
  unfold Builtin.SmallTypes.ownedTupleIsFree
  rcases hz with rfl | ⟨c, rfl⟩
  · refine wpAny_bind (wpAny_field e4 rfl (x := .none) rfl (wpAny_pure ?_))
    exact free
  · refine wpAny_bind (wpAny_field e4 rfl (x := rawInt (c : Nat)) rfl ?_)
    refine wpAny_bind (alive_any ?_)
    rw [show ((c : Nat) : Int).toNat = c from Int.toNat_natCast c]
    cases hc : k4.get? c with
    | none => exact wpAny_pure free
    | some oc =>
      show wpAny _ _ (if (some oc).isNone = true then _ else _) _ _ _
      rw [if_neg (show ¬ ((some oc).isNone = true) from Bool.false_ne_true)]
      refine wpAny_bind (wpAny_field e4 rfl (x := .bool f) rfl ?_)
      cases f with
      | true =>
        refine wpAny_bind (wpAny_pure (wpAny_pure ?_))
        exact wpAny_pure ⟨_, rfl, q k4 ⟨_, _, _, .inr ⟨c, rfl⟩, e4⟩ i4 u4 z4 keep⟩
      | false =>
        refine wpAny_bind (wpAny_setField_rec e4 (by simp) fun k5 e5 t5 => wpAny_pure ?_)
        have t5' : Heap.SameBut e k4 k5 := t5
        refine wpAny_pure ⟨_, rfl, q k5 ⟨_, _, _, .inr ⟨c, rfl⟩, e5⟩ (i4.extBut t5'.extBut (Ne.symm ne)) (t5'.extBut _ _ (Ne.symm enx) u4) (by rw [t5'.1, z4]) fun b o n1 n2 hb => t5'.extBut b o n1 (keep b o n1 n2 hb)⟩
theorem pyNext_enum {e it l : Addr} {i : Nat} {its : Array Value} {x : Value} {Q : Option Value → Shared → Prop}
    (he : EnAny s.heap e it i) (hi : s.heap.IsListIter it l i) (hl : s.heap.IsList l its) (hx : its[i]? = some x) (ne : e ≠ it)
    (q : ∀ h', EnAny h' e it ((i : Int) + 1) → h'.IsListIter it l (i + 1) → h'.get? s.heap.objs.size = some { cls := .type "tuple", data := .seq #[.int i s.toks, x] } → h'.objs.size = s.heap.objs.size + 1 →
      (∀ b o, b ≠ e → b ≠ it → s.heap.get? b = some o → h'.get? b = some o) → Q (some (.ref s.heap.objs.size)) { s with heap := h', toks := s.toks + 1 }) :
    wpAny (model prog w) A (pyNext (.ref e)) Q E s := by
  have ty : s.TypeIs (.ref e) "enumerate" := by
    obtain ⟨_, _, _, _, z⟩ := he
    exact ⟨_, z, rfl⟩
  unfold pyNext
  refine wpAny_bind (wpAny_attempt (wpAny_callSpecial?_slot (name := Str.ofString "__next__") ty F.slot_enumerate_next (wpAny_call_entry F.slot_enumerate_next ty F.entry_enumerate_next ?_ (F.args_enumerate_next_1 _))))
  exact enum_next_any he hi hl hx ne fun h' a b c d k => wpAny_pure (q h' a b c d k)
theorem pyNext_enum_none {e it l : Addr} {i : Nat} {its : Array Value} {Q : Option Value → Shared → Prop} (hh : A.handled = none)
    (he : EnAny s.heap e it i) (hi : s.heap.IsListIter it l i) (hl : s.heap.IsList l its) (hx : its[i]? = none)
    (q : ∀ h', Heap.ExtBut it s.heap h' → Q none { s with heap := h' }) : wpAny (model prog w) A (pyNext (.ref e)) Q E s := by
  obtain ⟨_, _, _, _, z⟩ := he
  have ty : s.TypeIs (.ref e) "enumerate" := ⟨_, z, rfl⟩
  unfold pyNext
  refine wpAny_bind (wpAny_attempt (wpAny_callSpecial?_slot (name := Str.ofString "__next__") ty F.slot_enumerate_next (wpAny_call_entry F.slot_enumerate_next ty F.entry_enumerate_next ?_ (F.args_enumerate_next_1 _))))
  show wpAny _ _ (field (.ref e) 2 >>= _) _ _ _
  refine wpAny_bind (wpAny_field z rfl (x := .ref it) rfl ?_)
  refine wpAny_bind (wpAny_nextOf_list_end hh hi hl hx fun h' v hv hs => ?_)
  obtain ⟨o, ho, hc⟩ := hs
  exact wpAny_bind (wpAny_isInstance (T := "StopIteration") (b := true) ⟨o, ho, hc⟩ isSubtype_stop (wpAny_pure (q _ hv)))
/-- tuples of places and items -/
def EnOut (lo : Nat) (h : Heap) (its acc : Array Value) (i : Nat) : Prop := acc.size = i ∧ ∀ j, j < i → ∃ (T : Addr) (tk : Tok) (x : Value), acc[j]? = some (.ref T) ∧ its[j]? = some x ∧ lo ≤ T ∧ h.get? T = some { cls := .type "tuple", data := .seq #[.int j tk, x] }
end
section
variable {prog : Program} {w : World} {A : Around} {s : Shared} {R : Result → Shared → Prop}
theorem ne_cls {h : Heap} {a b : Addr} {o o' : Obj} (ha : h.get? a = some o) (hb : h.get? b = some o') (n : o.cls ≠ o'.cls) : a ≠ b := fun z => by
  rw [z, hb] at ha
  injection ha with ha
  exact n (by rw [ha])
theorem enum_loop {lo : Nat} {S e it l : Addr} {its : Array Value} (hh : A.in1.handled = none) (fit : its.size ≤ sizeLine) (nei : e ≠ it) (nSe : S ≠ e) (nSi : S ≠ it) (nSl : S ≠ l) (nle : l ≠ e) (nli : l ≠ it) (res : Value) :
    ∀ (k i : Nat) (s : Shared) (acc : Array Value) (c : Nat), its.size - i = k → i ≤ its.size → EnAny s.heap e it i → s.heap.IsListIter it l i → s.heap.IsList l its →
      s.heap.get? S = some { cls := .type "list", dict := none, data := .seq acc c, slots := #[] } → lo ≤ s.heap.objs.size → EnOut lo s.heap its acc i →
      (∀ h' tk acc' c', h'.get? S = some { cls := .type "list", dict := none, data := .seq acc' c', slots := #[] } → EnOut lo h' its acc' its.size → (∀ b o, b ≠ S → b ≠ e → b ≠ it → s.heap.get? b = some o → h'.get? b = some o) → R (.ok (.ret res)) { s with heap := h', toks := tk }) →
      codeAny (model prog w) A (.builtin "list.extend.loop" ⟨[.ref S, .ref e, res], []⟩) R s := by
  intro k
  induction k with
  | zero =>
    intro i s acc c hk hi he hit hl hS hlo out q
    obtain rfl : i = its.size := by omega
    refine codeAny_builtin F.entry_extend_loop ?_
    rw [Around.under_plainId F.plain_extend_loop _]
    show wpAny _ A.in1 (pyNext (.ref e) >>= _) _ _ s
    refine wpAny_bind (pyNext_enum_none hh he hit hl (Array.getElem?_eq_none (Nat.le_refl _)) fun h' x => wpAny_pure ?_)
    have hitc : ∃ o, s.heap.get? it = some o ∧ o.cls = .type "list_iterator" := by
      obtain ⟨o, ho, hc, _⟩ := hit
      exact ⟨o, ho, hc⟩
    obtain ⟨oi, hoi, hci⟩ := hitc
    refine q h' s.toks acc c (x S _ nSi hS) ⟨out.1, fun j hj => ?_⟩ fun b o n1 n2 n3 hb => x b o n3 hb
    obtain ⟨T, t, y, a1, a2, a0, a3⟩ := out.2 j hj
    exact ⟨T, t, y, a1, a2, a0, x T _ (ne_cls a3 hoi (by rw [hci]; show (.type "tuple" : Value) ≠ .type "list_iterator"; decide)) a3⟩
  | succ k ih =>
    intro i s acc c hk hi he hit hl hS hlo out q
    have hlt : i < its.size := by omega
    have hx : its[i]? = some its[i] := Array.getElem?_eq_getElem hlt
    refine codeAny_builtin F.entry_extend_loop ?_
    rw [Around.under_plainId F.plain_extend_loop _]
    show wpAny _ A.in1 (pyNext (.ref e) >>= _) _ _ s
    refine wpAny_bind (pyNext_enum he hit hl hx nei fun h' he' hit' hT hz keep => ?_)
    have hS' := keep S _ nSe nSi hS
    have hitc : ∃ o, s.heap.get? it = some o ∧ o.cls = .type "list_iterator" := by
      obtain ⟨o, ho, hc, _⟩ := hit
      exact ⟨o, ho, hc⟩
    obtain ⟨oi, hoi, hci⟩ := hitc
    have hec : ∃ o, s.heap.get? e = some o ∧ o.cls = .type "enumerate" := by
      obtain ⟨_, _, _, _, z⟩ := he
      exact ⟨_, z, rfl⟩
    obtain ⟨oe, hoe, hce⟩ := hec
    have hSl : S < s.heap.objs.size := Heap.lt_size hS
    show wpAny _ A.in1 (updateSeq S (·.push (.ref s.heap.objs.size)) >>= _) _ _ _
    refine wpAny_bind ?_
    have oth : ∀ b o, b ≠ S → h'.get? b = some o → (h'.update S (Obj.mapSeq (·.push (.ref s.heap.objs.size)))).get? b = some o := fun b o n hb => (Heap.get?_update_other _ _ (Ne.symm n)).trans hb
    refine wpAny_updateSeq hS' rfl (wpAny_pure ⟨plainId_quiet F.plain_extend_loop _, ih (i + 1) _ (acc.push (.ref s.heap.objs.size)) _ (by omega) hlt ?_ ?_ ?_ (Heap.get?_update_self _ hS' rfl) (by show lo ≤ (h'.update S _).objs.size; rw [(Heap.SameBut.update ..).1, hz]; exact Nat.le_succ_of_le hlo) ?_ fun h'' tk acc' c' hS'' out' k' => ?_⟩) (by rw [out.1]; omega) (by show (acc.push _).size ≤ sizeLine + 1; rw [Array.size_push, out.1]; omega)
    · obtain ⟨z, f, y, hz', a⟩ := he'
      exact ⟨z, f, y, hz', oth e _ (Ne.symm nSe) a⟩
    · exact hit'.at fun o a => oth it o (Ne.symm nSi) a
    · exact hl.at fun o a => oth l o (Ne.symm nSl) (keep l o nle nli a)
    · refine ⟨by rw [Array.size_push, out.1], fun j hj => ?_⟩
      by_cases z : j < i
      · obtain ⟨T, t, y, a1, a2, a0, a3⟩ := out.2 j z
        refine ⟨T, t, y, ?_, a2, a0, oth T _ (ne_cls a3 hS (by show (.type "tuple" : Value) ≠ .type "list"; decide)) (keep T _ (ne_cls a3 hoe (by rw [hce]; show (.type "tuple" : Value) ≠ .type "enumerate"; decide)) (ne_cls a3 hoi (by rw [hci]; show (.type "tuple" : Value) ≠ .type "list_iterator"; decide)) a3)⟩
        rw [Array.getElem?_push_lt (by rw [out.1]; exact z)]
        rw [Array.getElem?_eq_getElem (by rw [out.1]; exact z)] at a1
        exact a1
      · obtain rfl : j = i := by omega
        refine ⟨s.heap.objs.size, s.toks, its[j], ?_, hx, hlo, oth _ _ (Nat.ne_of_gt hSl) hT⟩
        rw [← out.1, Array.getElem?_push_size]
    · exact q h'' tk acc' c' hS'' out' fun b o n1 n2 n3 hb => k' b o n1 n2 n3 (oth b o n1 (keep b o n2 n3 hb))
theorem enum_nolen : typeLookup (.type "enumerate") "__len__" = pure none := by rw [typeLookup_type, builtinLookup_eq_fast]; kernel_rfl
theorem enum_nohint : typeLookup (.type "enumerate") "__length_hint__" = pure none := by rw [typeLookup_type, builtinLookup_eq_fast]; kernel_rfl
theorem enum_extend {lo : Nat} {S e it l : Addr} {its : Array Value} {c0 : Nat} (res : Value) (hh : A.in1.handled = none) (fit : its.size ≤ sizeLine) (hlo0 : lo ≤ s.heap.objs.size) (nei : e ≠ it) (nSe : S ≠ e) (nSi : S ≠ it) (nSl : S ≠ l) (nle : l ≠ e) (nli : l ≠ it)
    (he : IsEnum s.heap e it 0 .none) (hit : s.heap.IsListIter it l 0) (hl : s.heap.IsList l its) (hS : s.heap.get? S = some { cls := .type "list", data := .seq #[] c0 })
    (q : ∀ h' tk acc' c', h'.get? S = some { cls := .type "list", dict := none, data := .seq acc' c', slots := #[] } → EnOut lo h' its acc' its.size → (∀ b o, b ≠ S → b ≠ e → b ≠ it → s.heap.get? b = some o → h'.get? b = some o) → R (.ok (.ret res)) { s with heap := h', toks := tk }) :
    wpAny (model prog w) A.in1 (Builtin.List.listExtendWith (.ref S) (.ref e) res)
      (fun fin s' => match fin with | .done f => R (.ok f) s' | .again c' => c'.quiet = true ∧ codeAny (model prog w) A c' R s') (fun e s' => R (.error e) s') s := by
  have ty : s.TypeIs (.ref e) "enumerate" := ⟨_, he, rfl⟩
  unfold Builtin.List.listExtendWith
  refine wpAny_bind (wpAny_typeOf ty ?_)
  have n1 : Builtin.List.listSameRef (.ref S) (.ref e) = false := by simp [Builtin.List.listSameRef, nSe]
  have n2 : (Value.type "enumerate" == Value.type "list") = false := by decide
  have n3 : (Value.type "enumerate" == Value.type "tuple") = false := by decide
  simp only [n1, n2, n3, Bool.or_false, Bool.false_eq_true, if_false]
  refine wpAny_bind (wpAny_pyIter_enum he ?_)
  refine wpAny_bind (wpAny_holding ?_)
  unfold Builtin.List.listLengthHint
  refine wpAny_bind (wpAny_specialOf ty enum_nolen ?_)
  show wpAny _ A.in1 (specialOf (Value.ref e) (Str.ofString "__length_hint__") >>= _) _ _ _
  refine wpAny_bind (wpAny_specialOf ty enum_nohint (wpAny_pure ?_))
  show wpAny _ A.in1 (rule "list.extend.makes-room" >>= fun _ => Builtin.List.listTouch (.ref S) >>= fun _ => again (.builtin "list.extend.loop" ⟨[.ref S, .ref e, res], []⟩)) _ _ _
  refine wpAny_bind (wpAny_rule (wpAny_bind ?_))
  show wpAny _ A.in1 (updateSeq S (·.push .none) >>= fun _ => updateSeq S (·.pop)) _ _ _
  refine wpAny_bind (wpAny_updateSeq hS rfl ?_)
  have hS2 := Heap.get?_update_self (Obj.mapSeq (·.push Value.none)) hS rfl
  refine wpAny_updateSeq (hz := by seq_fits) hS2 rfl ?_
  have hS3 := Heap.get?_update_self (Obj.mapSeq (·.pop)) hS2 rfl
  have oth : ∀ b o, b ≠ S → s.heap.get? b = some o → ((s.heap.update S (Obj.mapSeq (·.push Value.none))).update S (Obj.mapSeq (·.pop))).get? b = some o := fun b o n hb => (Heap.get?_update_other _ _ (Ne.symm n)).trans ((Heap.get?_update_other _ _ (Ne.symm n)).trans hb)
  refine wpAny_pure ⟨plainId_quiet F.plain_extend_loop _, enum_loop hh fit nei nSe nSi nSl nle nli res its.size 0 _ _ _ (by omega) (Nat.zero_le _) ⟨_, _, _, .inl rfl, oth e _ (Ne.symm nSe) he⟩ (hit.at fun o a => oth it o (Ne.symm nSi) a) (hl.at fun o a => oth l o (Ne.symm nSl) a) hS3 (by show lo ≤ ((s.heap.update S _).update S _).objs.size; rw [(Heap.SameBut.update ..).1, (Heap.SameBut.update ..).1]; exact hlo0) ⟨rfl, fun j hj => absurd hj (Nat.not_lt_zero _)⟩ fun h' tk acc' c' g1 g2 g3 => ?_⟩
  exact q h' tk acc' c' g1 g2 fun b o m1 m2 m3 hb => g3 b o m1 m2 m3 (oth b o m1 hb)
theorem enum_init {lo : Nat} {S e it l : Addr} {its : Array Value} (hh : A.in1.handled = none) (fit : its.size ≤ sizeLine) (hlo0 : lo ≤ s.heap.objs.size) (nei : e ≠ it) (nSe : S ≠ e) (nSi : S ≠ it) (nSl : S ≠ l) (nle : l ≠ e) (nli : l ≠ it)
    (he : IsEnum s.heap e it 0 .none) (hit : s.heap.IsListIter it l 0) (hl : s.heap.IsList l its) (hS : s.heap.get? S = some { cls := .type "list", data := .seq #[] })
    (q : ∀ h' tk acc' c', h'.get? S = some { cls := .type "list", dict := none, data := .seq acc' c', slots := #[] } → EnOut lo h' its acc' its.size → (∀ b o, b ≠ S → b ≠ e → b ≠ it → s.heap.get? b = some o → h'.get? b = some o) → R (.ok (.ret .none)) { s with heap := h', toks := tk }) :
    wpAny (model prog w) A.in1 (Builtin.«list.__init__» ⟨[.ref S, .ref e], []⟩)
      (fun fin s' => match fin with | .done f => R (.ok f) s' | .again c' => c'.quiet = true ∧ codeAny (model prog w) A c' R s') (fun e s' => R (.error e) s') s := by
  show wpAny _ A.in1 (do let old ← Builtin.List.listItems (.ref S); Builtin.List.listUpdate (.ref S) (fun _ => #[]); letGo old.toList.reverse; Builtin.List.listExtendWith (.ref S) (.ref e) .none) _ _ s
  refine wpAny_bind ?_
  unfold Builtin.List.listItems
  refine wpAny_bind (wpAny_seqItems hS rfl (wpAny_pure ?_))
  show wpAny _ A.in1 (updateSeq S (fun _ => #[]) >>= fun _ => letGo (#[] : Array Value).toList.reverse >>= fun _ => Builtin.List.listExtendWith (.ref S) (.ref e) .none) _ _ s
  refine wpAny_bind (wpAny_updateSeq hS rfl ?_)
  have hS2 := Heap.get?_update_self (Obj.mapSeq (fun _ => (#[] : Array Value))) hS rfl
  have oth : ∀ b o, b ≠ S → s.heap.get? b = some o → (s.heap.update S (Obj.mapSeq (fun _ => (#[] : Array Value)))).get? b = some o := fun b o n hb => (Heap.get?_update_other _ _ (Ne.symm n)).trans hb
  refine wpAny_bind (wpAny_letGo ?_)
  exact enum_extend .none hh fit (by show lo ≤ (s.heap.update S _).objs.size; rw [(Heap.SameBut.update ..).1]; exact hlo0) nei nSe nSi nSl nle nli (oth e _ (Ne.symm nSe) he) (hit.at fun o a => oth it o (Ne.symm nSi) a) (hl.at fun o a => oth l o (Ne.symm nSl) a) hS2 fun h' tk acc' c' g1 g2 g3 => q h' tk acc' c' g1 g2 fun b o m1 m2 m3 hb => g3 b o m1 m2 m3 (oth b o m1 hb)
end
section
variable {prog : Program} {w : World} {A : Around} {E : Value → Shared → Prop} {s : Shared}
/-- list(enumerate of a list) -/
theorem call_list_enum {lo : Nat} {e it l : Addr} {its : Array Value} {Q : Value → Shared → Prop} (hh : A.in1.in1.handled = none) (fit : its.size ≤ sizeLine) (hlo0 : lo ≤ s.heap.objs.size) (nei : e ≠ it) (nle : l ≠ e) (nli : l ≠ it)
    (he : IsEnum s.heap e it 0 .none) (hit : s.heap.IsListIter it l 0) (hl : s.heap.IsList l its)
    (q : ∀ h' tk acc' c', h'.get? s.heap.objs.size = some { cls := .type "list", dict := none, data := .seq acc' c', slots := #[] } → EnOut lo h' its acc' its.size → (∀ b o, b ≠ e → b ≠ it → s.heap.get? b = some o → h'.get? b = some o) → Q (.ref s.heap.objs.size) { s with heap := h', toks := tk }) :
    wpAny (model prog w) A (call (.type "list") [.ref e]) Q E s := by
  have le : e < s.heap.objs.size := Heap.lt_size he
  have lit : it < s.heap.objs.size := by obtain ⟨_, z, _⟩ := hit; exact Heap.lt_size z
  have ll : l < s.heap.objs.size := by obtain ⟨_, z, _⟩ := hl; exact Heap.lt_size z
  refine callType_codes (Q₁ := fun obj s1 => obj = .ref s.heap.objs.size ∧ s1 = { s with heap := s.heap.push { cls := .type "list", data := .seq #[] } }) F.called_list (F.typeCall_list_1 _) F.entry_list_init (code_list_new _ ⟨rfl, rfl⟩) fun obj s1 h1 => ?_
  obtain ⟨rfl, rfl⟩ := h1
  have hS : (s.heap.push { cls := .type "list", data := .seq #[] }).get? s.heap.objs.size = some { cls := .type "list", data := .seq #[] } := Heap.get?_push_size _ rfl
  refine ⟨⟨_, hS, rfl⟩, F.args_list_init_2 _ _, enum_init hh fit (by show lo ≤ (s.heap.push _).objs.size; rw [Heap.size_push]; exact Nat.le_succ_of_le hlo0) nei (Nat.ne_of_gt le) (Nat.ne_of_gt lit) (Nat.ne_of_gt ll) nle nli (Heap.get?_push_of_some _ he) (hit.at fun o a => Heap.get?_push_of_some _ a) (hl.at fun o a => Heap.get?_push_of_some _ a) hS fun h' tk acc' c' g1 g2 g3 => ?_⟩
  exact ⟨rfl, q h' tk acc' c' g1 g2 fun b o m1 m2 hb => g3 b o (Nat.ne_of_lt (Heap.lt_size hb)) m1 m2 (Heap.get?_push_of_some _ hb)⟩
end
section
variable {X : Cx} {pins : List (Addr × Obj)} {σ : List (Option V)} {H H' : Hp} {s : Shared} {h' : Heap}
/-- many new objects at once -/
theorem Inv.many {t' : Nat} (I : Inv X pins σ H s) (k : ∀ b u, s.heap.get? b = some u → h'.get? b = some u) (old : ∀ b, b < s.heap.objs.size → H' b = H b) (new : ∀ b o, s.heap.objs.size ≤ b → H' b = some o → ObjOk X.prog X.w H' h' b o) :
    Inv X pins σ H' { s with heap := h', toks := t' } := by
  have ext : ∀ b o, H b = some o → H' b = some o := fun b o q => by
    rw [old b (I.hok.lt q)]
    exact q
  refine I.un ⟨fun b u q _ _ _ => k b u q, fun b u q _ _ _ => ⟨u.slots, k b u q⟩, fun b u q n _ => by rw [old b (Heap.lt_size q)]; exact n, fun b u q _ => ⟨u, k b u q⟩, fun b xs q => ext _ _ q, fun b o u q => ext _ _ q, fun b ps q => ⟨#[], by rw [ext _ _ q]; simp⟩⟩ fun b o e => ?_
  by_cases z : b < s.heap.objs.size
  · rw [old b z] at e
    exact (I.hok b o e).stay (fun c v _ q => k c v q) (fun c q => ext _ _ q) fun c xs q => ext _ _ q
  · exact new b o (Nat.le_of_not_lt z) e
end
/-- places and items, in new tuples -/
def EnV (H : Hp) (ys xs : List V) : Prop := xs.length = ys.length ∧ ∀ j x, ys[j]? = some x → ∃ T, xs[j]? = some (.ref T) ∧ H T = some (.tup [.int (j : Nat), x])
def tListEnum (K : PySem.W.Frag) (ta : TA) : TE := fun σ H Q => ta σ H fun vs H1 => ∃ p ys, vs = [.ref p] ∧ SqL K H1 p ys ∧ ∀ l xs H', Same H1 H' → H1 l = none → H' l = some (.lst xs) → EnV H' ys xs → Q (.ref l) H'
open Classical in
/-- what is tracked behind list(enumerate ..) -/
noncomputable def enH (H : Hp) (lo : Nat) (S : Addr) (ys xs : List V) : Hp := fun b => if b < lo then H b else if b = S then some (.lst xs) else if z : ∃ j : Nat, xs[j]? = some (.ref b) ∧ j < ys.length then some (.tup [.int (Classical.choose z : Nat), (ys[Classical.choose z]?).getD .non]) else none
section
variable {X : Cx}
theorem vals_refs : ∀ L : List Value, (∀ v ∈ L, ∃ T, v = .ref T) → Vals (L.map fun v => match v with | .ref T => V.ref T | _ => V.non) L
  | [], _ => .nil
  | v :: r, h => by
    obtain ⟨T, rfl⟩ := h v List.mem_cons_self
    exact .cons rfl (vals_refs r fun u hu => h u (List.mem_cons_of_mem _ hu))
theorem pe_listEnum {K : PySem.W.Frag} {p p2 pos pos2 : Pos} {a : Expr} {ta : TA} (hc : X.calm = true) (hgl : Gl X "list") (hml : X.mg "list" = none) (hg : Gl X "enumerate") (hm : X.mg "enumerate" = none) (ha : PA X [a] ta) (hK : X.K = K := by rfl)
    (hs : starEach [a] X.env = [(false, eval a X.env)] := by rfl) (hs2 : starEach [.Call (.Name "enumerate" p2) [a] [] pos2] X.env = [(false, eval (.Call (.Name "enumerate" p2) [a] [] pos2) X.env)] := by rfl) :
    PE X (.Call (.Name "list" p) [.Call (.Name "enumerate" p2) [a] [] pos2] [] pos) (tListEnum K ta) := by
  subst hK
  intro pins s σ H Q I h
  refine wpAny_Call_Name_kw (ld_blt I hgl hml PyProof.Rows.boot_list ?_ (by decide) (by decide))
  refine PyProof.Rows.callWith_type1 ?_ hs2 rfl
  rw [hs2]
  show wpAny _ _ (spliced ((false, eval _ X.env) :: [])) _ _ s
  refine Calls.spliced_cons (wpAny_Call_Name_kw (ld_blt I hg hm PyProof.Rows.boot_enumerate (PyProof.Rows.callWith_type1 (thn (ha pos2 pins s σ H _ I h) fun us s1 ⟨vs, H1, I1, r1, q1⟩ => ?_) hs rfl) (by decide) (by decide)))
  obtain ⟨pl, ys, rfl, hq, q⟩ := q1
  obtain ⟨u, rfl, ru⟩ := vals1 r1
  cases ru
  obtain ⟨its, rv, pls, hz⟩ := I1.list hq
  have hl := pls.isList
  have ll : pl < s1.heap.objs.size := by obtain ⟨o, e, _⟩ := hl; exact Heap.lt_size e
  refine call_enumerate_list hl fun g he hi gz kk => Calls.spliced_nil ?_
  have hn := rv.length
  have lo0 : s1.heap.objs.size ≤ g.objs.size := by rw [gz]; exact Nat.le_add_right _ _
  refine call_list_enum (lo := g.objs.size) (its := its.toArray) (show X.A.in1.in1.handled = none from I.ok.hd hc) (by rw [List.size_toArray]; omega) (Nat.le_refl _) (Nat.succ_ne_self _) (Nat.ne_of_lt (Nat.lt_succ_of_lt ll)) (Nat.ne_of_lt ll) he hi (hl.at fun o e => kk pl o e) fun h' tk acc c gS out keep => ?_
  rw [List.size_toArray] at out
  obtain ⟨xs, exs⟩ : ∃ xs : List V, xs = acc.toList.map fun v => match v with | .ref T => V.ref T | _ => V.non := ⟨_, rfl⟩
  have lacc : acc.toList.length = its.length := by rw [Array.length_toList]; exact out.1
  have lxs : xs.length = ys.length := by rw [exs, List.length_map, lacc]; omega
  have at_ : ∀ j, j < its.length → ∃ (T : Addr) (t : Tok) (x : Value), acc[j]? = some (.ref T) ∧ xs[j]? = some (.ref T) ∧ its[j]? = some x ∧ g.objs.size ≤ T ∧ h'.get? T = some { cls := .type "tuple", data := .seq #[.int j t, x] } := fun j hj => by
    obtain ⟨T, t, x, a1, a2, a0, a3⟩ := out.2 j hj
    refine ⟨T, t, x, a1, ?_, by rw [List.getElem?_toArray] at a2; exact a2, a0, a3⟩
    rw [exs, List.getElem?_map, Array.getElem?_toList, a1]
    rfl
  have un : ∀ j k T, j < its.length → k < its.length → xs[j]? = some (.ref T) → xs[k]? = some (.ref T) → j = k := fun j k T hj hk e1 e2 => by
    obtain ⟨T1, t1, x1, _, b1, _, _, c1⟩ := at_ j hj
    obtain ⟨T2, t2, x2, _, b2, _, _, c2⟩ := at_ k hk
    rw [e1] at b1
    rw [e2] at b2
    injection b1 with b1
    injection b1 with b1
    injection b2 with b2
    injection b2 with b2
    rw [← b1] at c1
    rw [← b2, c1] at c2
    injection c2 with c2
    injection c2 with _ _ c2
    injection c2 with c2
    injection c2 with c2
    injection c2 with c2
    injection c2 with c2
    omega
  have nS : ∀ T (t : Tok) (x : Value) (j : Nat), h'.get? T = some { cls := .type "tuple", data := .seq #[.int j t, x] } → T ≠ g.objs.size := fun T t x j e => ne_cls e gS (by show (.type "tuple" : Value) ≠ .type "list"; decide)
  have hT : ∀ j T, j < its.length → xs[j]? = some (.ref T) → enH H1 s1.heap.objs.size g.objs.size ys xs T = some (.tup [.int (j : Nat), (ys[j]?).getD .non]) := fun j T hj e => by
    obtain ⟨T1, t1, x1, _, b1, _, b0, c1⟩ := at_ j hj
    rw [e] at b1
    injection b1 with b1
    injection b1 with b1
    rw [← b1] at b0 c1
    have ex : ∃ j : Nat, xs[j]? = some (.ref T) ∧ j < ys.length := ⟨j, e, by omega⟩
    unfold enH
    rw [if_neg (Nat.not_lt_of_le (Nat.le_trans lo0 b0)), if_neg (nS T _ _ _ c1), dif_pos ex]
    have := Classical.choose_spec ex
    rw [un _ _ _ (by omega) hj this.1 e]
  have sl : (1000 : Nat) ≤ sizeLine := by decide
  have HS : enH H1 s1.heap.objs.size g.objs.size ys xs g.objs.size = some (.lst xs) := by
    unfold enH
    rw [if_neg (Nat.not_lt_of_le lo0), if_pos rfl]
  have old : ∀ b, b < s1.heap.objs.size → enH H1 s1.heap.objs.size g.objs.size ys xs b = H1 b := fun b hb => by
    unfold enH
    rw [if_pos hb]
  have vals : Vals xs acc.toList := by
    rw [exs]
    refine vals_refs _ fun v hv => ?_
    obtain ⟨j, hj, e⟩ := List.getElem_of_mem hv
    obtain ⟨T, _, _, a1, _⟩ := at_ j (by omega)
    rw [← Array.getElem?_toList, List.getElem?_eq_getElem hj, e] at a1
    injection a1 with a1
    exact ⟨T, a1⟩
  have I2 : Inv X pins σ (enH H1 s1.heap.objs.size g.objs.size ys xs) { s1 with heap := h', toks := tk } := by
    refine I1.many (fun b u e => keep b u (Nat.ne_of_lt (Nat.lt_succ_of_lt (Heap.lt_size e))) (Nat.ne_of_lt (Heap.lt_size e)) (kk b u e)) old fun b o hb e => ?_
    by_cases eS : b = g.objs.size
    · rw [eS, HS] at e
      injection e with e
      rw [← e, eS]
      exact ⟨by omega, acc.toList, c, vals, by rw [Array.toArray_toList]; exact gS⟩
    · have e' := e
      unfold enH at e'
      rw [if_neg (Nat.not_lt_of_le hb), if_neg eS] at e'
      by_cases ex : ∃ j : Nat, xs[j]? = some (.ref b) ∧ j < ys.length
      · obtain ⟨j, h1, h2⟩ := ex
        rw [hT j b (by omega) h1] at e
        injection e with e
        rw [← e]
        obtain ⟨T, t, x, _, b1, b2, _, c1⟩ := at_ j (by omega)
        rw [h1] at b1
        injection b1 with b1
        injection b1 with b1
        rw [← b1] at c1
        obtain ⟨u, hu, ru⟩ := rv.get (i := j) (x := ys[j]) (List.getElem?_eq_getElem h2)
        rw [b2] at hu
        injection hu with hu
        refine ⟨by show 2 ≤ sizeLine; omega, [.int j t, x], ?_, ?_⟩
        · rw [List.getElem?_eq_getElem h2]
          exact .cons ⟨t, rfl⟩ (.cons (by rw [hu]; exact ru) .nil)
        · exact ⟨_, c1, rfl, _, rfl⟩
      · rw [dif_neg ex] at e'
        cases e'
  refine ⟨.ref g.objs.size, _, I2, rfl, q _ xs _ (same_of fun b o e => by rw [old b (I1.hok.lt e)]; exact e) (I1.hok.fresh lo0) HS ⟨lxs, fun j x hx => ?_⟩⟩
  have hj := (List.getElem?_eq_some_iff.mp hx).1
  obtain ⟨T, _, _, _, b1, _⟩ := at_ j (by omega)
  refine ⟨T, b1, ?_⟩
  rw [hT j T (by omega) b1, hx]
  rfl
end
end L2

set_option maxRecDepth 100000
set_option maxHeartbeats 4000000
namespace Wd
open PySem L2 Ow
/-- what a set costs -/
def priceS (ps : List Int) (s : Nat) : Int := ((bitsL s).map fun k => ps.getD k 0).sum
def spPrice : Sp := fun vs H Q _ => ∃ (lp : Addr) (ps : List Int) (s : Nat), vs = [.ref lp, .int (s : Int)] ∧ H lp = some (.lst (ps.map V.int)) ∧ ps.length ≤ 9 ∧ s < 2 ^ ps.length ∧ ∀ H', Same H H' → Q (.int (priceS ps s)) H'
end Wd

set_option maxRecDepth 100000
set_option maxHeartbeats 4000000
namespace L2
open PySem PySem.Spec PyProof.Rows
section
variable {X : Cx} {pins : List (Addr × Obj)} {σ : St} {H : Hp} {s : Shared}
/-- another base for what is called -/
theorem Inv.nowAt (I : Inv X pins σ H s) {B : Heap} (up : ∀ b o, X.base.get? b = some o → B.get? b = some o) (bs : ∀ b o, B.get? b = some o → s.heap.get? b = some o ∧ H b = none) (bz : B.objs.size ≤ s.heap.objs.size) (nf : ∀ b ∈ frs X.stack, B.get? b = none) : Env0 X.prog X.w X.K X.mg B X.A.in1 X.stack s H := by
  obtain ⟨mb, h1, h2⟩ := I.mod.blt
  refine ⟨I.ok.frames, ⟨I.mod.kin.keeps up, I.mod.glob.keeps up, ⟨mb, h1.keeps up, h2⟩, I.mod.nolimit.keeps up⟩, bs, bz, ?_, I.stkFree, I.hok, I.bare⟩
  have go : ∀ l : List Env, (∀ b ∈ frs l, b ∈ frs X.stack) → s.heap.FunFrames X.base l → s.heap.FunFrames B l := by
    intro l
    induction l with
    | nil => intro _ _; trivial
    | cons env r ih =>
      intro hs hl
      obtain ⟨hk, ⟨L, o, hf, hn, ho, hd⟩, hr⟩ := hl
      have hL : L ∈ frs X.stack := hs L (by unfold frs; rw [List.filterMap_cons, hf]; exact List.mem_cons_self)
      exact ⟨hk, ⟨L, o, hf, nf L hL, ho, hd⟩, ih (fun b hb => hs b (by unfold frs; rw [List.filterMap_cons, hf]; exact List.mem_cons_of_mem _ hb)) hr⟩
  exact go X.stack (fun _ h => h) I.stack
/-- what stays while a least one by a key is looked for: S holds the best so far, J walks -/
structure MkC (X : Cx) (B : Heap) (pins : List (Addr × Obj)) (H0 : Hp) (S J : Addr) : Prop where
  ne : S ≠ J
  fS : FpOk X pins H0 S
  fJ : FpOk X pins H0 J
  bS : B.objs.size ≤ S
  bJ : B.objs.size ≤ J
  up : ∀ b o, X.base.get? b = some o → B.get? b = some o
  nf : ∀ b ∈ frs X.stack, B.get? b = none
structure MkI (X : Cx) (B : Heap) (pins : List (Addr × Obj)) (σ : St) (H0 : Hp) (S J : Addr) (oS oJ : Obj) (H : Hp) (s : Shared) : Prop where
  inv : Inv X (pins ++ [(S, oS), (J, oJ)]) σ H s
  same : Same H0 H
  bs : ∀ b o, B.get? b = some o → s.heap.get? b = some o ∧ H b = none
variable {B : Heap} {H0 : Hp} {S J : Addr} {oS oJ oS' oJ' : Obj}
theorem MkI.pS (M : MkI X B pins σ H0 S J oS oJ H s) : s.heap.get? S = some oS ∧ H S = none := ⟨(M.inv.pin (S, oS) (by simp)).1, (M.inv.pin (S, oS) (by simp)).2.1⟩
theorem MkI.pJ (M : MkI X B pins σ H0 S J oS oJ H s) : s.heap.get? J = some oJ ∧ H J = none := ⟨(M.inv.pin (J, oJ) (by simp)).1, (M.inv.pin (J, oJ) (by simp)).2.1⟩
theorem MkI.mk2 {h' : Heap} {tk : Nat} (C : MkC X B pins H0 S J) (I : Inv X pins σ H { s with heap := h', toks := tk }) (sm : Same H0 H) (bs : ∀ b o, B.get? b = some o → s.heap.get? b = some o ∧ H b = none) (nS : H S = none) (nJ : H J = none) (k : ∀ b o, b ≠ S → b ≠ J → s.heap.get? b = some o → h'.get? b = some o) (hS : h'.get? S = some oS') (hJ : h'.get? J = some oJ') (dS : ∀ v, oS'.data ≠ .cell v) (dJ : ∀ v, oJ'.data ≠ .cell v) :
    MkI X B pins σ H0 S J oS' oJ' H { s with heap := h', toks := tk } := by
  refine ⟨I.pins_of fun p hp => ?_, sm, fun b o e => ⟨k b o (fun z => ?_) (fun z => ?_) (bs b o e).1, (bs b o e).2⟩⟩
  · rcases List.mem_append.mp hp with z | z
    · exact I.pin p (List.mem_append_right _ z)
    · rcases List.mem_cons.mp z with rfl | z
      · exact ⟨hS, nS, C.fS.2.1, C.fS.2.2.1, dS⟩
      · rw [List.mem_singleton.mp z]
        exact ⟨hJ, nJ, C.fJ.2.1, C.fJ.2.2.1, dJ⟩
  · rw [z, Heap.get?_none_of_le C.bS] at e
    cases e
  · rw [z, Heap.get?_none_of_le C.bJ] at e
    cases e
/-- one of both changes -/
theorem MkI.turn {h' : Heap} {tk : Nat} {it : Addr} (C : MkC X B pins H0 S J) (M : MkI X B pins σ H0 S J oS oJ H s) (hi : it = S ∨ it = J) (k : ∀ b o, b ≠ it → s.heap.get? b = some o → h'.get? b = some o) (hS : h'.get? S = some oS') (hJ : h'.get? J = some oJ') (dS : ∀ v, oS'.data ≠ .cell v) (dJ : ∀ v, oJ'.data ≠ .cell v) :
    MkI X B pins σ H0 S J oS' oJ' H { s with heap := h', toks := tk } := by
  have fp : H it = none ∧ (FpOk X pins H0 it) := by
    rcases hi with rfl | rfl
    · exact ⟨M.pS.2, C.fS⟩
    · exact ⟨M.pJ.2, C.fJ⟩
  refine MkI.mk2 C (M.inv.unpinned.turned k fp.1 fp.2.2.1 fp.2.2.2.2.1 fp.2.2.2.2.2.1 fp.2.2.2.2.2.2) M.same M.bs M.pS.2 M.pJ.2 (fun b o n1 n2 e => k b o (fun z => ?_) e) hS hJ dS dJ
  rcases hi with y | y
  · exact n1 (z.trans y)
  · exact n2 (z.trans y)
variable {k : Nat} {q l : Addr} {fd : FuncData} {ps : List Str} {sp : Sp} {xs : List V} {kf : Nat → Int} {R : Result → Shared → Prop}
/-- the key is asked -/
theorem MkI.ask {v : V} {u : Value} {n : Int} {Q : Value → Shared → Prop} {E : Value → Shared → Prop} (C : MkC X B pins H0 S J) (M : MkI X B pins σ H0 S J oS oJ H s) (F : FnOk X.prog X.w X.K X.mg B CX0 k q fd ps sp) (hr : Room k X.A.in1) (hb : Binds X.K fd ps []) (rv : RelV v u)
    (hs : sp [v] H (fun r H2 => r = .int n ∧ Same H H2) E0) (h : ∀ t H1 s1, MkI X B pins σ H0 S J oS oJ H1 s1 → Q (.int n t) s1) : wpAny (model X.prog X.w) X.A.in1 (call (.ref q) [u]) Q E s := by
  have e0 := M.inv.nowAt C.up M.bs (Nat.le_trans C.bS (Nat.le_of_lt (Heap.lt_size M.pS.1))) C.nf
  have hl : ([u] : List Value).length = ps.length := F.len _ _ _ _ hs
  have hbb := hb s [u] M.inv.kIn hl
  refine wpAny_call (codeAny_mono (F.run X.A.in1 X.stack s H ⟨[u], []⟩ [u] [v] _ E0 hr e0 hbb (.cons rv .nil) hs) fun r s' hq => ?_)
  cases r with
  | error e => exact hq.elim
  | ok fl =>
    cases fl with
    | ret u' =>
      obtain ⟨v2, H1, os, bare, un1, hok, r1, e1, sm1⟩ := hq
      subst e1
      obtain ⟨t, rfl⟩ := r1
      have r2 : RelV (.int n) (.int n t) := ⟨t, rfl⟩
      have af := M.inv.after (Q := fun r H2 => r = V.int n ∧ H2 = H1) ⟨_, H1, os, bare, un1, hok, r2, rfl, rfl⟩
      obtain ⟨v3, H3, I3, r3, e3, e4⟩ := af
      subst e4
      refine h t _ _ ⟨I3, M.same.trans sm1, fun b o e => ?_⟩
      have nb : b ∉ frs X.stack := fun z => by
        rw [C.nf b z] at e
        cases e
      exact ⟨un1.1 b o (M.bs b o e).1 (M.bs b o e).2 nb (by simp), un1.3 b o (M.bs b o e).1 (M.bs b o e).2 (by simp)⟩
    | next => exact False.elim hq
    | brk => exact False.elim hq
    | cont => exact False.elim hq
/-- the walk: from the second item on -/
theorem minKey_loop (C : MkC X B pins H0 S J) (hh : X.A.handled = none) (F : FnOk X.prog X.w X.K X.mg B CX0 k q fd ps sp) (hr : Room k X.A.in1) (hb : Binds X.K fd ps []) (hl : H0 l = some (.lst xs))
    (ask : ∀ j v H1, xs[j]? = some v → Same H0 H1 → sp [v] H1 (fun r H2 => r = .int (kf j) ∧ Same H1 H2) E0)
    (done : ∀ i v u H1 s1, xs[i]? = some v → RelV v u → (∀ j, j < xs.length → kf i ≤ kf j ∧ (j < i → kf i < kf j)) → Same H0 H1 → Inv X pins σ H1 s1 → R (.ok (.ret u)) s1) :
    ∀ (r j i : Nat) (xb : V) (vb : Value) (tb : Tok) (c : Nat) (oJ : Obj) (H : Hp) (s : Shared), xs.length - (j + 1) = r → j + 1 ≤ xs.length → MkI X B pins σ H0 S J (seqObj "list" #[vb, .int (kf i) tb] c) oJ H s → s.heap.IsListIter J l (j + 1) →
      xs[i]? = some xb → RelV xb vb → i ≤ j → (∀ j', j' ≤ j → kf i ≤ kf j' ∧ (j' < i → kf i < kf j')) → codeAny (model X.prog X.w) X.A (.builtin "min.loop" ⟨[.ref J, .ref q, .ref S], []⟩) R s := by
  have nm : (toString "min" ++ toString ".loop" : String) = "min.loop" := by decide
  intro r
  induction r with
  | zero =>
    intro j i xb vb tb c oJ H s hr0 hj M hit hx rb hij best
    obtain ⟨its, rv, pl, hz⟩ := M.inv.list (SqL.of (M.same _ _ hl))
    have T := pl.isList
    have lJ : l ≠ J := fun z => by
      have y : H l = some (.lst xs) := M.same _ _ hl
      rw [z, M.pJ.2] at y
      cases y
    have W := Walks.list (prog := X.prog) (w := X.w) (A := X.A.in1) hh J l lJ its.toArray
    refine codeAny_builtin PySem.F.entry_min_loop ?_
    rw [Around.under_plainId PySem.F.plain_min_loop _]
    refine wpAny_bind (m := seqItems? (.ref S)) (wpAny_seqItems M.pS.1 rfl ?_)
    refine wpAny_bind (m := tryCatch (pyNext (.ref J)) _) (wpAny_tryCatch (W.done _ _ _ ⟨by rw [List.size_toArray, ← rv.length, show xs.length = j + 1 by omega]; exact hit, T⟩ fun h' tk' hk' => ?_))
    have kJ : ∀ b o, b ≠ J → s.heap.get? b = some o → h'.get? b = some o := fun b o n e => hk' b o (by simpa using n) e
    have I1 := M.inv.unpinned.turned (t' := tk') kJ M.pJ.2 C.fJ.2.1 C.fJ.2.2.2.1 C.fJ.2.2.2.2.1 C.fJ.2.2.2.2.2
    have gS := kJ S _ C.ne M.pS.1
    refine wpAny_bind (m := updateSeq S (fun _ => #[])) ?_
    refine wpAny_updateSeq gS rfl (wpAny_bind (wpAny_letGo (wpAny_pure ?_)))
    have sb := Heap.SameBut.update h' S (Obj.mapSeq fun _ => (#[] : Array Value))
    have I2 := I1.turned (t' := tk') (h' := h'.update S (Obj.mapSeq fun _ => (#[] : Array Value))) (fun b o n e => (sb.2 b n).trans e) M.pS.2 C.fS.2.1 C.fS.2.2.2.1 C.fS.2.2.2.2.1 C.fS.2.2.2.2.2
    exact done i xb vb H _ hx rb (fun j' hj' => best j' (by omega)) M.same I2
  | succ r ih =>
    intro j i xb vb tb c oJ H s hr0 hj M hit hx rb hij best
    obtain ⟨its, rv, pl, hz⟩ := M.inv.list (SqL.of (M.same _ _ hl))
    have T := pl.isList
    have lJ : l ≠ J := fun z => by
      have y : H l = some (.lst xs) := M.same _ _ hl
      rw [z, M.pJ.2] at y
      cases y
    have W := Walks.list (prog := X.prog) (w := X.w) (A := X.A.in1) hh J l lJ its.toArray
    have lt : j + 1 < xs.length := by omega
    refine codeAny_builtin PySem.F.entry_min_loop ?_
    rw [Around.under_plainId PySem.F.plain_min_loop _]
    refine wpAny_bind (m := seqItems? (.ref S)) (wpAny_seqItems M.pS.1 rfl ?_)
    refine wpAny_bind (m := tryCatch (pyNext (.ref J)) _) (wpAny_tryCatch (W.item (j + 1) _ _ _ (by rw [List.size_toArray, ← rv.length]; exact lt) ⟨hit, T⟩ fun u h' tk' hP hst' hk' => ?_))
    obtain ⟨xv, hxv⟩ : ∃ xv, xs[j + 1]? = some xv := ⟨_, List.getElem?_eq_getElem lt⟩
    obtain ⟨u', hu', ru⟩ := rv.get hxv
    have eu : u' = u := by
      rw [List.getElem?_toArray, hu'] at hP
      exact Option.some.inj hP
    subst eu
    obtain ⟨oJ', gJ, cJ, dJ⟩ := id hst'.1
    have kJ : ∀ b o, b ≠ J → s.heap.get? b = some o → h'.get? b = some o := fun b o n e => hk' b o (by simpa using n) e
    have M1 := MkI.turn (tk := tk') C M (.inr rfl) kJ (kJ S _ C.ne M.pS.1) gJ (fun v z => nomatch z) (fun v z => by rw [dJ] at z; cases z)
    refine wpAny_bind (m := tryCatch (holding [u'] (call (.ref q) [u'])) _) (wpAny_tryCatch (wpAny_holding (M1.ask C F hr hb ru (ask (j + 1) xv H hxv M.same) fun t2 H2 s2 M2 => ?_)))
    have hit2 : s2.heap.IsListIter J l (j + 1 + 1) := ⟨oJ', M2.pJ.1, cJ, dJ⟩
    refine wpAny_bind (m := tryCatch (holding [u', .int (kf (j + 1)) t2] (richCompare .Lt (.int (kf (j + 1)) t2) (.int (kf i) tb) >>= _)) _) (wpAny_tryCatch (wpAny_holding (wpAny_bind (CmpOf.ints_lt (prog := X.prog) (w := X.w) (A := X.A.in1) (P := fun i v => ∃ t, v = .int (kf i) t) kf (fun i v h => h) (j + 1) i _ _ _ _ _ ⟨t2, rfl⟩ ⟨tb, rfl⟩ ?_))))
    refine wpAny_bind (wpAny_holding (wpAny_truthy_bool ?_))
    refine wpAny_bind (wpAny_letGo (wpAny_pure ?_))
    by_cases lt2 : kf (j + 1) < kf i
    · obtain ⟨c2, g2⟩ : ∃ c2, (s2.heap.update S (Obj.mapSeq fun _ => #[u', .int (kf (j + 1)) t2])).get? S = some (seqObj "list" #[u', .int (kf (j + 1)) t2] c2) := ⟨_, get?_update_seq M2.pS.1 fun _ => #[u', .int (kf (j + 1)) t2]⟩
      have sb := Heap.SameBut.update s2.heap S (Obj.mapSeq fun _ => #[u', .int (kf (j + 1)) t2])
      simp only [lt2, decide_true, if_true]
      refine wpAny_bind ?_
      refine wpAny_updateSeq M2.pS.1 rfl (wpAny_bind (wpAny_letGo ?_))
      rw [nm]
      have gJ2 := (sb.2 J (Ne.symm C.ne)).trans M2.pJ.1
      have M3 := MkI.turn (tk := s2.toks) C M2 (.inl rfl) (fun b o n e => (sb.2 b n).trans e) g2 gJ2 (fun v z => nomatch z) (fun v z => by rw [dJ] at z; cases z)
      refine wpAny_pure ⟨plainId_quiet PySem.F.plain_min_loop _, ih (j + 1) (j + 1) xv u' t2 c2 oJ' H2 _ (by omega) lt M3 ⟨oJ', gJ2, cJ, dJ⟩ hxv ru (Nat.le_refl _) fun j' hj' => ?_⟩
      by_cases e : j' = j + 1
      · subst e
        exact ⟨by omega, fun _ => by omega⟩
      · have b1 := (best j' (by omega)).1
        exact ⟨by omega, fun _ => by omega⟩
    · simp only [lt2, decide_false, Bool.false_eq_true, if_false]
      refine wpAny_bind (wpAny_letGo ?_)
      rw [nm]
      refine wpAny_pure ⟨plainId_quiet PySem.F.plain_min_loop _, ih (j + 1) i xb vb tb c oJ' H2 _ (by omega) lt M2 hit2 hx rb (by omega) fun j' hj' => ?_⟩
      by_cases e : j' = j + 1
      · subst e
        exact ⟨by omega, fun _ => by omega⟩
      · exact best j' (by omega)
/-- the whole walk -/
theorem minKey_run {Q : Value → Shared → Prop} {E : Value → Shared → Prop} (I : Inv X pins σ H s) (hh : X.A.handled = none) (F : FnOk X.prog X.w X.K X.mg (baseNow s.heap H X.stack) CX0 k q fd ps sp) (hr : Room k X.A.in1) (hb : Binds X.K fd ps []) (hl : H l = some (.lst xs)) (hne : 0 < xs.length)
    (ask : ∀ j v H1, xs[j]? = some v → Same H H1 → sp [v] H1 (fun r H2 => r = .int (kf j) ∧ Same H1 H2) E0)
    (done : ∀ i v u H1 s1, xs[i]? = some v → RelV v u → (∀ j, j < xs.length → kf i ≤ kf j ∧ (j < i → kf i < kf j)) → Same H H1 → Inv X pins σ H1 s1 → Q u s1) :
    wpAny (model X.prog X.w) X.A (call (.builtin "min") [.ref l] [(Str.ofString "key", .ref q)]) Q E s := by
  have nm : (toString "min" ++ toString ".loop" : String) = "min.loop" := by decide
  obtain ⟨its, rv, pl, hz⟩ := I.list (SqL.of hl)
  have T := pl.isList
  have lls := list_iter_facts T
  refine kmk_tree PySem.F.kind_min PySem.F.plain_min PySem.F.entry_min (kmk_min_key _ _) ?_
  refine wpAny_bind (m := Builtin.Builtins.bindParams "min" ["key", "default"] 0 ⟨[], [(Str.ofString "key", .ref q)]⟩) (wpAny_of_eq (show _ = pure [some (.ref q), none] from rfl) ?_)
  refine wpAny_bind (wpAny_pure ?_)
  refine wpAny_bind (wpAny_pyIter_list T ?_)
  refine wpAny_bind (wpAny_newList ?_ (Nat.zero_le _))
  rw [nm]
  obtain ⟨h1, e1⟩ : ∃ h1, h1 = s.heap.push { cls := .type "list_iterator", data := .fields #[.ref l, .int 0 0] } := ⟨_, rfl⟩
  have z1 : h1.objs.size = s.heap.objs.size + 1 := by rw [e1]; exact Heap.size_push ..
  rw [← e1]
  obtain ⟨h2, e2⟩ : ∃ h2, h2 = h1.push { cls := .type "list", data := .seq ([] : List Value).toArray } := ⟨_, rfl⟩
  rw [← e2]
  have gJ : h2.get? s.heap.objs.size = some { cls := .type "list_iterator", data := .fields #[.ref l, .int 0 0] } := by
    rw [e2, e1]
    exact Heap.get?_push_of_some _ (Heap.get?_push_size _ rfl)
  have gS : h2.get? h1.objs.size = some (seqObj "list" #[] 0) := by rw [e2]; exact Heap.get?_push_size _ rfl
  have k2 : ∀ b o, s.heap.get? b = some o → h2.get? b = some o := fun b o e => by rw [e2, e1]; exact Heap.get?_push_of_some _ (Heap.get?_push_of_some _ e)
  have szb : (baseNow s.heap H X.stack).objs.size = s.heap.objs.size := PySem.W.hideAll_size _ _
  have zz : s.heap.objs.size ≤ h1.objs.size := by rw [z1]; exact Nat.le_succ _
  have C : MkC X (baseNow s.heap H X.stack) pins H h1.objs.size s.heap.objs.size := ⟨fun z => Nat.succ_ne_self _ (z1.symm.trans z), I.fpOk zz (I.hok.fresh zz), I.fpOk (Nat.le_refl _) (I.hok.fresh (Nat.le_refl _)), Nat.le_trans (Nat.le_of_eq szb) zz, Nat.le_of_eq szb, fun b o e => baseNow_get (I.bs b o e).1 (I.bs b o e).2 (I.noStk e), fun b hb => PySem.W.hideAll_none _ (List.mem_append_right _ hb)⟩
  have M : MkI X (baseNow s.heap H X.stack) pins σ H h1.objs.size s.heap.objs.size (seqObj "list" #[] 0) _ H { s with heap := h2, toks := s.toks } := MkI.mk2 C (I.kept (t' := s.toks) k2) (Same.refl _) (fun b o e => ⟨(of_baseNow e).1, (of_baseNow e).2.1⟩) C.fS.1 C.fJ.1 (fun b o _ _ e => k2 b o e) gS gJ (fun v z => nomatch z) (fun v z => nomatch z)
  have hit : h2.IsListIter s.heap.objs.size l 0 := ⟨_, gJ, rfl, rfl⟩
  refine wpAny_pure ⟨plainId_quiet PySem.F.plain_min_loop _, ?_⟩
  have W := Walks.list (prog := X.prog) (w := X.w) (A := X.A.in1) hh s.heap.objs.size l (Nat.ne_of_lt lls) its.toArray
  have T2 : h2.IsList l its.toArray := by
    obtain ⟨o, e, r⟩ := T
    exact ⟨o, k2 _ _ e, r⟩
  refine codeAny_builtin PySem.F.entry_min_loop ?_
  rw [Around.under_plainId PySem.F.plain_min_loop _]
  refine wpAny_bind (m := seqItems? (.ref h1.objs.size)) (wpAny_seqItems gS rfl ?_)
  refine wpAny_bind (m := tryCatch (pyNext (.ref s.heap.objs.size)) _) (wpAny_tryCatch (W.item 0 _ _ _ (by rw [List.size_toArray, ← rv.length]; exact hne) ⟨hit, T2⟩ fun u h' tk' hP hst' hk' => ?_))
  obtain ⟨xv, hxv⟩ : ∃ xv, xs[0]? = some xv := ⟨_, List.getElem?_eq_getElem hne⟩
  obtain ⟨u', hu', ru⟩ := rv.get hxv
  have eu : u' = u := by
    rw [List.getElem?_toArray, hu'] at hP
    exact Option.some.inj hP
  subst eu
  obtain ⟨oJ', gJ', cJ, dJ⟩ := id hst'.1
  have kJ : ∀ b o, b ≠ s.heap.objs.size → h2.get? b = some o → h'.get? b = some o := fun b o n e => hk' b o (by simpa using n) e
  have M1 := MkI.turn (tk := tk') C M (.inr rfl) kJ (kJ _ _ C.ne gS) gJ' (fun v z => nomatch z) (fun v z => by rw [dJ] at z; cases z)
  refine wpAny_bind (m := tryCatch (holding [u'] (call (.ref q) [u'])) _) (wpAny_tryCatch (wpAny_holding (M1.ask C F hr hb ru (ask 0 xv H hxv (Same.refl _)) fun t2 H2 s2 M2 => ?_)))
  obtain ⟨c2, g2⟩ : ∃ c2, (s2.heap.update h1.objs.size (Obj.mapSeq fun _ => #[u', .int (kf 0) t2])).get? h1.objs.size = some (seqObj "list" #[u', .int (kf 0) t2] c2) := ⟨_, get?_update_seq M2.pS.1 fun _ => #[u', .int (kf 0) t2]⟩
  have sb := Heap.SameBut.update s2.heap h1.objs.size (Obj.mapSeq fun _ => #[u', .int (kf 0) t2])
  refine wpAny_bind (m := updateSeq h1.objs.size (fun _ => #[u', .int (kf 0) t2])) ?_
  refine wpAny_updateSeq M2.pS.1 rfl ?_
  rw [nm]
  have gJ2 := (sb.2 _ (Ne.symm C.ne)).trans M2.pJ.1
  have M3 := MkI.turn (tk := s2.toks) C M2 (.inl rfl) (fun b o n e => (sb.2 b n).trans e) g2 gJ2 (fun v z => nomatch z) (fun v z => by rw [dJ] at z; cases z)
  refine wpAny_pure ⟨plainId_quiet PySem.F.plain_min_loop _, minKey_loop C hh F hr hb hl ask done _ 0 0 xv u' t2 c2 oJ' H2 _ rfl hne M3 ⟨oJ', gJ2, cJ, dJ⟩ hxv ru (Nat.le_refl _) fun j' hj' => ?_⟩
  have e : j' = 0 := by omega
  subst e
  exact ⟨Int.le_refl _, fun h => absurd h (Nat.lt_irrefl _)⟩
/-- min(e, key = f) -/
def tMinK (X : Cx) (k : Nat) (t tk : TA) : TE := fun σ H Q => t σ H fun vs H1 => tk σ H1 fun zs H2 => ∃ (l q : Addr) (xs : List V), vs = [.ref l] ∧ zs = [.ref q] ∧ H2 l = some (.lst xs) ∧ 0 < xs.length ∧
  ∀ base : Heap, CellsIn X σ base → X.K.In base → base.Ns mainGlobals X.mg → ∃ (fd : FuncData) (ps : List Str) (sp : Sp) (kf : Nat → Int), FnOk X.prog X.w X.K X.mg base CX0 k q fd ps sp ∧ Binds X.K fd ps [] ∧
    (∀ j v H3, xs[j]? = some v → Same H2 H3 → sp [v] H3 (fun r H4 => r = .int (kf j) ∧ Same H3 H4) E0) ∧ ∀ i v H3, xs[i]? = some v → (∀ j, j < xs.length → kf i ≤ kf j ∧ (j < i → kf i < kf j)) → Same H2 H3 → Q v H3
theorem pe_minKey {x : Str} {p pos : Pos} {e : Expr} {es : List Expr} {kws : List Keyword} {t tk : TA} (hc : X.calm = true) (hr : Room (k + 1) X.A) (hg : Gl X x) (hm : X.mg x = none) (hv : bootBuiltins x = some (.builtin "min")) (hfn : ∀ y, X.fn y = true) (ha : PA X (e :: es) t) (hkw : PK X kws tk)
    (hks : (backToKw pos (keywordEach kws X.env)).filterMap (·.1) = [Str.ofString "key"] := by rfl) (hn : x ≠ "__name__" := by decide) (hdb : (x == ("__debug__" : Str)) = false := by decide)
    (he : backTo pos (starEach (e :: es) X.env) = (false, eval e X.env) :: backTo pos (starEach es X.env) := by rfl) (hpl : (backTo pos (starEach (e :: es) X.env)).any (·.1) = false := by rfl)
    (hall : (backToKw pos (keywordEach kws X.env)).all (·.1.isSome) = true := by rfl) (hkn : (backToKw pos (keywordEach kws X.env)).any (·.1.isNone) = false := by rfl) : PE X (.Call (.Name x p) (e :: es) kws pos) (tMinK X k t tk) := by
  intro pins s σ H Q I h
  refine wpAny_Call_Name_kw (ld_blt I hg hm hv ?_ hn hdb)
  refine callWith_kw (thn (ha pos pins s σ H _ I h) fun us s1 ⟨vs, H1, I1, r, q⟩ => ?_) he hpl hall hkn
  refine thn (hkw pos pins s1 σ H1 _ I1 q) fun ws s2 ⟨zs, H2, I2, rz, l, f, xs, e1, e2, hl, hne, q2⟩ => ?_
  subst e1
  subst e2
  obtain ⟨u, rfl, ru⟩ := vals1 r
  cases ru
  obtain ⟨u, rfl, ru⟩ := vals1 rz
  cases ru
  rw [hks]
  have e0 := I2.now
  have ci : CellsIn X σ (baseNow s2.heap H2 X.stack) := fun i y v hN hv hk => by
    obtain ⟨m, hn, hl⟩ := I2.loc
    obtain ⟨u, ru, l⟩ := hl i y v hN hv (.inr (.inl hk))
    rcases l with ⟨hk', _⟩ | ⟨_, c, hc, hcell⟩
    · rw [hk] at hk'; cases hk'
    · exact ⟨c, u, hc, ru, I2.nowCell (hfn y) hc hcell⟩
  obtain ⟨fd, ps, sp, kf, F, hb, ask, fin⟩ := q2 _ ci e0.mod.kin e0.mod.glob
  exact minKey_run I2 (I.ok.hd hc) F hr.in1 hb hl hne ask fun i v u H3 s3 hx rv best sm I3 => ⟨v, H3, I3, rv, fin i v H3 hx best sm⟩
end
end L2

set_option maxRecDepth 100000
set_option maxHeartbeats 4000000
namespace L2
open PySem PySem.Spec PyProof.Rows
theorem cells_apart : ∀ (names : List (Str × NameKind)) (n : Nat) (acc : List (Str × Addr)), (∀ p ∈ acc, p.2 < n) → acc.Pairwise (fun x y => x.2 ≠ y.2) → (cellsFrom n names acc).Pairwise fun x y => x.2 ≠ y.2
  | [], n, acc, _, h => h
  | (x, k) :: r, n, acc, lt, h => by
    unfold cellsFrom
    split
    · refine cells_apart r (n + 1) _ (fun p hp => ?_) (List.pairwise_cons.mpr ⟨fun p hp => Ne.symm (Nat.ne_of_lt (lt p hp)), h⟩)
      rcases List.mem_cons.mp hp with rfl | z
      · exact Nat.lt_succ_self _
      · exact Nat.lt_succ_of_lt (lt p z)
    · exact cells_apart r n acc lt h
theorem apart_inj {l : List (Str × Addr)} (h : l.Pairwise fun x y => x.2 ≠ y.2) {x y : Str} {c : Addr} (h1 : (x, c) ∈ l) (h2 : (y, c) ∈ l) : x = y := by
  induction l with
  | nil => cases h1
  | cons p r ih =>
    rw [List.pairwise_cons] at h
    rcases List.mem_cons.mp h1 with a | a <;> rcases List.mem_cons.mp h2 with b | b
    · exact congrArg Prod.fst (a.trans b.symm)
    · exact absurd (congrArg Prod.snd a).symm (h.1 (y, c) b)
    · exact absurd (congrArg Prod.snd b).symm (h.1 (x, c) a)
    · exact ih h.2 a b
/-- what a lambda has of the cells of its def: each free name stands in a slot -/
structure LamC (base : Heap) (cl : List (Str × Addr)) (scope : Scope) (fr : List Str) (fv : List V) : Prop where
  cell : ∀ x cc, cl.lookup x = some cc → ∃ v, base.IsCell cc v
  inj : ∀ x y cc, cl.lookup x = some cc → cl.lookup y = some cc → x = y
  has : ∀ y ∈ scope.names, y.2 = .free → ∃ cc, cl.lookup y.1 = some cc
  val : ∀ (i : Nat) (x : Str) (v : V), fr[i]? = some x → fv[i]? = some v → ∃ cc u, cl.lookup x = some cc ∧ RelV v u ∧ base.IsCell cc (some u)
theorem lam_cells {X : Cx} {σ : St} {base : Heap} {scope : Scope} {fr : List Str} {fv : List V} {n : Nat} {names : List (Str × NameKind)} (LF : ∀ y ∈ scope.names, y.2 = .free → ∃ c, X.env.cells.lookup y.1 = some c) (hc : X.env.cells = cellsFrom n names []) (ci : CellsIn X σ base)
    (hfr : ∀ y ∈ scope.names, y.2 = .free → y.1 ∈ fr) (hin : ∀ x ∈ fr, (x, NameKind.free) ∈ scope.names) (hl : fv.length = fr.length)
    (hp : ∀ (i : Nat) (x : Str) (v : V), fr[i]? = some x → fv[i]? = some v → ∃ j : Nat, X.N[j]? = some x ∧ σ[j]? = some (some v) ∧ X.env.kindOf x = some .cell) : LamC base (clOf scope X.env) scope fr fv := by
  have val : ∀ (i : Nat) (x : Str) (v : V), fr[i]? = some x → fv[i]? = some v → ∃ cc u, (clOf scope X.env).lookup x = some cc ∧ RelV v u ∧ base.IsCell cc (some u) := fun i x v h1 h2 => by
    obtain ⟨j, a, b, c⟩ := hp i x v h1 h2
    obtain ⟨cc, u, e, r, ic⟩ := ci j x v a b c
    exact ⟨cc, u, clOf_at LF (hin x (List.mem_of_getElem? h1)) e, r, ic⟩
  refine ⟨fun x cc h => ?_, fun x y cc h1 h2 => ?_, fun y hy hz => ?_, val⟩
  · have hx : x ∈ fr := by
      have m := PySem.mem_of_lookup h
      unfold clOf at m
      have key : ∀ (l : List (Str × NameKind)) (acc : List (Str × Addr)), (∀ y ∈ l, y.2 = .free → y.1 ∈ fr) → (∀ p ∈ acc, p.1 ∈ fr) → ∀ p ∈ l.foldl (fun cs y => if (y.2 == NameKind.free) = true then (y.1, (X.env.cells.lookup y.1).getD 0) :: cs else cs) acc, p.1 ∈ fr := by
        intro l
        induction l with
        | nil => intro acc _ h p hp; exact h p hp
        | cons y r ih =>
          intro acc h1 h2 p hp
          rw [List.foldl_cons] at hp
          refine ih _ (fun z hz => h1 z (List.mem_cons_of_mem _ hz)) (fun p hp => ?_) p hp
          split at hp
          · rename_i hk
            rcases List.mem_cons.mp hp with rfl | z
            · exact h1 y List.mem_cons_self (by simpa using hk)
            · exact h2 p z
          · exact h2 p hp
      exact key scope.names [] hfr (fun _ z => nomatch z) _ m
    obtain ⟨i, hi⟩ := List.getElem?_of_mem hx
    have il : i < fv.length := by
      rw [hl]
      exact (List.getElem?_eq_some_iff.mp hi).1
    obtain ⟨cc', u, e, _, ic⟩ := val i x fv[i] hi (List.getElem?_eq_getElem il)
    rw [h] at e
    cases e
    exact ⟨_, ic⟩
  · have a := PySem.mem_of_lookup (clOf_look LF h1)
    have b := PySem.mem_of_lookup (clOf_look LF h2)
    rw [hc] at a b
    exact apart_inj (cells_apart names n [] (fun _ z => nomatch z) .nil) a b
  · obtain ⟨c, hc⟩ := LF y hy hz
    exact ⟨c, clOf_at LF (by rw [← hz]; exact hy) hc⟩
/-- a lambda with its cells keeps a promise -/
theorem lam_okC {P : Program} {w : World} {K : PySem.W.Frag} {mg : Str → Option Value} {base : Heap} {f c : Addr} {qual : Str} {params : Arguments} {body : Expr} {scope : Scope} {cl : List (Str × Addr)} {H1 : Hp} {ps fr : List Str} {fv : List V} {k : Nat} (sp : Sp)
    (hp : H1 f = some (.ext (lamP f qual params body scope cl c))) (LM : LamC base cl scope fr fv) (S : LamScope ps fr scope) (hlen : fv.length = fr.length)
    (hsame : ∀ pm ctv args, bindArgs (PySem.W.kla_fn "<lambda>" qual params body scope cl pm (.ref c) ctv) args = bindArgs (PySem.W.kla_fn "<lambda>" qual params body scope cl .none (.ref c) .none) args)
    (len : ∀ vs H Q E, sp vs H Q E → vs.length = ps.length)
    (hbody : ∀ (q : Str) (A : Around) (outer : List Env) (s : Shared) (H : Hp) (vs : List V) (Q : VK) (E : XK), Room k (A.deeper (PySem.W.envX q scope s.heap.objs.size f (.ref c) cl)) → sp vs H Q E →
      ∃ t, PE (cxLam P w K mg base (ps ++ fr) q scope f c cl A outer s H) body t ∧ t (vs.map some ++ fv.map some) H Q) :
    FnOk P w K mg base CX0 (k + 1) f (PySem.W.kla_fn "<lambda>" qual params body scope cl .none (.ref c) .none) ps (fun vs H Q E => sp vs H Q E ∧ H f = some (.ext (lamP f qual params body scope cl c)) ∧ H c = some (.ext (codeP c))) :=
  lam_ok S LM.cell LM.inj LM.has LM.val hlen hsame (fun vs H Q E h => len vs H Q E h.1) (fun vs H Q E h => h.2) (fun q A outer s H vs Q E hr h => hbody q A outer s H vs Q E hr h.1)
end L2

set_option maxRecDepth 100000
set_option maxHeartbeats 4000000
namespace Wd
open PySem L2 Ow
def enumP (ps : List Int) : List (Nat × Int) := (List.range ps.length).map fun k => (k, ps.getD k 0)
/-- a stand that costs p at least, whatever is put yet -/
def dearB (ps : List Int) (p : Int) (y n : Nat) : Bool := decide (leastSum (enumP ps) y n ≥ p)
def spDear : Sp := fun vs H Q _ => ∃ (lp : Addr) (ps : List Int) (p : Int) (y n : Nat), vs = [.ref lp, .int p, .int (y : Nat), .int (n : Nat)] ∧ H lp = some (.lst (ps.map V.int)) ∧ ps.length ≤ 9 ∧ ∀ H', Same H H' → Q (.bl (dearB ps p y n)) H'
theorem DnL.of {H : Hp} : ∀ {ds : List PyData} {xs : List V}, ds.length = xs.length → (∀ (i : Nat) d x, ds[i]? = some d → xs[i]? = some x → Dn H d x) → DnL H ds xs
  | [], [], _, _ => rfl
  | d :: ds, x :: xs, hl, h => ⟨x, xs, rfl, h 0 d x rfl rfl, DnL.of (Nat.succ.inj hl) fun i d' x' h1 h2 => h (i + 1) d' x' h1 h2⟩
theorem enV_dn {H : Hp} {ps : List Int} {xs : List V} (h : EnV H (ps.map V.int) xs) : DnL H ((enumP ps).map pairD) xs := by
  obtain ⟨hl, h⟩ := h
  rw [List.length_map] at hl
  refine DnL.of (by unfold enumP; rw [List.length_map, List.length_map, List.length_range, hl]) fun i d x h1 h2 => ?_
  have il : i < ps.length := by
    rw [← hl]
    exact (List.getElem?_eq_some_iff.mp h2).1
  have pk : ps[i]? = some ps[i] := List.getElem?_eq_getElem il
  obtain ⟨T, e1, e2⟩ := h i (.int ps[i]) (by rw [List.getElem?_map, pk]; rfl)
  rw [h2] at e1
  cases e1
  unfold enumP at h1
  rw [List.getElem?_map, List.getElem?_map, List.getElem?_range il] at h1
  have e : d = pairD (i, ps[i]) := by
    rw [← Option.some.inj h1]
    show pairD (i, ps.getD i 0) = _
    rw [List.getD_eq_getElem?_getD, pk]
    rfl
  rw [e]
  exact ⟨T, _, rfl, e2, _, _, rfl, rfl, _, _, rfl, rfl, rfl⟩
theorem bitsL_range {m n : Nat} (h : n < 2 ^ m) : bitsL n = (List.range m).filter fun k => n.testBit k := by
  refine pw_ext (List.Pairwise.filter _ List.pairwise_lt_range) (List.Pairwise.filter _ List.pairwise_lt_range) fun k => ?_
  rw [mem_bitsL, List.mem_filter, List.mem_range]
  refine ⟨fun hk => ⟨?_, hk⟩, fun hk => hk.2⟩
  rcases Nat.lt_or_ge k m with z | z
  · exact z
  · have : 2 ^ m ≤ 2 ^ k := Nat.pow_le_pow_right (by decide) z
    rw [Nat.testBit_lt_two_pow (by omega)] at hk
    cases hk
theorem price_sum {ps : List Int} {s : Nat} (h : s < 2 ^ ps.length) : priceS ps s = sumP (enumP ps) fun p => s.testBit p.1 := by
  unfold priceS sumP enumP
  rw [bitsL_range h, List.filter_map, List.map_map]
  rfl
/-- the best ware -/
structure IsBest (m : Nat) (ts : List Tie) (ps : List Int) (w : Nat) : Prop where
  ware : w ∈ wareL m ts
  le : ∀ v ∈ wareL m ts, priceS ps w ≤ priceS ps v
  fst : ∀ v ∈ wareL m ts, v < w → priceS ps w < priceS ps v
theorem IsBest.unique {m : Nat} {ts : List Tie} {ps : List Int} {v w : Nat} (a : IsBest m ts ps v) (b : IsBest m ts ps w) : v = w := by
  rcases Nat.lt_trichotomy v w with z | z | z
  · have := b.fst v a.ware z
    have := a.le w b.ware
    omega
  · exact z
  · have := a.fst w b.ware z
    have := b.le v a.ware
    omega
def dearLeaf (ps : List Int) (p : Int) (y n : Nat) : Option PyData := if dearB ps p y n = true then some (.tuple [.str ("dear" : Str)]) else none
def bestD (m : Nat) (ts : List Tie) (ps : List Int) (w : Nat) : PyData := .tuple [.str ("best" : Str), .int (w : Int), .int (priceS ps w), toldD ts (allT ts) m (dearLeaf ps (priceS ps w)) 9 1 0]
def noneD (m : Nat) (ts : List Tie) : PyData := .tuple [.str ("none" : Str), (casesF ts (allT ts) m 9 1 0).toD]
def spBest : Sp := fun vs H Q _ => ∃ (wd lp : Addr) (m : Nat) (ts : List Tie) (ps : List Int), vs = [.ref wd, .ref lp] ∧ WoodT H wd m ts ∧ 1 ≤ m ∧ m ≤ 9 ∧ H lp = some (.lst (ps.map V.int)) ∧ ps.length = m ∧
  (wareL m ts = [] → ∀ v H', Same H H' → Dn H' (noneD m ts) v → Q v H') ∧ ∀ w v H', IsBest m ts ps w → Same H H' → Dn H' (bestD m ts ps w) v → Q v H'
theorem best_ends {m : Nat} {ts : List Tie} {ps : List Int} {w : Nat} (ok : ∀ t ∈ ts, t.Ok m) (m1 : 1 ≤ m) (hl : ps.length = m) (b : IsBest m ts ps w) : EndsR ts (allT ts) m (dearLeaf ps (priceS ps w)) 1 0 := by
  refine ⟨fun y n => Stand m y n ∧ y.testBit 0 = true, ⟨stand1 m1, rfl⟩, fun y n k h hk => ⟨⟨h.1.one hk, by rw [Nat.testBit_or, h.2, Bool.true_or]⟩, h.1.other hk, h.2⟩, fun y n h hb ho => ?_⟩
  have wy : y ∈ wareL m ts := by
    rw [mem_wareL]
    refine ⟨h.1.ym, ?_⟩
    unfold wareB
    rw [h.2, Bool.true_and, ← allKeep_all, allKeep, List.all_eq_true]
    exact fun i hi => keep_full ok h.1.dj ho (firstSB_none hb i hi)
  have le := b.le y wy
  have full : leastSum (enumP ps) y n = priceS ps y := by
    rw [price_sum (by rw [hl]; exact h.1.ym)]
    refine sumP_eq fun p hp => ?_
    unfold enumP at hp
    obtain ⟨k, hk, rfl⟩ := List.mem_map.mp hp
    rw [List.mem_range, hl] at hk
    show (y.testBit k || (decide (ps.getD k 0 < 0) && !n.testBit k)) = y.testBit k
    cases e : y.testBit k with
    | true => rfl
    | false =>
      cases e2 : n.testBit k with
      | true => rw [Bool.false_or, Bool.not_true, Bool.and_false]
      | false =>
        have := mem_open.mpr ⟨hk, e, e2⟩
        rw [ho] at this
        cases this
  unfold dearLeaf dearB
  rw [full, if_pos (decide_eq_true le)]
  exact fun z => nomatch z
/-- a leaf of bounds -/
def boundOk (m : Nat) (ts : List Tie) (ps : List Int) (p : Int) (w : Str) (y n : Nat) : Bool := if V.str w = V.str ("dear" : Str) then dearB ps p y n else wareOk ts m w y n && decide (priceS ps y ≥ p)
def spBoundLeaf : Sp := fun vs H Q _ => ∃ (wd lp : Addr) (m : Nat) (ts : List Tie) (ps : List Int) (p : Int) (w : Str) (y n : Nat), vs = [.ref wd, .ref lp, .int p, .str w, .int (y : Nat), .int (n : Nat)] ∧ WoodT H wd m ts ∧ H lp = some (.lst (ps.map V.int)) ∧ ps.length = m ∧ m ≤ 9 ∧ (wareOk ts m w y n = true → y < 2 ^ m) ∧ ∀ H', Same H H' → Q (.bl (boundOk m ts ps p w y n)) H'
def spDearLeaf : Sp := fun vs H Q _ => ∃ (lp : Addr) (ps : List Int) (p : Int) (y n : Nat), vs = [.ref lp, .int p, .int (y : Nat), .int (n : Nat)] ∧ H lp = some (.lst (ps.map V.int)) ∧ ps.length ≤ 9 ∧ ∀ v H', Same H H' → LeafV (dearLeaf ps p) y n H' v → Q v H'
theorem best_at {m : Nat} {ts : List Tie} {ps : List Int} {i w : Nat} (hw : (wareL m ts)[i]? = some w) (h : ∀ j, j < (natsL (wareL m ts)).length → priceS ps ((wareL m ts).getD i 0) ≤ priceS ps ((wareL m ts).getD j 0) ∧ (j < i → priceS ps ((wareL m ts).getD i 0) < priceS ps ((wareL m ts).getD j 0))) : IsBest m ts ps w := by
  have gi : (wareL m ts).getD i 0 = w := by rw [List.getD_eq_getElem?_getD, hw]; rfl
  have at_ : ∀ v ∈ wareL m ts, ∃ j, j < (natsL (wareL m ts)).length ∧ (wareL m ts).getD j 0 = v ∧ (wareL m ts)[j]? = some v := fun v hv => by
    obtain ⟨j, hj⟩ := List.getElem?_of_mem hv
    exact ⟨j, by rw [List.length_map]; exact (List.getElem?_eq_some_iff.mp hj).1, by rw [List.getD_eq_getElem?_getD, hj]; rfl, hj⟩
  refine ⟨List.mem_of_getElem? hw, fun v hv => ?_, fun v hv lt => ?_⟩
  · obtain ⟨j, hj, e, _⟩ := at_ v hv
    have := (h j hj).1
    rw [gi, e] at this
    exact this
  · obtain ⟨j, hj, e, ej⟩ := at_ v hv
    have ji : j < i := by
      rcases Nat.lt_or_ge j i with z | z
      · exact z
      · have pw := List.pairwise_iff_getElem.mp (wareL_pw m ts)
        obtain ⟨l1, e1⟩ := List.getElem?_eq_some_iff.mp hw
        obtain ⟨l2, e2⟩ := List.getElem?_eq_some_iff.mp ej
        rcases Nat.lt_or_eq_of_le z with y | y
        · have := pw i j l1 l2 y
          omega
        · subst y
          omega
    have := (h j hj).2 ji
    rw [gi, e] at this
    exact this
/-- a set's price, as a key -/
def spKey (lp : Addr) (ps : List Int) : Sp := fun vs H Q _ => ∃ s : Nat, vs = [.int (s : Int)] ∧ H lp = some (.lst (ps.map V.int)) ∧ s < 2 ^ ps.length ∧ ∀ H', Same H H' → Q (.int (priceS ps s)) H'
def setE : Option Stmt → Expr
  | some (Stmt.Assign _ e _) => e
  | _ => .Constant .none 0 ⟨0, 0, 0, 0⟩
def kwArg : Expr → Expr
  | .Call _ _ (k :: _) _ => k.value
  | e => e
def spBounds (f : Nat) : Sp := fun vs H Q _ => ∃ (wd lp : Addr) (m : Nat) (ts : List Tie) (ps : List Int) (p : Int) (t : WT) (v : V), vs = [.ref wd, .ref lp, .int p, v] ∧ WoodT H wd m ts ∧ 1 ≤ m ∧ m ≤ 9 ∧ H lp = some (.lst (ps.map V.int)) ∧ ps.length = m ∧ Dn H t.toD v ∧ t.good ∧ t.depth < f ∧ ∀ H', Same H H' → Q (.bl (isT ts m (boundOk m ts ps p) t 1 0)) H'
/-- prices drawn -/
def spPrices (K : PySem.W.Frag) : Sp := fun vs H Q _ => ∃ (pen sp : Addr) (ns : List Int) (m : Nat) (k : Int), vs = [.ref pen, .int (m : Int)] ∧ Pen K H pen sp ns k ∧ 0 ≤ k ∧ k ≤ 800000 ∧ m ≤ 9 ∧
  ∀ (l : Addr) (ps : List Int) (k' : Int) (H' : Hp), SameX pen H H' → H' pen = some (.lst [.ref sp, .int k']) → k ≤ k' → k' ≤ k + 20 → H l = none → H' l = some (.lst (ps.map V.int)) → ps.length = m → Q (.ref l) H'
end Wd

set_option maxRecDepth 100000
set_option maxHeartbeats 4000000
namespace Wd
open PySem L2 Ow
/-- words that can be laid -/
def WT.strs : WT → Prop
  | .leaf w => PyData.strOk w = true
  | .broken _ => True
  | .split _ a b => a.strs ∧ b.strs
theorem wt_flatS : ∀ (t : WT) (f : Nat), t.strs → t.depth < f → flatD (f + 1) t.toD = true
  | .leaf w, f, h, _ => by
    show (decide (1 ≤ 1000) && List.all [PyData.str w] (flatD f)) = true
    simp [flatD, show PyData.strOk w = true from h]
  | .broken t, f, _, _ => by
    show (decide (2 ≤ 1000) && List.all [PyData.str ("broken" : Str), .int t] (flatD f)) = true
    simp [flatD, strOk_b]
  | .split k a b, f, h, hd => by
    have e : (WT.split k a b).depth = max a.depth b.depth + 1 := rfl
    obtain ⟨f', rfl⟩ : ∃ f', f = f' + 1 := ⟨f - 1, by omega⟩
    have ha := wt_flatS a f' h.1 (by omega)
    have hb := wt_flatS b f' h.2 (by omega)
    show (decide (4 ≤ 1000) && List.all [PyData.str ("split" : Str), .int k, a.toD, b.toD] (flatD (f' + 1))) = true
    simp [flatD, strOk_s, ha, hb]
theorem WT.tupA {H H' : Hp} {t : WT} {v : V} (h : TupS H H') (wa : t.strs) (dn : Dn H t.toD v) : Dn H' t.toD v := Dn.keepT h (t.depth + 2) _ _ (wt_flatS t (t.depth + 1) wa (Nat.lt_succ_self _)) dn
/-- a told tree is a tree, and one that is let by -/
theorem told_W {ts : List Tie} {m : Nat} {leaf : Nat → Nat → Option PyData} {lf : Str → Nat → Nat → Bool} (hw : ∀ y n d, leaf y n = some d → ∃ w : Str, d = .tuple [.str w] ∧ (WT.leaf w).good ∧ lf w y n = true ∧ PyData.strOk w = true)
    {R : Nat → Nat → Prop} (rs : ∀ y n k, R y n → k ∈ openL m y n → R (y ||| 2 ^ k) n ∧ R y (n ||| 2 ^ k)) (re : ∀ y n, R y n → firstSB ts (allT ts) y n = none → openL m y n = [] → leaf y n ≠ none) :
    ∀ (f y n : Nat), (openL m y n).length ≤ f → R y n → ∃ t : WT, t.toD = toldD ts (allT ts) m leaf f y n ∧ t.good ∧ t.depth ≤ f ∧ isT ts m lf t y n = true ∧ t.strs
  | f, y, n, hf, r => by
    cases hb : firstSB ts (allT ts) y n with
    | some t =>
      rw [toldD_broken hb]
      refine ⟨.broken (t : Int), rfl, trivial, Nat.zero_le _, ?_, trivial⟩
      obtain ⟨h1, h2⟩ := firstSB_some hb
      have tl := List.mem_range.mp h1
      show brB ts (t : Int) y n = true
      unfold brB
      rw [decide_eq_true (by omega), decide_eq_true (by omega), Int.toNat_natCast, h2]
      rfl
    | none =>
      cases hl : leaf y n with
      | some d =>
        rw [toldD_leaf hb hl]
        obtain ⟨w, rfl, g, ok, so⟩ := hw y n d hl
        exact ⟨.leaf w, rfl, g, Nat.zero_le _, ok, so⟩
      | none =>
        cases ho : openL m y n with
        | nil => exact absurd hl (re y n r hb ho)
        | cons k q =>
          have hk : k ∈ openL m y n := by rw [ho]; exact List.mem_cons_self
          have l1 := open_less1 hk
          have l2 := open_less2 hk
          obtain ⟨f, rfl⟩ : ∃ f', f = f' + 1 := ⟨f - 1, by rw [ho, List.length_cons] at hf; omega⟩
          obtain ⟨a, a1, a2, a3, a4, a5⟩ := told_W hw rs re f (y ||| 2 ^ k) n (by omega) (rs y n k r hk).1
          obtain ⟨b, b1, b2, b3, b4, b5⟩ := told_W hw rs re f y (n ||| 2 ^ k) (by omega) (rs y n k r hk).2
          refine ⟨.split (k : Int) a b, ?_, ⟨a2, b2⟩, Nat.succ_le_succ (Nat.max_le.mpr ⟨a3, b3⟩), ?_, a5, b5⟩
          · rw [toldD_split hb hl ho, ← a1, ← b1]
            rfl
          · show (if 0 ≤ (k : Int) ∧ (k : Int).toNat ∈ openL m y n then _ else _) = true
            rw [Int.toNat_natCast, if_pos ⟨by omega, hk⟩, a4, b4]
            rfl
theorem dear_words : (WT.leaf ("dear" : Str)).good := by
  unfold WT.good
  decide +kernel
theorem dear_leaf_word {m : Nat} {ts : List Tie} {ps : List Int} {p : Int} (y n : Nat) (d : PyData) (h : dearLeaf ps p y n = some d) : ∃ w : Str, d = .tuple [.str w] ∧ (WT.leaf w).good ∧ boundOk m ts ps p w y n = true ∧ PyData.strOk w = true := by
  unfold dearLeaf at h
  split at h
  · next c =>
    cases h
    exact ⟨_, rfl, dear_words, by unfold boundOk; rw [if_pos rfl]; exact c, by decide +kernel⟩
  · cases h
/-! ### prices changed -/
end Wd

set_option maxRecDepth 100000
set_option maxHeartbeats 4000000
namespace L2
open PySem PySem.Spec PyProof.Rows
end L2
namespace Wd
open PySem L2 Ow
/-- two numbers beside each other -/
def twoD (a b : Int) : PyData := .tuple [.int a, .int b]
theorem shaped_two (a b : Int) : SeqAt.shaped (twoD a b) = true := shaped_tup (n := 3) (by decide) rfl
theorem eqv_two (a b : Int) : PyData.eqv (twoD a b) (twoD a b) = true := eqv_refl _ rfl
theorem dn_two {H : Hp} {t : Addr} {a b : Int} (h : H t = some (.tup [.int a, .int b])) : Dn H (twoD a b) (.ref t) := ⟨t, _, rfl, h, _, _, rfl, rfl, _, _, rfl, rfl, rfl⟩
/-- what was told of the best -/
theorem dn_best {H : Hp} {m : Nat} {ts : List Tie} {ps : List Int} {w : Nat} {v : V} (h : Dn H (bestD m ts ps w) v) : ∃ f v3, v = .ref f ∧ H f = some (.tup [.str ("best" : Str), .int (w : Int), .int (priceS ps w), v3]) ∧ Dn H (toldD ts (allT ts) m (dearLeaf ps (priceS ps w)) 9 1 0) v3 := by
  obtain ⟨f, xs, rfl, hf, x0, r0, rfl, h0, x1, r1, rfl, h1, x2, r2, rfl, h2, x3, r3, rfl, h3, hn⟩ := dn_tup h
  cases (show r3 = [] from hn)
  cases (show x0 = .str ("best" : Str) from h0)
  cases (show x1 = .int (w : Int) from h1)
  cases (show x2 = .int (priceS ps w) from h2)
  exact ⟨f, x3, rfl, hf, h3⟩
theorem dn_none {H : Hp} {m : Nat} {ts : List Tie} {v : V} (h : Dn H (noneD m ts) v) : ∃ f v1, v = .ref f ∧ H f = some (.tup [.str ("none" : Str), v1]) ∧ Dn H (casesF ts (allT ts) m 9 1 0).toD v1 := by
  obtain ⟨f, xs, rfl, hf, x0, r0, rfl, h0, x1, r1, rfl, h1, hn⟩ := dn_tup h
  cases (show r1 = [] from hn)
  cases (show x0 = .str ("none" : Str) from h0)
  exact ⟨f, x1, rfl, hf, h1⟩
theorem IsBest.no {m w : Nat} {ts : List Tie} {ps : List Int} (B : IsBest m ts ps w) (c : wareL m ts = []) : False := by
  have := B.ware
  rw [c] at this
  cases this
theorem lc_rfiltS {n : Nat} {σ0 σr : St} {H : Hp} {tc : TT} {Q : VK} (gB : Nat → Bool) (h0 : σ0 = none :: σr) (few : n ≤ 1000)
    (ht : ∀ s, s < n → ∀ H2, Same H H2 → ∀ R : Bool → Hp → Prop, (∀ H3, Same H H3 → R (gB s) H3) → tc (some (.int (s : Int)) :: σr) H2 R)
    (hd : ∀ H2 p, Same H H2 → H2 p = none → Q (.ref p) (L2.upd H2 p (.lst (natsL ((List.range n).filter gB))))) :
    lcGo (Itr 0 n) (gName 0) tc (tVar 0) σ0 H Q := by
  refine lc_range0 (k := n) (fun i ys σ H2 => (∃ v, σ = v :: σr) ∧ Same H H2 ∧ ys = natsL ((List.range i).filter gB)) ⟨⟨none, h0⟩, Same.refl _, rfl⟩ (fun i ys σ H2 hi pv => ?_) (fun i ys σ H2 hi pv => ?_) (fun ys σ H2 pv p hp => ?_)
  · obtain ⟨_, _, rfl⟩ := pv
    rw [List.length_map]
    refine small (Nat.le_trans (List.length_filter_le _ _) ?_)
    rw [List.length_range]
    omega
  · obtain ⟨⟨v, rfl⟩, s2, rfl⟩ := pv
    refine ht i hi H2 s2 _ fun H3 s3 => ?_
    have e : List.range (i + 1) = List.range i ++ [i] := List.range_succ
    cases c : gB i with
    | true =>
      rw [if_pos rfl]
      refine ⟨_, rfl, ⟨_, rfl⟩, s3, ?_⟩
      rw [e, List.filter_append, List.filter_cons_of_pos c]
      show _ = natsL _
      unfold natsL
      rw [List.map_append]
      rfl
    | false =>
      rw [if_neg Bool.false_ne_true]
      refine ⟨⟨_, rfl⟩, s3, ?_⟩
      rw [e, List.filter_append, List.filter_cons_of_neg (by rw [c]; exact Bool.false_ne_true), List.filter_nil, List.append_nil]
  · obtain ⟨_, s2, rfl⟩ := pv
    exact hd H2 p s2 hp
end Wd

set_option maxRecDepth 100000
set_option maxHeartbeats 4000000
namespace Wd
open PySem L2 Ow
def spLPrice : Sp := fun vs H Q _ => ∃ (lp : Addr) (ps : List Int) (s : Nat), vs = [.ref lp, .int (s : Int)] ∧ H lp = some (.lst (ps.map V.int)) ∧ ps.length ≤ 9 ∧ ∀ H', Same H H' → Q (.int (sumP (enumP ps) fun p => s.testBit p.1)) H'
def optV : Option Nat → V
  | none => .non
  | some t => .int (t : Int)
def spFirstSure : Sp := fun vs H Q _ => ∃ (wd : Addr) (m : Nat) (ts : List Tie) (y n : Nat), vs = [.ref wd, .int (y : Int), .int (n : Int)] ∧ WoodT H wd m ts ∧ ∀ H', Same H H' → Q (optV (firstSB ts (allT ts) y n)) H'
def spFirstBest : Sp := fun vs H Q _ => ∃ (ls lp : Addr) (m : Nat) (ts : List Tie) (ps : List Int), vs = [.ref ls, .ref lp] ∧ H ls = some (.lst (natsL (wareL m ts))) ∧ wareL m ts ≠ [] ∧ H lp = some (.lst (ps.map V.int)) ∧ ps.length = m ∧ m ≤ 9 ∧ ∀ w H', IsBest m ts ps w → Same H H' → Q (.int (w : Int)) H'
end Wd

set_option maxRecDepth 100000
set_option maxHeartbeats 4000000
namespace Wd
open PySem L2 Ow
theorem SameX.fresh {pen : Addr} {H H1 H' : Hp} {ys : List V} (s0 : Same H H1) (n : H pen = none) (hp : H1 pen = some (.lst ys)) (s : SameX pen H1 H') : Same H H' := fun b o h => by
  have ne : b ≠ pen := ne_of_none h n
  have z := s0 b o h
  cases o
  case tbl ps =>
    obtain ⟨⟨qs, hq⟩, k⟩ := z
    have y := s b _ ne hq
    exact ⟨y.1, fun t => (y.2 (k t) ⟨_, hp⟩).1⟩
  all_goals exact s b _ ne z
/-- what waits: a stand, and something that goes with it -/
def Ent (C : Nat → Nat → Hp → V → Prop) (H : Hp) (x : V) (e : Nat × Nat) : Prop := ∃ (q : Addr) (v : V), x = .ref q ∧ H q = some (.tup [.int (e.1 : Int), .int (e.2 : Int), v]) ∧ C e.1 e.2 H v
def EntL (C : Nat → Nat → Hp → V → Prop) (H : Hp) : List V → List (Nat × Nat) → Prop
  | [], [] => True
  | x :: r, e :: q => Ent C H x e ∧ EntL C H r q
  | _, _ => False
theorem EntL.to {C : Nat → Nat → Hp → V → Prop} {H H' : Hp} (t : TupS H H') (hc : ∀ y n v, C y n H v → C y n H' v) : ∀ {xs : List V} {S : List (Nat × Nat)}, EntL C H xs S → EntL C H' xs S
  | [], [], _ => trivial
  | x :: r, e :: q, ⟨⟨a, v, h1, h2, h3⟩, hr⟩ => ⟨⟨a, v, h1, t _ _ h2, hc _ _ _ h3⟩, EntL.to t hc hr⟩
/-- the work that waits -/
def wait (m : Nat) (S : List (Nat × Nat)) : Nat := (S.map fun e => 3 ^ (openL m e.1 e.2).length).sum
theorem wait_pop {m : Nat} {e : Nat × Nat} {S : List (Nat × Nat)} : wait m S < wait m (e :: S) := by
  unfold wait
  rw [List.map_cons, List.sum_cons]
  have := Nat.pow_pos (n := (openL m e.1 e.2).length) (by decide : 0 < 3)
  omega
theorem wait_two {m y n k : Nat} {S : List (Nat × Nat)} (hk : k ∈ openL m y n) : wait m ((y, n ||| 2 ^ k) :: (y ||| 2 ^ k, n) :: S) < wait m ((y, n) :: S) := by
  unfold wait
  rw [List.map_cons, List.map_cons, List.sum_cons, List.sum_cons, List.map_cons, List.sum_cons]
  have l1 := open_less1 hk
  have l2 := open_less2 hk
  obtain ⟨c, hc⟩ : ∃ c, (openL m y n).length = c + 1 := ⟨(openL m y n).length - 1, by omega⟩
  have h1 : 3 ^ (openL m (y ||| 2 ^ k) n).length ≤ 3 ^ c := Nat.pow_le_pow_right (by decide) (by omega)
  have h2 : 3 ^ (openL m y (n ||| 2 ^ k)).length ≤ 3 ^ c := Nat.pow_le_pow_right (by decide) (by omega)
  have h3 : 3 ^ (openL m y n).length = 3 ^ c * 3 := by rw [hc, Nat.pow_succ]
  have h4 := Nat.pow_pos (n := c) (by decide : 0 < 3)
  show 3 ^ (openL m y (n ||| 2 ^ k)).length + (3 ^ (openL m (y ||| 2 ^ k) n).length + _) < 3 ^ (openL m y n).length + _
  omega
/-- a list's last item -/
theorem rev_last {xs r : List V} {x : V} (h : xs.reverse = x :: r) : xs[xs.length - 1]? = some x ∧ xs.dropLast.reverse = r ∧ xs.length = r.length + 1 := by
  have e : xs = r.reverse ++ [x] := by
    rw [← List.reverse_reverse xs, h, List.reverse_cons]
  subst e
  refine ⟨by simp, by simp, by simp⟩
/-- what a stand costs at least, counted by what is open -/
theorem lower_sum {m y n : Nat} {ps : List Int} (S : Stand m y n) (lm : ps.length = m) : sumP (enumP ps) (fun p => y.testBit p.1) + ((openL m y n).map fun k => min 0 (ps.getD k 0)).sum = leastSum (enumP ps) y n := by
  have e1 : ((openL m y n).map fun k => min 0 (ps.getD k 0)).sum = sumP (enumP ps) fun p => (!y.testBit p.1) && (decide (p.2 < 0) && !n.testBit p.1) := by
    unfold openL sumP enumP
    rw [lm, List.filter_map, List.map_map]
    have go : ∀ l : List Nat, ((l.filter fun k => !(y ||| n).testBit k).map fun k => min 0 (ps.getD k 0)).sum = ((l.filter ((fun p : Nat × Int => (!y.testBit p.1) && (decide (p.2 < 0) && !n.testBit p.1)) ∘ fun k => (k, ps.getD k 0))).map ((fun x : Nat × Int => x.2) ∘ fun k => (k, ps.getD k 0))).sum := by
      intro l
      induction l with
      | nil => rfl
      | cons k r ih =>
        rw [List.filter_cons, List.filter_cons, Nat.testBit_or]
        show _ = List.sum (List.map _ (if ((!y.testBit k) && (decide (ps.getD k 0 < 0) && !n.testBit k)) = true then _ else _))
        cases a : y.testBit k <;> cases b : n.testBit k
        · by_cases c : ps.getD k 0 < 0
          · rw [decide_eq_true c]
            show (min 0 (ps.getD k 0) :: _).sum = (ps.getD k 0 :: _).sum
            rw [List.sum_cons, List.sum_cons, ih]
            omega
          · rw [decide_eq_false c]
            show (min 0 (ps.getD k 0) :: _).sum = _
            rw [List.sum_cons, ih]
            show min 0 (ps.getD k 0) + _ = List.sum (List.map _ _)
            have : min 0 (ps.getD k 0) = 0 := by omega
            rw [this, Int.zero_add]
            rfl
        · by_cases c : ps.getD k 0 < 0
          · rw [decide_eq_true c]; exact ih
          · rw [decide_eq_false c]; exact ih
        · exact ih
        · exact ih
    exact go _
  have e2 : ∀ l : List (Nat × Int), sumP l (fun p => y.testBit p.1) + sumP l (fun p => (!y.testBit p.1) && (decide (p.2 < 0) && !n.testBit p.1)) = sumP l fun p => y.testBit p.1 || (decide (p.2 < 0) && !n.testBit p.1) := by
    intro l
    induction l with
    | nil => rfl
    | cons p r ih =>
      rw [sumP_cons, sumP_cons, sumP_cons]
      cases a : y.testBit p.1
      · simp only [Bool.false_or, Bool.not_false, Bool.true_and, Bool.false_eq_true, if_false]
        omega
      · simp only [Bool.true_or, Bool.not_true, Bool.false_and, Bool.false_eq_true, if_false, if_true]
        omega
  rw [e1, e2]
  rfl
def brD (t : Int) : PyData := .tuple [.str ("broken" : Str), .int t]
def dearD : PyData := .tuple [.str ("dear" : Str)]
def splD (k : Int) : PyData := .tuple [.str ("split" : Str), .int k]
theorem shaped_brD (t : Int) : SeqAt.shaped (brD t) = true := shaped_tup (n := 3) (by decide) (by show ((PyData.strOk ("broken" : Str)) && (true && true)) = true; rw [strOk_b]; rfl)
theorem shaped_splD (t : Int) : SeqAt.shaped (splD t) = true := shaped_tup (n := 3) (by decide) (by show ((PyData.strOk ("split" : Str)) && (true && true)) = true; rw [strOk_s]; rfl)
theorem strOk_dear : PyData.strOk ("dear" : Str) = true := by decide +kernel
theorem shaped_dearD : SeqAt.shaped dearD = true := shaped_tup (n := 3) (by decide) (by show ((PyData.strOk ("dear" : Str)) && true) = true; rw [strOk_dear]; rfl)
theorem eqv_brD (t : Int) : PyData.eqv (brD t) (brD t) = true := eqv_refl _ (by show ((PyData.strOk ("broken" : Str)) && (true && true)) = true; rw [strOk_b]; rfl)
theorem eqv_splD (t : Int) : PyData.eqv (splD t) (splD t) = true := eqv_refl _ (by show ((PyData.strOk ("split" : Str)) && (true && true)) = true; rw [strOk_s]; rfl)
theorem eqv_dearD : PyData.eqv dearD dearD = true := eqv_refl _ (by show ((PyData.strOk ("dear" : Str)) && true) = true; rw [strOk_dear]; rfl)
/-- a told tree of bounds at a stand -/
def ToldB (m : Nat) (ts : List Tie) (ps : List Int) (p : Int) (R : Nat → Nat → Prop) (y n : Nat) (H : Hp) (v : V) : Prop := ∃ (f : Nat) (t : WT), t.toD = toldD ts (allT ts) m (dearLeaf ps p) f y n ∧ t.strs ∧ Dn H t.toD v ∧ (openL m y n).length ≤ f ∧ f ≤ 9 ∧ R y n ∧ Stand m y n
def spToldB : Sp := fun vs H Q _ => ∃ (wd lp : Addr) (m : Nat) (ts : List Tie) (ps : List Int) (p : Int) (v : V), vs = [.ref wd, .ref lp, .int p, v] ∧ WoodT H wd m ts ∧ 1 ≤ m ∧ m ≤ 9 ∧ H lp = some (.lst (ps.map V.int)) ∧ ps.length = m ∧ Dn H (toldD ts (allT ts) m (dearLeaf ps p) 9 1 0) v ∧ EndsR ts (allT ts) m (dearLeaf ps p) 1 0 ∧ ∀ H', Same H H' → Q (.bl true) H'
theorem wait_len {m : Nat} : ∀ S : List (Nat × Nat), S.length ≤ wait m S
  | [] => Nat.zero_le _
  | e :: r => by
    have := wait_len (m := m) r
    have h := Nat.pow_pos (n := (openL m e.1 e.2).length) (by decide : 0 < 3)
    unfold wait at this ⊢
    rw [List.map_cons, List.sum_cons, List.length_cons]
    omega
theorem EntL.len {C : Nat → Nat → Hp → V → Prop} {H : Hp} : ∀ {xs : List V} {S : List (Nat × Nat)}, EntL C H xs S → xs.length = S.length
  | [], [], _ => rfl
  | x :: r, e :: q, ⟨_, h⟩ => congrArg Nat.succ (EntL.len h)
theorem EntL.top {C : Nat → Nat → Hp → V → Prop} {H : Hp} {xs : List V} {e : Nat × Nat} {S : List (Nat × Nat)} (h : EntL C H xs (e :: S)) : ∃ x r, xs = x :: r ∧ Ent C H x e ∧ EntL C H r S := by
  cases xs with
  | nil => exact h.elim
  | cons x r => exact ⟨x, r, rfl, h.1, h.2⟩
theorem EntL.nil {C : Nat → Nat → Hp → V → Prop} {H : Hp} {xs : List V} (h : EntL C H xs []) : xs = [] := by
  cases xs with
  | nil => rfl
  | cons x r => exact h.elim
theorem line20 {n : Nat} (h : n ≤ 20000) : n < sizeLine := Nat.lt_of_le_of_lt h (by decide)
theorem ToldB.to {m : Nat} {ts : List Tie} {ps : List Int} {p : Int} {R : Nat → Nat → Prop} {H H' : Hp} (t : TupS H H') (y n : Nat) (v : V) (h : ToldB m ts ps p R y n H v) : ToldB m ts ps p R y n H' v := by
  obtain ⟨f, w, e, st, dn, r⟩ := h
  exact ⟨f, w, e, st, WT.tupA t st dn, r⟩
theorem none_flat (m : Nat) (ts : List Tie) : flatD 12 (noneD m ts) = true := by
  have h := wt_flat (casesF ts (allT ts) m 9 1 0).toW 10 (toW_wares _) (by rw [toW_depth]; have := casesF_depth (ts := ts) (il := allT ts) (m := m) 9 1 0; omega)
  rw [toW_D] at h
  show (decide (2 ≤ 1000) && List.all [PyData.str ("none" : Str), (casesF ts (allT ts) m 9 1 0).toD] (flatD 11)) = true
  simp [flatD, show PyData.strOk ("none" : Str) = true by decide +kernel, h]
theorem shaped_none (m : Nat) (ts : List Tie) : SeqAt.shaped (noneD m ts) = true := shaped_tup (n := 11) (by decide) (by
  have h := none_flat m ts
  simp only [noneD, flatD, Bool.and_eq_true] at h
  exact h.2)
theorem eqv_none (m : Nat) (ts : List Tie) : PyData.eqv (noneD m ts) (noneD m ts) = true := eqv_refl _ (flat_lay 12 _ (none_flat m ts)).1
end Wd

set_option maxRecDepth 100000
set_option maxHeartbeats 4000000
namespace Ow
open PySem L2 Wd
def top (i : Nat) : Stmt := PySem.Challenge.pw_optionwood_k60_the_best_buy.main.body.getD i (.Pass ⟨0, 0, 0, 0⟩)
abbrev s_has : Stmt := top 1
abbrev s_options_of : Stmt := top 2
abbrev s_with_option : Stmt := top 3
abbrev s_open_options : Stmt := top 4
abbrev s_many_ties : Stmt := top 6
abbrev s_tie_at : Stmt := top 7
abbrev s_keeps : Stmt := top 9
abbrev s_keeps_bough : Stmt := top 10
abbrev s_count_in : Stmt := top 11
abbrev s_every_tie : Stmt := top 12
abbrev s_first_broken : Stmt := top 13
abbrev s_is_ware : Stmt := top 14
abbrev s_sure_broken : Stmt := top 15
abbrev s_least_sum : Stmt := top 16
abbrev s_sure_broken_bough : Stmt := top 17
abbrev s_first_sure_broken : Stmt := top 18
abbrev s_cases : Stmt := top 20
abbrev s_cases_of : Stmt := top 21
abbrev s_ware_leaf : Stmt := top 22
abbrev s_are_cases : Stmt := top 23
abbrev s_is_ware_leaf : Stmt := top 24
abbrev s_told_tree : Stmt := top 25
abbrev s_is_tree : Stmt := top 26
abbrev s_is_broken_leaf : Stmt := top 27
abbrev s_wares_in : Stmt := top 28
abbrev s_wares : Stmt := top 30
abbrev s_price_of : Stmt := top 32
abbrev s_best : Stmt := top 33
abbrev s_are_bounds : Stmt := top 34
abbrev s_is_dear : Stmt := top 35
abbrev s_dear_leaf : Stmt := top 36
abbrev s_is_bound_leaf : Stmt := top 37
abbrev s_law_take : Stmt := top 39
abbrev s_law_bough : Stmt := top 40
abbrev s_law_boughs : Stmt := top 41
abbrev s_law_most : Stmt := top 42
abbrev s_law_cross : Stmt := top 43
abbrev s_law_wood : Stmt := top 44
abbrev s_law_has : Stmt := top 45
abbrev s_law_prices : Stmt := top 46
abbrev s_law_price : Stmt := top 47
abbrev s_law_whole : Stmt := top 48
abbrev s_law_first_sure : Stmt := top 49
abbrev s_law_told_bounds : Stmt := top 50
abbrev s_law_first_best : Stmt := top 51
abbrev s_law : Stmt := top 52
set_option genInjectivity false
set_option genSizeOfSpec false
set_option genSizeOf false
structure Adr where
  (f_has f_options_of f_with_option f_open_options f_many_ties f_tie_at f_keeps f_keeps_bough f_count_in f_every_tie f_first_broken f_is_ware f_sure_broken f_least_sum f_sure_broken_bough f_first_sure_broken f_cases f_cases_of f_ware_leaf f_are_cases f_is_ware_leaf f_told_tree f_is_tree f_is_broken_leaf f_wares_in f_wares f_price_of f_best f_are_bounds f_is_dear f_dear_leaf f_is_bound_leaf f_law_take f_law_bough f_law_boughs f_law_most f_law_cross f_law_wood f_law_has f_law_prices f_law_price f_law_whole f_law_first_sure f_law_told_bounds f_law_first_best f_law : Addr)
  (c_cases_of t_cases_of c_are_cases t_are_cases c_best t_best c_are_bounds t_are_bounds : Addr)
structure Fds where
  (f_has f_options_of f_with_option f_open_options f_many_ties f_tie_at f_keeps f_keeps_bough f_count_in f_every_tie f_first_broken f_is_ware f_sure_broken f_least_sum f_sure_broken_bough f_first_sure_broken f_cases f_cases_of f_ware_leaf f_are_cases f_is_ware_leaf f_told_tree f_is_tree f_is_broken_leaf f_wares_in f_wares f_price_of f_best f_are_bounds f_is_dear f_dear_leaf f_is_bound_leaf f_law_take f_law_bough f_law_boughs f_law_most f_law_cross f_law_wood f_law_has f_law_prices f_law_price f_law_whole f_law_first_sure f_law_told_bounds f_law_first_best f_law : FuncData)
structure Txt (K : PySem.W.Frag) (mg : Str → Option Value) (a : Adr) (d : Fds) : Prop where
  m_range : mg "range" = none
  m_len : mg "len" = none
  m_isinstance : mg "isinstance" = none
  m_min : mg "min" = none
  m_int : mg "int" = none
  m_bool : mg "bool" = none
  m_list : mg "list" = none
  m_tuple : mg "tuple" = none
  m_sorted : mg "sorted" = none
  m_enumerate : mg "enumerate" = none
  m_sum : mg "sum" = none
  K_has : Df K mg "has" s_has a.f_has d.f_has ["some", "k"]
  K_options_of : Df K mg "options_of" s_options_of a.f_options_of d.f_options_of ["some"]
  K_with_option : Df K mg "with_option" s_with_option a.f_with_option d.f_with_option ["some", "k"]
  K_open_options : Df K mg "open_options" s_open_options a.f_open_options d.f_open_options ["many", "yes", "no"]
  K_many_ties : Df K mg "many_ties" s_many_ties a.f_many_ties d.f_many_ties ["wood"]
  K_tie_at : Df K mg "tie_at" s_tie_at a.f_tie_at d.f_tie_at ["wood", "t"]
  K_keeps : Df K mg "keeps" s_keeps a.f_keeps d.f_keeps ["tie", "some"]
  K_keeps_bough : Df K mg "keeps_bough" s_keeps_bough a.f_keeps_bough d.f_keeps_bough ["bough", "some"]
  K_count_in : Df K mg "count_in" s_count_in a.f_count_in d.f_count_in ["kids", "some"]
  K_every_tie : Df K mg "every_tie" s_every_tie a.f_every_tie d.f_every_tie ["wood"]
  K_first_broken : Df K mg "first_broken" s_first_broken a.f_first_broken d.f_first_broken ["wood", "some"]
  K_is_ware : Df K mg "is_ware" s_is_ware a.f_is_ware d.f_is_ware ["wood", "some"]
  K_sure_broken : Df K mg "sure_broken" s_sure_broken a.f_sure_broken d.f_sure_broken ["tie", "yes", "no"]
  K_least_sum : Df K mg "least_sum" s_least_sum a.f_least_sum d.f_least_sum ["pairs", "yes", "no"]
  K_sure_broken_bough : Df K mg "sure_broken_bough" s_sure_broken_bough a.f_sure_broken_bough d.f_sure_broken_bough ["bough", "yes", "no"]
  K_first_sure_broken : Df K mg "first_sure_broken" s_first_sure_broken a.f_first_sure_broken d.f_first_sure_broken ["wood", "ties", "yes", "no"]
  K_cases : Df K mg "cases" s_cases a.f_cases d.f_cases ["wood", "yes", "no"]
  K_cases_of : Df K mg "cases_of" s_cases_of a.f_cases_of d.f_cases_of ["wood", "ties", "yes", "no"]
  K_ware_leaf : Df K mg "ware_leaf" s_ware_leaf a.f_ware_leaf d.f_ware_leaf ["wood", "yes", "no"]
  K_are_cases : Df K mg "are_cases" s_are_cases a.f_are_cases d.f_are_cases ["wood", "yes", "no", "tree"]
  K_is_ware_leaf : Df K mg "is_ware_leaf" s_is_ware_leaf a.f_is_ware_leaf d.f_is_ware_leaf ["wood", "word", "yes", "no"]
  K_told_tree : Df K mg "told_tree" s_told_tree a.f_told_tree d.f_told_tree ["wood", "ties", "yes", "no", "leaf_at"]
  K_is_tree : Df K mg "is_tree" s_is_tree a.f_is_tree d.f_is_tree ["wood", "yes", "no", "tree", "is_leaf"]
  K_is_broken_leaf : Df K mg "is_broken_leaf" s_is_broken_leaf a.f_is_broken_leaf d.f_is_broken_leaf ["wood", "yes", "no", "t"]
  K_wares_in : Df K mg "wares_in" s_wares_in a.f_wares_in d.f_wares_in ["yes", "tree"]
  K_wares : Df K mg "wares" s_wares a.f_wares d.f_wares ["wood"]
  K_price_of : Df K mg "price_of" s_price_of a.f_price_of d.f_price_of ["prices", "some"]
  K_best : Df K mg "best" s_best a.f_best d.f_best ["wood", "prices"]
  K_are_bounds : Df K mg "are_bounds" s_are_bounds a.f_are_bounds d.f_are_bounds ["wood", "prices", "price", "tree"]
  K_is_dear : Df K mg "is_dear" s_is_dear a.f_is_dear d.f_is_dear ["prices", "price", "yes", "no"]
  K_dear_leaf : Df K mg "dear_leaf" s_dear_leaf a.f_dear_leaf d.f_dear_leaf ["prices", "price", "yes", "no"]
  K_is_bound_leaf : Df K mg "is_bound_leaf" s_is_bound_leaf a.f_is_bound_leaf d.f_is_bound_leaf ["wood", "prices", "price", "word", "yes", "no"]
  K_law_take : Df K mg "_law_take" s_law_take a.f_law_take d.f_law_take ["_law_state", "_law_most_here"]
  K_law_bough : Df K mg "_law_bough" s_law_bough a.f_law_bough d.f_law_bough ["_law_state", "_law_up", "_law_kids"]
  K_law_boughs : Df K mg "_law_boughs" s_law_boughs a.f_law_boughs d.f_law_boughs ["_law_state", "_law_many"]
  K_law_most : Df K mg "_law_most" s_law_most a.f_law_most d.f_law_most ["_law_state", "_law_many"]
  K_law_cross : Df K mg "_law_cross" s_law_cross a.f_law_cross d.f_law_cross ["_law_state", "_law_many"]
  K_law_wood : Df K mg "_law_wood" s_law_wood a.f_law_wood d.f_law_wood ["_law_state"]
  K_law_has : Df K mg "_law_has" s_law_has a.f_law_has d.f_law_has ["_law_some", "_law_k"]
  K_law_prices : Df K mg "_law_prices" s_law_prices a.f_law_prices d.f_law_prices ["_law_state", "_law_many"]
  K_law_price : Df K mg "_law_price" s_law_price a.f_law_price d.f_law_price ["_law_prices_here", "_law_some"]
  K_law_whole : Df K mg "_law_whole" s_law_whole a.f_law_whole d.f_law_whole ["_law_found"]
  K_law_first_sure : Df K mg "_law_first_sure" s_law_first_sure a.f_law_first_sure d.f_law_first_sure ["_law_wood_here", "_law_yes", "_law_no"]
  K_law_told_bounds : Df K mg "_law_told_bounds" s_law_told_bounds a.f_law_told_bounds d.f_law_told_bounds ["_law_wood_here", "_law_prices_here", "_law_price_here", "_law_tree"]
  K_law_first_best : Df K mg "_law_first_best" s_law_first_best a.f_law_first_best d.f_law_first_best ["_law_some", "_law_prices_here"]
  K_law : Df K mg "law" s_law a.f_law d.f_law ["_law_script"]
  code_cases_of : d.f_cases_of.code = .ref a.c_cases_of
  code_are_cases : d.f_are_cases.code = .ref a.c_are_cases
  code_best : d.f_best.code = .ref a.c_best
  code_are_bounds : d.f_are_bounds.code = .ref a.c_are_bounds
theorem sc_has : FnScope ["some", "k"] ["some", "k"] (defScope s_has) := scm rfl rfl rfl rfl (by decide +kernel)
theorem sc_options_of : FnScope ["some"] ["some"] (defScope s_options_of) := scm rfl rfl rfl rfl (by decide +kernel)
theorem sc_with_option : FnScope ["some", "k"] ["some", "k"] (defScope s_with_option) := scm rfl rfl rfl rfl (by decide +kernel)
theorem sc_open_options : FnScope ["many", "yes", "no"] ["many", "yes", "no"] (defScope s_open_options) := scm rfl rfl rfl rfl (by decide +kernel)
theorem sc_many_ties : FnScope ["wood"] ["wood"] (defScope s_many_ties) := scm rfl rfl rfl rfl (by decide +kernel)
theorem sc_tie_at : FnScope ["wood", "t", "boughs"] ["wood", "t"] (defScope s_tie_at) := scm rfl rfl rfl rfl (by decide +kernel)
theorem sc_keeps : FnScope ["tie", "some"] ["tie", "some"] (defScope s_keeps) := scm rfl rfl rfl rfl (by decide +kernel)
theorem sc_keeps_bough : FnScope ["bough", "some", "count"] ["bough", "some"] (defScope s_keeps_bough) := scm rfl rfl rfl rfl (by decide +kernel)
theorem sc_count_in : FnScope ["kids", "some"] ["kids", "some"] (defScope s_count_in) := scm rfl rfl rfl rfl (by decide +kernel)
theorem sc_every_tie : FnScope ["wood"] ["wood"] (defScope s_every_tie) := scm rfl rfl rfl rfl (by decide +kernel)
theorem sc_first_broken : FnScope ["wood", "some", "t"] ["wood", "some"] (defScope s_first_broken) := scm rfl rfl rfl rfl (by decide +kernel)
theorem sc_is_ware : FnScope ["wood", "some"] ["wood", "some"] (defScope s_is_ware) := scm rfl rfl rfl rfl (by decide +kernel)
theorem sc_sure_broken : FnScope ["tie", "yes", "no"] ["tie", "yes", "no"] (defScope s_sure_broken) := scm rfl rfl rfl rfl (by decide +kernel)
theorem sc_least_sum : FnScope ["pairs", "yes", "no"] ["pairs", "yes", "no"] (defScope s_least_sum) := scm rfl rfl rfl rfl (by decide +kernel)
theorem sc_sure_broken_bough : FnScope ["bough", "yes", "no", "least", "greatest", "some_with_up", "some_without_up"] ["bough", "yes", "no"] (defScope s_sure_broken_bough) := scm rfl rfl rfl rfl (by decide +kernel)
theorem sc_first_sure_broken : FnScope ["wood", "ties", "yes", "no", "t"] ["wood", "ties", "yes", "no"] (defScope s_first_sure_broken) := scm rfl rfl rfl rfl (by decide +kernel)
theorem sc_cases : FnScope ["wood", "yes", "no"] ["wood", "yes", "no"] (defScope s_cases) := scm rfl rfl rfl rfl (by decide +kernel)
theorem sc_cases_of : FnScope ["wood", "ties", "yes", "no"] ["wood", "ties", "yes", "no"] (defScope s_cases_of) := scm rfl rfl rfl rfl (by decide +kernel)
theorem sc_ware_leaf : FnScope ["wood", "yes", "no"] ["wood", "yes", "no"] (defScope s_ware_leaf) := scm rfl rfl rfl rfl (by decide +kernel)
theorem sc_are_cases : FnScope ["wood", "yes", "no", "tree"] ["wood", "yes", "no", "tree"] (defScope s_are_cases) := scm rfl rfl rfl rfl (by decide +kernel)
theorem sc_is_ware_leaf : FnScope ["wood", "word", "yes", "no"] ["wood", "word", "yes", "no"] (defScope s_is_ware_leaf) := scm rfl rfl rfl rfl (by decide +kernel)
theorem sc_told_tree : FnScope ["wood", "ties", "yes", "no", "leaf_at", "broken", "leaf", "k", "one", "other"] ["wood", "ties", "yes", "no", "leaf_at"] (defScope s_told_tree) := scm rfl rfl rfl rfl (by decide +kernel)
theorem sc_is_tree : FnScope ["wood", "yes", "no", "tree", "is_leaf", "k"] ["wood", "yes", "no", "tree", "is_leaf"] (defScope s_is_tree) := scm rfl rfl rfl rfl (by decide +kernel)
theorem sc_is_broken_leaf : FnScope ["wood", "yes", "no", "t"] ["wood", "yes", "no", "t"] (defScope s_is_broken_leaf) := scm rfl rfl rfl rfl (by decide +kernel)
theorem sc_wares_in : FnScope ["yes", "tree"] ["yes", "tree"] (defScope s_wares_in) := scm rfl rfl rfl rfl (by decide +kernel)
theorem sc_wares : FnScope ["wood", "root"] ["wood"] (defScope s_wares) := scm rfl rfl rfl rfl (by decide +kernel)
theorem sc_price_of : FnScope ["prices", "some"] ["prices", "some"] (defScope s_price_of) := scm rfl rfl rfl rfl (by decide +kernel)
theorem sc_best : FnScope ["wood", "prices", "root", "sold", "ware", "price", "tree"] ["wood", "prices"] (defScope s_best) := scm rfl rfl rfl rfl (by decide +kernel)
theorem sc_are_bounds : FnScope ["wood", "prices", "price", "tree", "root"] ["wood", "prices", "price", "tree"] (defScope s_are_bounds) := scm rfl rfl rfl rfl (by decide +kernel)
theorem sc_is_dear : FnScope ["prices", "price", "yes", "no"] ["prices", "price", "yes", "no"] (defScope s_is_dear) := scm rfl rfl rfl rfl (by decide +kernel)
theorem sc_dear_leaf : FnScope ["prices", "price", "yes", "no"] ["prices", "price", "yes", "no"] (defScope s_dear_leaf) := scm rfl rfl rfl rfl (by decide +kernel)
theorem sc_is_bound_leaf : FnScope ["wood", "prices", "price", "word", "yes", "no"] ["wood", "prices", "price", "word", "yes", "no"] (defScope s_is_bound_leaf) := scm rfl rfl rfl rfl (by decide +kernel)
theorem sc_law_take : FnScope ["_law_state", "_law_most_here", "_law_at", "_law_script", "_law_mingled"] ["_law_state", "_law_most_here"] (defScope s_law_take) := scm rfl rfl rfl rfl (by decide +kernel)
theorem sc_law_bough : FnScope ["_law_state", "_law_up", "_law_kids", "_law_size", "_law_way", "_law_high"] ["_law_state", "_law_up", "_law_kids"] (defScope s_law_bough) := scm rfl rfl rfl rfl (by decide +kernel)
theorem sc_law_boughs : FnScope ["_law_state", "_law_many", "_law_groups", "_law_k", "_law_up", "_law_mates"] ["_law_state", "_law_many"] (defScope s_law_boughs) := scm rfl rfl rfl rfl (by decide +kernel)
theorem sc_law_most : FnScope ["_law_state", "_law_many", "_law_far", "_law_pairs", "_law_k"] ["_law_state", "_law_many"] (defScope s_law_most) := scm rfl rfl rfl rfl (by decide +kernel)
theorem sc_law_cross : FnScope ["_law_state", "_law_many", "_law_one", "_law_other"] ["_law_state", "_law_many"] (defScope s_law_cross) := scm rfl rfl rfl rfl (by decide +kernel)
theorem sc_law_wood : FnScope ["_law_state", "_law_many", "_law_boughs_here", "_law_count"] ["_law_state"] (defScope s_law_wood) := scm rfl rfl rfl rfl (by decide +kernel)
theorem sc_law_has : FnScope ["_law_some", "_law_k"] ["_law_some", "_law_k"] (defScope s_law_has) := scm rfl rfl rfl rfl (by decide +kernel)
theorem sc_law_prices : FnScope ["_law_state", "_law_many", "_law_far", "_law_prices_here"] ["_law_state", "_law_many"] (defScope s_law_prices) := scm rfl rfl rfl rfl (by decide +kernel)
theorem sc_law_price : FnScope ["_law_prices_here", "_law_some"] ["_law_prices_here", "_law_some"] (defScope s_law_price) := scm rfl rfl rfl rfl (by decide +kernel)
theorem sc_law_whole : FnScope ["_law_found"] ["_law_found"] (defScope s_law_whole) := scm rfl rfl rfl rfl (by decide +kernel)
theorem sc_law_first_sure : FnScope ["_law_wood_here", "_law_yes", "_law_no", "_law_ties", "_law_some"] ["_law_wood_here", "_law_yes", "_law_no"] (defScope s_law_first_sure) := scm rfl rfl rfl rfl (by decide +kernel)
theorem sc_law_told_bounds : FnScope ["_law_wood_here", "_law_prices_here", "_law_price_here", "_law_tree", "_law_waiting", "_law_yes", "_law_no", "_law_node", "_law_t", "_law_free", "_law_lower"] ["_law_wood_here", "_law_prices_here", "_law_price_here", "_law_tree"] (defScope s_law_told_bounds) := scm rfl rfl rfl rfl (by decide +kernel)
theorem sc_law_first_best : FnScope ["_law_some", "_law_prices_here", "_law_found", "_law_ware"] ["_law_some", "_law_prices_here"] (defScope s_law_first_best) := scm rfl rfl rfl rfl (by decide +kernel)
theorem sc_law : FnScope ["_law_script", "_law_state", "_law_wood_here", "_law_prices_here", "_law_handed", "_law_some", "_law_found", "_law_ware"] ["_law_script"] (defScope s_law) := scm rfl rfl rfl rfl (by decide +kernel)
end Ow

namespace Ow
open PySem L2 Wd
section
variable {P : Program} {w : World} {K : PySem.W.Frag} {mg : Str → Option Value} {base : Heap} {a : Adr} {d : Fds}
def spHas : Sp := fun vs H Q _ => ∃ n k : Int, vs = [.int n, .int k] ∧ Q (.bl (hasV n k)) H
theorem ok_has (T : Txt K mg a d) : FnOk P w K mg base CX0 1 a.f_has d.f_has ["some", "k"] spHas := by
  refine T.K_has.ok sc_has (fun vs H Q E h => ?_) (fun cdv A outer s H vs Q E hr h => ?_)
  · obtain ⟨n, k, rfl, _⟩ := h
    rfl
  obtain ⟨n, k, rfl, q⟩ := h
  refine ⟨_, (pss_one (ps_ret (pe_and (pe_cmpR op_ge (pv 1) pe_int (nomark _)) (pe_one (pe_cmpR op_eq (pe_op op_and (pe_op op_shr (pv 0) (pv 1)) pe_int) pe_int (nomark _)))))), ?_⟩
  refine ⟨_, rfl, _, _, rfl, rfl, _, rfl, ?_⟩
  refine ite2 (fun c => ?_) (fun c => ?_)
  · have hk : (0 : Int) ≤ k := of_decide_eq_true c
    refine ⟨_, rfl, _, rfl, _, _, rfl, rfl, hk, _, _, rfl, rfl, rfl, ?_⟩
    have e : decide (V.int (Builtin.bitAnd (n / 2 ^ k.toNat) 1) = V.int 1) = hasV n k := by
      unfold hasV
      rw [decide_eq_true hk, Bool.true_and, dec_int, bitI]
      by_cases z : n / 2 ^ k.toNat % 2 = 1
      · rw [decide_eq_true z]
        simpa using z
      · rw [decide_eq_false z]
        simpa using z
    show Q (.bl (decide (V.int (Builtin.bitAnd (n / 2 ^ k.toNat) 1) = V.int 1))) H
    rw [e]
    exact q
  · have hk : ¬ (0 : Int) ≤ k := of_decide_eq_false (Bool.eq_false_iff.mpr c)
    have e : hasV n k = false := by
      unfold hasV
      rw [decide_eq_false hk, Bool.false_and]
    rw [e] at q
    exact q

end
section
variable {P : Program} {w : World} {K : PySem.W.Frag} {mg : Str → Option Value} {base : Heap} {a : Adr} {d : Fds}
theorem ok_options_of (T : Txt K mg a d) : FnOk P w K mg base CX0 2 a.f_options_of d.f_options_of ["some"] spBitsOf := by
  have G_has := ok_has (P := P) (w := w) (base := base) T
  refine T.K_options_of.ok sc_options_of (fun vs H Q E h => ?_) (fun cdv A outer s H vs Q E hr h => ?_)
  · obtain ⟨n, rfl, _⟩ := h
    rfl
  obtain ⟨n, rfl, n9, q⟩ := h
  have p62 : (2 : Int) ^ 62 = 4611686018427387904 := by decide
  have b9 := bits_le9 n9
  refine ⟨_, (pss_one (ps_ret (pe_lc (sc0 := defScope s_options_of) (XN := ["some"]) (N' := ["k", "some"]) (n := 1) (kp := [0]) rfl (pi_range1 rfl T.m_range (pa_cons (pe_bm0K (K := K) PySem.F.plainAttrs_int PySem.F.slot_int_bit_length PySem.F.type_int_bit_length mt_bits (pv 0)) pa_nil)) rfl rfl (by decide +kernel) (fun _ _ _ _ _ => (pg_name (i := 0) (by show List.Nodup (["k", "some"] : List Str); decide +kernel) rfl (Or.inl rfl))) (fun _ _ _ _ _ => (pts_one (pt_val (pe_callD G_has hr.lv rfl T.K_has (pa_cons (pv 1) (pa_cons (pv 0) pa_nil)))))) (fun _ _ _ _ _ => (pv 0))))), ?_⟩
  refine ⟨_, rfl, rfl, _, rfl, rfl, _, rfl, by rw [p62]; omega, by rw [p62]; omega, ?_⟩
  rw [Int.toNat_natCast]
  refine lc_range0 (k := Builtin.Int.intBits (n : Int)) (fun i zs σ H2 => (∃ v, σ = [v, some (.int (n : Int))]) ∧ H2 = H ∧ zs = natsL ((List.range i).filter fun k => n.testBit k)) ⟨⟨none, rfl⟩, rfl, rfl⟩ (fun i zs σ H2 hi pv => ?_) (fun i zs σ H2 hi pv => ?_) (fun zs σ H2 pv l hl => ?_)
  · obtain ⟨_, _, rfl⟩ := pv
    rw [List.length_map]
    refine small (Nat.le_trans (List.length_filter_le _ _) ?_)
    rw [List.length_range]
    omega
  · obtain ⟨⟨v, rfl⟩, rfl, rfl⟩ := pv
    have er : ∀ z, n.testBit i = z → (List.range (i + 1)).filter (fun k => n.testBit k) = (List.range i).filter (fun k => n.testBit k) ++ (if z = true then [i] else []) := fun z hz => by
      rw [List.range_succ, List.filter_append]
      congr 1
      cases z
      · rw [List.filter_cons_of_neg (by rw [hz]; exact Bool.false_ne_true)]; rfl
      · rw [List.filter_cons_of_pos (by exact hz)]; rfl
    refine ⟨_, rfl, _, rfl, _, _, rfl, _, rfl, ?_⟩
    rw [hasV_nat]
    refine ite2 (fun c => ?_) (fun c => ?_)
    · refine ⟨_, rfl, ⟨_, rfl⟩, rfl, ?_⟩
      rw [er true c, if_pos rfl, natsL_app]
      rfl
    · refine ⟨⟨_, rfl⟩, rfl, ?_⟩
      rw [er false (Bool.eq_false_iff.mpr c), if_neg Bool.false_ne_true, List.append_nil]
  obtain ⟨_, rfl, rfl⟩ := pv
  exact q l _ (same_new hl _) hl upd_same

end
section
variable {P : Program} {w : World} {K : PySem.W.Frag} {mg : Str → Option Value} {base : Heap} {a : Adr} {d : Fds}
theorem ok_with_option (T : Txt K mg a d) : FnOk P w K mg base CX0 1 a.f_with_option d.f_with_option ["some", "k"] spWithO := by
  refine T.K_with_option.ok sc_with_option (fun vs H Q E h => ?_) (fun cdv A outer s H vs Q E hr h => ?_)
  · obtain ⟨n, k, rfl, _⟩ := h
    rfl
  obtain ⟨n, k, rfl, hk, q⟩ := h
  refine ⟨_, (pss_one (ps_ret (pe_op op_or (pv 0) (pe_op op_shl pe_int (pv 1))))), ?_⟩
  refine ⟨_, rfl, _, rfl, _, _, rfl, rfl, ⟨by omega, by omega, by decide⟩, _, _, rfl, rfl, ?_⟩
  have e : Builtin.bitOr (n : Int) (1 * 2 ^ ((k : Nat) : Int).toNat) = ((n ||| 2 ^ k : Nat) : Int) := by rw [shl1, lor_nat]
  show Q (.int (Builtin.bitOr (n : Int) (1 * 2 ^ ((k : Nat) : Int).toNat))) H
  rw [e]
  exact q

end
section
variable {P : Program} {w : World} {K : PySem.W.Frag} {mg : Str → Option Value} {base : Heap} {a : Adr} {d : Fds}
theorem ok_open_options (T : Txt K mg a d) : FnOk P w K mg base CX0 2 a.f_open_options d.f_open_options ["many", "yes", "no"] spOpen := by
  have G_has := ok_has (P := P) (w := w) (base := base) T
  refine T.K_open_options.ok sc_open_options (fun vs H Q E h => ?_) (fun cdv A outer s H vs Q E hr h => ?_)
  · obtain ⟨m, y, n, rfl, _⟩ := h
    rfl
  obtain ⟨m, y, n, rfl, m9, q⟩ := h
  have p62 : (2 : Int) ^ 62 = 4611686018427387904 := by decide
  refine ⟨_, (pss_one (ps_ret (pe_lc (sc0 := defScope s_open_options) (XN := ["many", "yes", "no"]) (N' := ["k", "yes", "no"]) (n := 1) (kp := [1, 2]) rfl (pi_range1 rfl T.m_range (pa_cons (pv 0) pa_nil)) rfl rfl (by decide +kernel) (fun _ _ _ _ _ => (pg_name (i := 0) (by show List.Nodup (["k", "yes", "no"] : List Str); decide +kernel) rfl (Or.inl rfl))) (fun _ _ _ _ _ => (pts_one (pt_not (pt_val (pe_callD G_has hr.lv rfl T.K_has (pa_cons (pe_op op_or (pv 1) (pv 2)) (pa_cons (pv 0) pa_nil))))))) (fun _ _ _ _ _ => (pv 0))))), ?_⟩
  refine ⟨_, rfl, _, rfl, by rw [p62]; omega, by rw [p62]; omega, ?_⟩
  rw [Int.toNat_natCast]
  refine lc_range0 (k := m) (fun i ys σ H2 => (∃ v, σ = [v, some (.int y), some (.int n)]) ∧ H2 = H ∧ i ≤ m ∧ ys = natsL ((List.range i).filter fun k => !(y ||| n).testBit k)) ⟨⟨none, rfl⟩, rfl, Nat.zero_le _, rfl⟩ (fun i ys σ H2 hi pv => ?_) (fun i ys σ H2 hi pv => ?_) (fun ys σ H2 pv fl hfl => ?_)
  · obtain ⟨_, _, h1, rfl⟩ := pv
    rw [List.length_map]
    refine small (Nat.le_trans (List.length_filter_le _ _) ?_)
    rw [List.length_range]
    omega
  · obtain ⟨⟨v0, rfl⟩, rfl, h1, rfl⟩ := pv
    refine ⟨_, rfl, _, rfl, _, _, rfl, rfl, _, rfl, _, _, rfl, _, rfl, ?_⟩
    have ee := filter_range_succ (fun k => !(y ||| n).testBit k) i
    rw [lor_nat, hasV_nat]
    refine ite2 (fun c2 => ?_) (fun c2 => ?_)
    · refine ⟨_, rfl, ⟨_, rfl⟩, rfl, hi, ?_⟩
      rw [ee, if_pos c2]
      show _ = List.map _ (_ ++ [i])
      rw [List.map_append]
      rfl
    · refine ⟨⟨_, rfl⟩, rfl, hi, ?_⟩
      rw [ee, if_neg c2, List.append_nil]
  obtain ⟨_, rfl, _, rfl⟩ := pv
  exact q fl _ (same_new hfl _) hfl upd_same

end
section
variable {P : Program} {w : World} {K : PySem.W.Frag} {mg : Str → Option Value} {base : Heap} {a : Adr} {d : Fds}
theorem ok_many_ties (T : Txt K mg a d) : FnOk P w K mg base CX0 1 a.f_many_ties d.f_many_ties ["wood"] spMany := by
  refine T.K_many_ties.ok sc_many_ties (fun vs H Q E h => ?_) (fun cdv A outer s H vs Q E hr h => ?_)
  · obtain ⟨wd, many, xs, ys, rfl, _⟩ := h
    rfl
  obtain ⟨wd, many, xs, ys, rfl, ⟨tb, tc, hw, hb, hc⟩, q⟩ := h
  refine ⟨_, (pss_one (ps_ret (pe_op op_add (pe_callB (lenS (K := K)) rfl T.m_len PySem.boot_len (pa_cons (pe_ix (ixT (K := K)) (pv 0) pe_int (fun _ _ => rfl)) pa_nil)) (pe_callB (lenS (K := K)) rfl T.m_len PySem.boot_len (pa_cons (pe_ix (ixT (K := K)) (pv 0) pe_int (fun _ _ => rfl)) pa_nil))))), ?_⟩
  exact ⟨_, rfl, wd, _, _, _, rfl, rfl, sqT hw, at1, tb, _, rfl, .inr (sqT hb), _, rfl, wd, _, _, _, rfl, rfl, sqT hw, at2, tc, _, rfl, .inr (sqT hc), _, _, rfl, rfl, q⟩

end
section
variable {P : Program} {w : World} {K : PySem.W.Frag} {mg : Str → Option Value} {base : Heap} {a : Adr} {d : Fds}
theorem ok_tie_at (T : Txt K mg a d) : FnOk P w K mg base CX0 1 a.f_tie_at d.f_tie_at ["wood", "t"] spTieAt := by
  refine T.K_tie_at.ok sc_tie_at (fun vs H Q E h => ?_) (fun cdv A outer s H vs Q E hr h => ?_)
  · obtain ⟨wd, many, xs, ys, t, v, rfl, _⟩ := h
    rfl
  obtain ⟨wd, many, xs, ys, t, v, rfl, ⟨tb, tc, hw, hb, hc⟩, hv, q⟩ := h
  refine ⟨_, (pss_cons (ps_set (i := 2) sc_tie_at.nd rfl (Or.inl rfl) (pe_ix (ixT (K := K)) (pv 0) pe_int (fun _ _ => rfl)))
      (pss_cons (ps_if (pt_cmpR op_lt (pv 1) (pe_callB (lenS (K := K)) rfl T.m_len PySem.boot_len (pa_cons (pv 2) pa_nil)) (nomark _)) (pss_one (ps_ret (pe_ix (ixT (K := K)) (pv 2) (pv 1) (fun _ _ => rfl)))) pss_nil)
      (pss_one (ps_ret (pe_ix (ixT (K := K)) (pe_ix (ixT (K := K)) (pv 0) pe_int (fun _ _ => rfl)) (pe_op op_sub (pv 1) (pe_callB (lenS (K := K)) rfl T.m_len PySem.boot_len (pa_cons (pv 2) pa_nil))) (fun _ _ => rfl)))))), ?_⟩
  refine ⟨_, rfl, wd, _, _, _, rfl, rfl, sqT hw, at1, ?_⟩
  refine ⟨_, rfl, _, rfl, tb, _, rfl, .inr (sqT hb), _, _, rfl, rfl, _, rfl, ?_⟩
  refine ite2 (fun c => ?_) (fun c => ?_)
  · have c' : (t : Int) < (xs.length : Nat) := of_decide_eq_true c
    rw [List.getElem?_append_left (by omega)] at hv
    exact ⟨_, rfl, _, rfl, tb, _, _, _, rfl, rfl, sqT hb, atI_nat hv, q⟩
  · have c' : ¬ (t : Int) < (xs.length : Nat) := of_decide_eq_false (Bool.eq_false_iff.mpr c)
    rw [List.getElem?_append_right (by omega)] at hv
    have e : ((t : Int) - ((xs.length : Nat) : Int)) = ((t - xs.length : Nat) : Int) := by omega
    refine ⟨_, rfl, wd, _, _, _, rfl, rfl, sqT hw, at2, _, rfl, _, rfl, tb, _, rfl, .inr (sqT hb), _, _, rfl, rfl, tc, _, _, _, rfl, rfl, sqT hc, ?_, q⟩
    show atI ys ((t : Int) - ((xs.length : Nat) : Int)) = some v
    rw [e]
    exact atI_nat hv

end
section
variable {P : Program} {w : World} {K : PySem.W.Frag} {mg : Str → Option Value} {base : Heap} {a : Adr} {d : Fds}
def spCount : Sp := fun vs H Q _ => ∃ (p : Addr) (ks : List Nat) (n : Nat), vs = [.ref p, .int n] ∧ H p = some (.tup (ks.map fun k : Nat => V.int (k : Int))) ∧ ks.length ≤ 1000 ∧ ∀ H', Same H H' → Q (.int (cnt ks n : Nat)) H'
theorem ok_count_in (T : Txt K mg a d) : FnOk P w K mg base CX0 2 a.f_count_in d.f_count_in ["kids", "some"] spCount := by
  have G_has := ok_has (P := P) (w := w) (base := base) T
  refine T.K_count_in.ok sc_count_in (fun vs H Q E h => ?_) (fun cdv A outer s H vs Q E hr h => ?_)
  · obtain ⟨p, ks, n, rfl, _⟩ := h
    rfl
  obtain ⟨p, ks, n, rfl, hp, hk, q⟩ := h
  refine ⟨_, (pss_one (ps_ret (pe_callB (lenS (K := K)) rfl T.m_len PySem.boot_len (pa_cons (pe_lc (sc0 := defScope s_count_in) (XN := ["kids", "some"]) (N' := ["k", "some"]) (n := 1) (kp := [1]) rfl (piT (K := K) (pv 0)) rfl rfl (by decide +kernel) (fun _ _ _ _ _ => (pg_name (i := 0) (by show List.Nodup (["k", "some"] : List Str); decide +kernel) rfl (Or.inl rfl))) (fun _ _ _ _ _ => (pts_one (pt_val (pe_callD G_has hr.lv rfl T.K_has (pa_cons (pv 1) (pa_cons (pv 0) pa_nil)))))) (fun _ _ _ _ _ => (pv 0))) pa_nil)))), ?_⟩
  refine ⟨_, rfl, p, rfl, ⟨_, sqT hp⟩, ?_⟩
  refine lc_tup (K := K) (a := p) (xs := ks.map fun k : Nat => V.int (k : Int)) (fun i ys σ H2 => (∃ v, σ = [v, some (.int n)]) ∧ H2 = H ∧ i ≤ ks.length ∧ ys = ((ks.take i).filter fun k => n.testBit k).map fun k : Nat => V.int (k : Int)) ⟨⟨none, rfl⟩, rfl, Nat.zero_le _, rfl⟩ (fun i ys σ H2 hi pv => ?_) (fun i ys σ H2 hi pv => ?_) (fun i x ys σ H2 hx pv => ?_) (fun ys σ H2 pv l hl => ?_)
  · obtain ⟨_, _, h1, rfl⟩ := pv
    rw [List.length_map]
    refine small (Nat.le_trans (List.length_filter_le _ _) ?_)
    rw [List.length_take]
    omega
  · rw [pv.2.1]
    exact sqT hp
  · obtain ⟨⟨v, rfl⟩, rfl, h1, rfl⟩ := pv
    rw [List.getElem?_map] at hx
    obtain ⟨k, hk', rfl⟩ := Option.map_eq_some_iff.mp hx
    have hj : i < ks.length := (List.getElem?_eq_some_iff.mp hk').1
    have ee := PySem.take_succ_filter (fun k => n.testBit k) ks i k hk'
    refine ⟨_, rfl, _, rfl, _, _, rfl, _, rfl, ?_⟩
    rw [hasV_nat]
    refine ite2 (fun c => ?_) (fun c => ?_)
    · refine ⟨_, rfl, ⟨_, rfl⟩, rfl, hj, ?_⟩
      rw [ee, if_pos c, List.map_append]
      rfl
    · refine ⟨⟨_, rfl⟩, rfl, hj, ?_⟩
      rw [ee, if_neg c, List.append_nil]
  · obtain ⟨_, rfl, _, rfl⟩ := pv
    have fin : ∀ L : List V, L.length = cnt ks n → ∀ H', Same H2 H' → Q (.int (L.length : Nat)) H' := fun L e H' sm => by
      rw [e]
      exact q H' sm
    exact ⟨l, _, rfl, .inl (SqL.of upd_same), fin _ (by simp [cnt]) _ (same_new hl _)⟩

end
section
variable {P : Program} {w : World} {K : PySem.W.Frag} {mg : Str → Option Value} {base : Heap} {a : Adr} {d : Fds}
def spKeepsB : Sp := fun vs H Q _ => ∃ (u : Nat) (lo hi : Int) (ks : List Nat) (n : Nat) (v : V), vs = [v, .int n] ∧ Dn H (Tie.bough u lo hi ks).toD v ∧ ks.length ≤ 1000 ∧ ∀ H', Same H H' → Q (.bl ((Tie.bough u lo hi ks).keep n)) H'
theorem ok_keeps_bough (T : Txt K mg a d) : FnOk P w K mg base CX0 3 a.f_keeps_bough d.f_keeps_bough ["bough", "some"] spKeepsB := by
  have G_has := ok_has (P := P) (w := w) (base := base) T
  have G_count_in := ok_count_in (P := P) (w := w) (base := base) T
  refine T.K_keeps_bough.ok sc_keeps_bough (fun vs H Q E h => ?_) (fun cdv A outer s H vs Q E hr h => ?_)
  · obtain ⟨u, lo, hi, ks, n, v, rfl, _⟩ := h
    rfl
  obtain ⟨u, lo, hi, ks, n, v, rfl, hd, hk, q⟩ := h
  obtain ⟨p, pk, rfl, hp, hpk⟩ := at_bough hd
  refine ⟨_, (pss_cons (ps_set (i := 2) sc_keeps_bough.nd rfl (Or.inl rfl) (pe_callD G_count_in hr.lv rfl T.K_count_in (pa_cons (pe_ix (ixT (K := K)) (pv 0) pe_int (fun _ _ => rfl)) (pa_cons (pv 1) pa_nil))))
      (pss_cons (ps_if (pt_val (pe_callD G_has hr.lv rfl T.K_has (pa_cons (pv 1) (pa_cons (pe_ix (ixT (K := K)) (pv 0) pe_int (fun _ _ => rfl)) pa_nil)))) (pss_one (ps_ret (pe_chain op_le op_le (pe_ix (ixT (K := K)) (pv 0) pe_int (fun _ _ => rfl)) (pv 2) (pe_ix (ixT (K := K)) (pv 0) pe_int (fun _ _ => rfl))))) pss_nil)
      (pss_one (ps_ret (pe_cmpR op_eq (pv 2) pe_int (nomark _)))))), ?_⟩
  refine ⟨_, rfl, p, _, _, _, rfl, rfl, sqT hp, at3, _, rfl, pk, ks, n, rfl, hpk, hk, fun H1 s1 => ?_⟩
  have hp1 := s1 _ _ hp
  have q1 := q H1 s1
  refine ⟨_, rfl, _, rfl, p, _, _, _, rfl, rfl, sqT hp1, at0, _, _, rfl, _, rfl, ?_⟩
  rw [hasV_nat]
  refine ite2 (fun c => ?_) (fun c => ?_)
  · rw [keep_up c] at q1
    refine ⟨_, rfl, p, _, _, _, rfl, rfl, sqT hp1, at1, _, rfl, _, _, rfl, rfl, _, rfl, ?_⟩
    refine ite2 (fun c2 => ?_) (fun c2 => ?_)
    · refine ⟨_, rfl, p, _, _, _, rfl, rfl, sqT hp1, at2, _, _, rfl, rfl, ?_⟩
      rw [c2, Bool.true_and] at q1
      exact q1
    · rw [Bool.eq_false_iff.mpr c2, Bool.false_and] at q1
      exact q1
  · rw [keep_no c] at q1
    refine ⟨_, rfl, rfl, ?_⟩
    have e : decide (V.int (cnt ks n : Nat) = V.int 0) = decide (cnt ks n = 0) := by
      rw [dec_int]
      by_cases z : cnt ks n = 0
      · rw [z]; rfl
      · rw [decide_eq_false z]
        simpa using z
    show Q (.bl (decide (V.int (cnt ks n : Nat) = V.int 0))) H1
    rw [e]
    exact q1

end
section
variable {P : Program} {w : World} {K : PySem.W.Frag} {mg : Str → Option Value} {base : Heap} {a : Adr} {d : Fds}
theorem ok_keeps (T : Txt K mg a d) : FnOk P w K mg base CX0 4 a.f_keeps d.f_keeps ["tie", "some"] spKeeps := by
  have G_has := ok_has (P := P) (w := w) (base := base) T
  have G_keeps_bough := ok_keeps_bough (P := P) (w := w) (base := base) T
  refine T.K_keeps.ok sc_keeps (fun vs H Q E h => ?_) (fun cdv A outer s H vs Q E hr h => ?_)
  · obtain ⟨t, m, n, v, rfl, _⟩ := h
    rfl
  obtain ⟨t, m, n, v, rfl, hd, ok, hm, q⟩ := h
  have q0 := q H (Same.refl H)
  refine ⟨_, (pss_cons (ps_if (pt_cmpR op_eq (pe_ix (ixT (K := K)) (pv 0) pe_int (fun _ _ => rfl)) pe_str (nomark _)) (pss_one (ps_ret (pe_or (pe_not (pe_callD G_has hr.lv rfl T.K_has (pa_cons (pv 1) (pa_cons (pe_ix (ixT (K := K)) (pv 0) pe_int (fun _ _ => rfl)) pa_nil)))) (pe_one (pe_callD G_has hr.lv rfl T.K_has (pa_cons (pv 1) (pa_cons (pe_ix (ixT (K := K)) (pv 0) pe_int (fun _ _ => rfl)) pa_nil))))))) pss_nil)
      (pss_cons (ps_if (pt_cmpR op_eq (pe_ix (ixT (K := K)) (pv 0) pe_int (fun _ _ => rfl)) pe_str (nomark _)) (pss_one (ps_ret (pe_or (pe_not (pe_callD G_has hr.lv rfl T.K_has (pa_cons (pv 1) (pa_cons (pe_ix (ixT (K := K)) (pv 0) pe_int (fun _ _ => rfl)) pa_nil)))) (pe_one (pe_not (pe_callD G_has hr.lv rfl T.K_has (pa_cons (pv 1) (pa_cons (pe_ix (ixT (K := K)) (pv 0) pe_int (fun _ _ => rfl)) pa_nil)))))))) pss_nil)
      (pss_cons (ps_if (pt_cmpR op_eq (pe_ix (ixT (K := K)) (pv 0) pe_int (fun _ _ => rfl)) pe_str (nomark _)) (pss_one (ps_ret (pe_cmpR op_le (pe_callB (call_sum_ints rfl) rfl T.m_sum PyProof.Rows.boot_sum (pa_cons (pe_lc (sc0 := defScope s_keeps) (XN := ["tie", "some"]) (N' := ["k", "number", "some"]) (n := 2) (kp := [1]) rfl (piT (K := K) (pe_ix (ixT (K := K)) (pv 0) pe_int (fun _ _ => rfl))) rfl rfl (by decide +kernel) (fun _ _ _ _ _ => (pgT (K := K) (n := 2) rfl (pgs_cons (pg_name (i := 0) (by show List.Nodup (["k", "number", "some"] : List Str); decide +kernel) rfl (Or.inl rfl)) (pgs_cons (pg_name (i := 1) (by show List.Nodup (["k", "number", "some"] : List Str); decide +kernel) rfl (Or.inl rfl)) pgs_nil)))) (fun _ _ _ _ _ => (pts_one (pt_val (pe_callD G_has hr.lv rfl T.K_has (pa_cons (pv 2) (pa_cons (pv 0) pa_nil)))))) (fun _ _ _ _ _ => (pv 1))) pa_nil)) (pe_ix (ixT (K := K)) (pv 0) pe_int (fun _ _ => rfl)) (nomark _)))) pss_nil)
      (pss_one (ps_ret (pe_callD G_keeps_bough hr.lv rfl T.K_keeps_bough (pa_cons (pv 0) (pa_cons (pv 1) pa_nil)))))))), ?_⟩
  cases t with
  | needs x y =>
    obtain ⟨p, rfl, hp⟩ := at_word hd
    refine ⟨_, rfl, p, _, _, _, rfl, rfl, sqT hp, at0, rfl, _, rfl, ?_⟩
    refine iteD rfl ?_
    refine ⟨_, rfl, _, rfl, p, _, _, _, rfl, rfl, sqT hp, at1, _, _, rfl, _, rfl, _, rfl, ?_⟩
    rw [hasV_nat]
    have q1 : Q (.bl (!n.testBit x || n.testBit y)) H := q0
    refine ite2 (fun c => ?_) (fun c => ?_)
    · rw [c, Bool.true_or] at q1
      exact q1
    · refine ⟨_, rfl, _, rfl, p, _, _, _, rfl, rfl, sqT hp, at2, _, _, rfl, ?_⟩
      rw [hasV_nat]
      rw [Bool.eq_false_iff.mpr c, Bool.false_or] at q1
      exact q1
  | bans x y =>
    obtain ⟨p, rfl, hp⟩ := at_word hd
    refine ⟨_, rfl, p, _, _, _, rfl, rfl, sqT hp, at0, rfl, _, rfl, ?_⟩
    refine iteDN bans_needs ?_
    refine ⟨_, rfl, p, _, _, _, rfl, rfl, sqT hp, at0, rfl, _, rfl, ?_⟩
    refine iteD rfl ?_
    refine ⟨_, rfl, _, rfl, p, _, _, _, rfl, rfl, sqT hp, at1, _, _, rfl, _, rfl, _, rfl, ?_⟩
    rw [hasV_nat]
    have q1 : Q (.bl (!n.testBit x || !n.testBit y)) H := q0
    refine ite2 (fun c => ?_) (fun c => ?_)
    · rw [c, Bool.true_or] at q1
      exact q1
    · refine ⟨_, rfl, _, rfl, p, _, _, _, rfl, rfl, sqT hp, at2, _, _, rfl, _, rfl, ?_⟩
      rw [hasV_nat]
      rw [Bool.eq_false_iff.mpr c, Bool.false_or] at q1
      exact q1
  | most top ps =>
    obtain ⟨p, pq, xs, rfl, hp, hq, hps⟩ := at_most hd
    have lx : xs.length = ps.length := by rw [← hps.length, List.length_map]
    have few : ps.length ≤ m := ok.2.2.2
    refine ⟨_, rfl, p, _, _, _, rfl, rfl, sqT hp, at0, rfl, _, rfl, ?_⟩
    refine iteDN most_needs ?_
    refine ⟨_, rfl, p, _, _, _, rfl, rfl, sqT hp, at0, rfl, _, rfl, ?_⟩
    refine iteDN most_bans ?_
    refine ⟨_, rfl, p, _, _, _, rfl, rfl, sqT hp, at0, rfl, _, rfl, ?_⟩
    refine iteD rfl ?_
    refine ⟨_, rfl, p, _, _, _, rfl, rfl, sqT hp, at2, pq, rfl, ⟨_, sqT hq⟩, ?_⟩
    refine lc_tup (K := K) (a := pq) (xs := xs) (fun i ys σ H2 => (∃ v v', σ = [v, v', some (.int n)]) ∧ H2 = H ∧ i ≤ ps.length ∧ ys = (((ps.take i).filter fun p => n.testBit p.1).map (·.2)).map V.int) ⟨⟨none, none, rfl⟩, rfl, Nat.zero_le _, rfl⟩ (fun i ys σ H2 hi pv => ?_) (fun i ys σ H2 hi pv => ?_) (fun i x ys σ H2 hx pv => ?_) (fun ys σ H2 pv l hl => ?_)
    · obtain ⟨_, _, h1, rfl⟩ := pv
      rw [List.length_map, List.length_map]
      refine small (Nat.le_trans (List.length_filter_le _ _) ?_)
      rw [List.length_take]
      omega
    · rw [pv.2.1]
      exact sqT hq
    · obtain ⟨⟨v, v', rfl⟩, rfl, h1, rfl⟩ := pv
      obtain ⟨pr, r, hpr, rfl, hr'⟩ := at_pair hps hx
      have hj : i < ps.length := (List.getElem?_eq_some_iff.mp hpr).1
      have ee := PySem.take_succ_filter (fun p : Nat × Int => n.testBit p.1) ps i pr hpr
      refine ⟨r, _, rfl, sqT hr', rfl, _, _, rfl, _, _, rfl, rfl, ?_⟩
      refine ⟨_, rfl, _, rfl, _, _, rfl, _, rfl, ?_⟩
      rw [hasV_nat]
      refine ite2 (fun c => ?_) (fun c => ?_)
      · refine ⟨_, rfl, ⟨_, _, rfl⟩, rfl, hj, ?_⟩
        rw [ee, if_pos c, List.map_append, List.map_append]
        rfl
      · refine ⟨⟨_, _, rfl⟩, rfl, hj, ?_⟩
        rw [ee, if_neg c, List.append_nil]
    · obtain ⟨_, rfl, _, rfl⟩ := pv
      have sm := same_new hl (.lst ((((ps.take xs.length).filter fun p => n.testBit p.1).map (·.2)).map V.int))
      refine ⟨l, _, rfl, SqL.of upd_same, _, rfl, p, _, _, _, rfl, rfl, sqT (sm _ _ hp), at1, _, _, rfl, rfl, ?_⟩
      have q1 := q _ sm
      have e : (Tie.most top ps).keep n = decide ((((ps.take xs.length).filter fun p => n.testBit p.1).map (·.2)).sum ≤ top) := by
        rw [lx, List.take_length]
        rfl
      rw [e] at q1
      exact q1
  | bough u lo hi ks =>
    obtain ⟨p, pk, e, hp, hpk⟩ := at_bough hd
    have ok' : Tie.BoughOkW m u lo hi ks := ok
    have few := ok'.few
    subst e
    refine ⟨_, rfl, p, _, _, _, rfl, rfl, sqT hp, at0, rfl, _, rfl, ?_⟩
    refine iteDN int_str ?_
    refine ⟨_, rfl, p, _, _, _, rfl, rfl, sqT hp, at0, rfl, _, rfl, ?_⟩
    refine iteDN int_str ?_
    refine ⟨_, rfl, p, _, _, _, rfl, rfl, sqT hp, at0, rfl, _, rfl, ?_⟩
    refine iteDN int_str ?_
    exact ⟨_, rfl, _, rfl, u, lo, hi, ks, n, _, rfl, hd, by omega, q⟩

end
section
variable {P : Program} {w : World} {K : PySem.W.Frag} {mg : Str → Option Value} {base : Heap} {a : Adr} {d : Fds}
theorem ok_every_tie (T : Txt K mg a d) : FnOk P w K mg base CX0 2 a.f_every_tie d.f_every_tie ["wood"] spEvery := by
  have G_many_ties := ok_many_ties (P := P) (w := w) (base := base) T
  refine T.K_every_tie.ok sc_every_tie (fun vs H Q E h => ?_) (fun cdv A outer s H vs Q E hr h => ?_)
  · obtain ⟨wd, m, ts, rfl, _⟩ := h
    rfl
  obtain ⟨wd, m, ts, rfl, W, q⟩ := h
  have p62 : (2 : Int) ^ 62 = 4611686018427387904 := by decide
  obtain ⟨xs, ys, WA, dn⟩ := W.ex
  have few := W.few
  have ln : ts.length = xs.length + ys.length := by
    have := dn.length
    rw [List.length_map, List.length_append] at this
    exact this
  refine ⟨_, (pss_one (ps_ret (pe_callTy (call_list_rng rfl) rfl T.m_list PyProof.Rows.boot_list (pa_cons (pe_callTy call_rng1 rfl T.m_range PyProof.Rows.boot_range (pa_cons (pe_callD G_many_ties hr.lv rfl T.K_many_ties (pa_cons (pv 0) pa_nil)) pa_nil)) pa_nil)))), ?_⟩
  refine ⟨_, rfl, wd, m, xs, ys, rfl, WA, _, rfl, fun rp hrp => ?_⟩
  refine ⟨rp, 0, _, rfl, upd_same, by rw [p62]; omega, by rw [p62]; omega, by rw [p62]; omega, by rw [p62]; omega, by omega, fun l hl => ?_⟩
  have e : ((List.range' 0 ((xs.length : Int) + (ys.length : Int) - 0).toNat).map fun i : Nat => V.int (0 + (i : Int))) = (List.range ts.length).map fun i : Nat => V.int (i : Int) := by
    have e1 : ((xs.length : Int) + (ys.length : Int) - 0).toNat = ts.length := by omega
    rw [e1, List.range_eq_range']
    simp
  rw [e]
  have s1 := (same_new hrp (.rng 0 ((xs.length : Int) + (ys.length : Int)))).trans (same_new hl (.lst ((List.range ts.length).map fun i : Nat => V.int (i : Int))))
  exact q l _ s1 ((same_new hrp (.rng 0 ((xs.length : Int) + (ys.length : Int)))).free hl) upd_same

end
section
variable {P : Program} {w : World} {K : PySem.W.Frag} {mg : Str → Option Value} {base : Heap} {a : Adr} {d : Fds}
theorem ok_first_broken (T : Txt K mg a d) : FnOk P w K mg base CX0 5 a.f_first_broken d.f_first_broken ["wood", "some"] spFirstB := by
  have G_every_tie := ok_every_tie (P := P) (w := w) (base := base) T
  have G_tie_at := ok_tie_at (P := P) (w := w) (base := base) T
  have G_keeps := ok_keeps (P := P) (w := w) (base := base) T
  refine T.K_first_broken.ok sc_first_broken (fun vs H Q E h => ?_) (fun cdv A outer s H vs Q E hr h => ?_)
  · obtain ⟨wd, m, ts, n, rfl, _⟩ := h
    rfl
  obtain ⟨wd, m, ts, n, rfl, W, q⟩ := h
  have m9 := W.m9
  refine ⟨_, (pss_cons (ps_for PassesOwn.never rfl (piL (K := K) (pe_callD G_every_tie hr.lv rfl T.K_every_tie (pa_cons (pv 0) pa_nil))) (pg_name (i := 2) sc_first_broken.nd rfl (Or.inl rfl)) (pss_one (ps_if (pt_not (pt_val (pe_callD G_keeps hr.lv rfl T.K_keeps (pa_cons (pe_callD G_tie_at hr.lv rfl T.K_tie_at (pa_cons (pv 0) (pa_cons (pv 2) pa_nil))) (pa_cons (pv 1) pa_nil))))) (pss_one (ps_ret (pv 2))) pss_nil)))
      (pss_one (ps_ret pe_non))), ?_⟩
  refine ⟨_, rfl, wd, m, ts, rfl, W, fun l H1 s1 n1 e1 => ?_⟩
  refine ⟨l, rfl, ⟨_, SqL.of e1⟩, ?_⟩
  refine for_list (K := K) (a := l) (xs := (List.range ts.length).map fun i : Nat => V.int (i : Int)) (fun i σ H2 => (∃ v, σ = [some (.ref wd), some (.int n), v]) ∧ Same H1 H2 ∧ ∀ j x, j < i → ts[j]? = some x → x.keep n = true) ⟨⟨_, rfl⟩, Same.refl _, fun j x hj => absurd hj (Nat.not_lt_zero j)⟩ (fun i σ H2 _ z => SqL.of (z.2.1 _ _ e1)) ?_ ?_
  · rintro i x σ H2 hx ⟨⟨v, rfl⟩, s2, hb⟩
    obtain ⟨hi, rfl⟩ := range_get hx
    have W2 := W.same (s1.trans s2)
    obtain ⟨xs, ys, WA, dn⟩ := W2.ex
    have ht : ts[i]? = some ts[i] := List.getElem?_eq_getElem hi
    obtain ⟨v2, hv2, hd⟩ := DnL.get' dn (i := i) (d := ts[i].toD) (by rw [List.getElem?_map, ht]; rfl)
    refine ⟨_, rfl, _, rfl, wd, m, xs, ys, i, v2, rfl, WA, hv2, ?_⟩
    refine ⟨_, rfl, ts[i], m, n, v2, rfl, hd, W.ok _ (List.getElem_mem hi), by omega, fun H3 s3 => ?_⟩
    refine ⟨_, rfl, ?_⟩
    refine ite2 (fun c => ?_) (fun c => ?_)
    · have c' : (ts[i]).keep n = false := by simpa using c
      have q1 := q H3 ((s1.trans s2).trans s3)
      rw [firstB_some ht c' hb] at q1
      exact ⟨_, rfl, q1⟩
    · have c' : (ts[i]).keep n = true := by simpa using c
      refine ⟨⟨_, rfl⟩, s2.trans s3, fun j x hj hx2 => ?_⟩
      by_cases e : j = i
      · subst e
        rw [ht] at hx2
        cases hx2
        exact c'
      · exact hb j x (by omega) hx2
  · rintro σ H2 ⟨⟨v, rfl⟩, s2, hb⟩
    have q1 := q H2 (s1.trans s2)
    rw [List.length_map, List.length_range] at hb
    rw [firstB_none hb] at q1
    exact q1

end
section
variable {P : Program} {w : World} {K : PySem.W.Frag} {mg : Str → Option Value} {base : Heap} {a : Adr} {d : Fds}
theorem ok_is_ware (T : Txt K mg a d) : FnOk P w K mg base CX0 6 a.f_is_ware d.f_is_ware ["wood", "some"] spWareB := by
  have G_has := ok_has (P := P) (w := w) (base := base) T
  have G_first_broken := ok_first_broken (P := P) (w := w) (base := base) T
  refine T.K_is_ware.ok sc_is_ware (fun vs H Q E h => ?_) (fun cdv A outer s H vs Q E hr h => ?_)
  · obtain ⟨wd, m, ts, n, rfl, _⟩ := h
    rfl
  obtain ⟨wd, m, ts, n, rfl, W, q⟩ := h
  refine ⟨_, (pss_one (ps_ret (pe_and (pe_callD G_has hr.lv rfl T.K_has (pa_cons (pv 1) (pa_cons pe_int pa_nil))) (pe_one (pe_cmpR op_isN (pe_callD G_first_broken hr.lv rfl T.K_first_broken (pa_cons (pv 0) (pa_cons (pv 1) pa_nil))) pe_non (nomark _)))))), ?_⟩
  refine ⟨_, rfl, _, _, rfl, _, rfl, ?_⟩
  have e0 : hasV (n : Int) 0 = n.testBit 0 := hasV_nat n 0
  rw [e0]
  refine ite2 (fun c => ?_) (fun c => ?_)
  · refine ⟨_, rfl, _, rfl, wd, m, ts, n, rfl, W, fun H1 s1 => ?_⟩
    have q1 := q H1 s1
    rw [wareB_first, c, Bool.true_and, ← optN_non] at q1
    exact ⟨rfl, q1⟩
  · have q1 := q H (Same.refl H)
    rw [wareB_first, Bool.eq_false_iff.mpr c, Bool.false_and] at q1
    exact q1

end
section
variable {P : Program} {w : World} {K : PySem.W.Frag} {mg : Str → Option Value} {base : Heap} {a : Adr} {d : Fds}
theorem ok_sure_broken_bough (T : Txt K mg a d) : FnOk P w K mg base CX0 3 a.f_sure_broken_bough d.f_sure_broken_bough ["bough", "yes", "no"] (spTie3B Tie.sb) := by
  have G_has := ok_has (P := P) (w := w) (base := base) T
  have G_count_in := ok_count_in (P := P) (w := w) (base := base) T
  refine T.K_sure_broken_bough.ok sc_sure_broken_bough (fun vs H Q E h => ?_) (fun cdv A outer s H vs Q E hr h => ?_)
  · obtain ⟨u, lo, hi, ks, m, y, n, v, rfl, _⟩ := h
    rfl
  obtain ⟨u, lo, hi, ks, m, y, n, v, rfl, hd, ok, hm, q⟩ := h
  obtain ⟨p, pk, rfl, hp, hpk⟩ := at_bough hd
  have few := ok.few
  have rest4 : ∃ t, PSs (cxOf CX0 P w K mg base ["bough", "yes", "no", "least", "greatest", "some_with_up", "some_without_up"] "sure_broken_bough" (defScope s_sure_broken_bough) a.f_sure_broken_bough cdv A outer s H E).nox ((defBody s_sure_broken_bough).drop 4) t ∧ ∀ (v3 v4 : Option V) (b5 b6 : Bool) (H1 : Hp), Same H H1 → (!b5 && !b6) = (Tie.bough u lo hi ks).sb y n → t { nx := fun _ H' => Q .non H', rt := Q } [some (.ref p), some (.int y), some (.int n), v3, v4, some (.bl b5), some (.bl b6)] H1 := by
    refine ⟨_, (pss_one (ps_ret (pe_and (pe_not (pv 5)) (pe_one (pe_not (pv 6)))))), ?_⟩
    intro v3 v4 b5 b6 H1 s1 e
    have q1 := q H1 s1
    rw [← e] at q1
    refine ⟨_, rfl, _, rfl, _, rfl, ?_⟩
    refine ite2 (fun c => ?_) (fun c => ?_)
    · rw [c, Bool.true_and] at q1
      exact ⟨_, rfl, _, rfl, q1⟩
    · rw [Bool.eq_false_iff.mpr c, Bool.false_and] at q1
      exact q1
  obtain ⟨t4, h4, r4⟩ := rest4
  have rest3 : ∃ t, PSs (cxOf CX0 P w K mg base ["bough", "yes", "no", "least", "greatest", "some_with_up", "some_without_up"] "sure_broken_bough" (defScope s_sure_broken_bough) a.f_sure_broken_bough cdv A outer s H E).nox ((defBody s_sure_broken_bough).drop 3) t ∧ ∀ (g : Int) (b5 : Bool) (H1 : Hp), Same H H1 → g = (ks.length : Int) - cnt ks n → b5 = (!n.testBit u && (decide ((cnt ks y : Int) ≤ hi) && decide (lo ≤ g))) → t { nx := fun _ H' => Q .non H', rt := Q } [some (.ref p), some (.int y), some (.int n), some (.int (cnt ks y : Nat)), some (.int g), some (.bl b5), none] H1 := by
    refine ⟨_, (pss_cons (ps_set (i := 6) sc_sure_broken_bough.nd rfl (Or.inl rfl) (pe_and (pe_not (pe_callD G_has hr.lv rfl T.K_has (pa_cons (pv 1) (pa_cons (pe_ix (ixT (K := K)) (pv 0) pe_int (fun _ _ => rfl)) pa_nil)))) (pe_one (pe_cmpR op_eq (pv 3) pe_int (nomark _)))))
      h4), ?_⟩
    intro g b5 H1 s1 eg e5
    have hp1 := s1 _ _ hp
    refine ⟨_, rfl, _, rfl, p, _, _, _, rfl, rfl, sqT hp1, at0, _, _, rfl, _, rfl, _, rfl, ?_⟩
    rw [hasV_nat]
    refine ite2 (fun c => ?_) (fun c => ?_)
    · refine ⟨_, rfl, rfl, ?_⟩
      refine r4 _ _ _ _ _ s1 ?_
      rw [e5, eg, dec_cnt0]
      show _ = (!_ && !(!y.testBit u && decide (cnt ks y = 0)))
      rw [c, Bool.true_and]
    · refine r4 _ _ _ _ _ s1 ?_
      rw [e5, eg]
      show _ = (!_ && !(!y.testBit u && decide (cnt ks y = 0)))
      rw [Bool.eq_false_iff.mpr c, Bool.false_and]
  obtain ⟨t3, h3, r3⟩ := rest3
  have rest2 : ∃ t, PSs (cxOf CX0 P w K mg base ["bough", "yes", "no", "least", "greatest", "some_with_up", "some_without_up"] "sure_broken_bough" (defScope s_sure_broken_bough) a.f_sure_broken_bough cdv A outer s H E).nox ((defBody s_sure_broken_bough).drop 2) t ∧ ∀ (g : Int) (H1 : Hp), Same H H1 → g = (ks.length : Int) - cnt ks n → t { nx := fun _ H' => Q .non H', rt := Q } [some (.ref p), some (.int y), some (.int n), some (.int (cnt ks y : Nat)), some (.int g), none, none] H1 := by
    refine ⟨_, (pss_cons (ps_set (i := 5) sc_sure_broken_bough.nd rfl (Or.inl rfl) (pe_and (pe_not (pe_callD G_has hr.lv rfl T.K_has (pa_cons (pv 2) (pa_cons (pe_ix (ixT (K := K)) (pv 0) pe_int (fun _ _ => rfl)) pa_nil)))) (pe_and (pe_cmpR op_le (pv 3) (pe_ix (ixT (K := K)) (pv 0) pe_int (fun _ _ => rfl)) (nomark _)) (pe_one (pe_cmpR op_le (pe_ix (ixT (K := K)) (pv 0) pe_int (fun _ _ => rfl)) (pv 4) (nomark _))))))
      h3), ?_⟩
    intro g H1 s1 eg
    have hp1 := s1 _ _ hp
    refine ⟨_, rfl, _, rfl, p, _, _, _, rfl, rfl, sqT hp1, at0, _, _, rfl, _, rfl, _, rfl, ?_⟩
    rw [hasV_nat]
    refine ite2 (fun c => ?_) (fun c => ?_)
    · refine ⟨_, rfl, _, rfl, p, _, _, _, rfl, rfl, sqT hp1, at2, _, _, rfl, rfl, _, rfl, ?_⟩
      refine ite2 (fun c2 => ?_) (fun c2 => ?_)
      · refine ⟨_, rfl, p, _, _, _, rfl, rfl, sqT hp1, at1, _, rfl, _, _, rfl, rfl, ?_⟩
        exact r3 _ _ _ s1 eg (by rw [c, Bool.true_and, c2, Bool.true_and])
      · exact r3 _ _ _ s1 eg (by rw [c, Bool.true_and, Bool.eq_false_iff.mpr c2, Bool.false_and])
    · exact r3 _ _ _ s1 eg (by rw [Bool.eq_false_iff.mpr c, Bool.false_and])
  obtain ⟨t2, h2, r2⟩ := rest2
  refine ⟨_, (pss_cons (ps_set (i := 3) sc_sure_broken_bough.nd rfl (Or.inl rfl) (pe_callD G_count_in hr.lv rfl T.K_count_in (pa_cons (pe_ix (ixT (K := K)) (pv 0) pe_int (fun _ _ => rfl)) (pa_cons (pv 1) pa_nil))))
      (pss_cons (ps_set (i := 4) sc_sure_broken_bough.nd rfl (Or.inl rfl) (pe_op op_sub (pe_callB (lenS (K := K)) rfl T.m_len PySem.boot_len (pa_cons (pe_ix (ixT (K := K)) (pv 0) pe_int (fun _ _ => rfl)) pa_nil)) (pe_callD G_count_in hr.lv rfl T.K_count_in (pa_cons (pe_ix (ixT (K := K)) (pv 0) pe_int (fun _ _ => rfl)) (pa_cons (pv 2) pa_nil)))))
      h2)), ?_⟩
  refine ⟨_, rfl, p, _, _, _, rfl, rfl, sqT hp, at3, _, rfl, pk, ks, y, rfl, hpk, by omega, fun H1 s1 => ?_⟩
  have hp1 := s1 _ _ hp
  have hpk1 := s1 _ _ hpk
  refine ⟨_, rfl, p, _, _, _, rfl, rfl, sqT hp1, at3, pk, _, rfl, .inr (sqT hpk1), ?_⟩
  refine ⟨_, rfl, p, _, _, _, rfl, rfl, sqT hp1, at3, _, rfl, pk, ks, n, rfl, hpk1, by omega, fun H2 s2 => ?_⟩
  refine ⟨_, _, rfl, rfl, ?_⟩
  exact r2 _ _ (s1.trans s2) (by rw [List.length_map])

end
section
variable {P : Program} {w : World} {K : PySem.W.Frag} {mg : Str → Option Value} {base : Heap} {a : Adr} {d : Fds}
theorem ok_least_sumA (T : Txt K mg a d) : FnOk P w K mg base CX0 2 a.f_least_sum d.f_least_sum ["pairs", "yes", "no"] (spSumA leastSum) := by
  have G_has := ok_has (P := P) (w := w) (base := base) T
  refine T.K_least_sum.ok sc_least_sum (fun vs H Q E h => ?_) (fun cdv A outer s H vs Q E hr h => ?_)
  · obtain ⟨pq, xs, ps, y, n, rfl, _⟩ := h
    rfl
  obtain ⟨pq, xs, ps, y, n, rfl, hq, hps, few, q⟩ := h
  have lx : xs.length = ps.length := by rw [← hps.length, List.length_map]
  refine ⟨_, (pss_one (ps_ret (pe_callB (call_sum_ints rfl) rfl T.m_sum PyProof.Rows.boot_sum (pa_cons (pe_lc (sc0 := defScope s_least_sum) (XN := ["pairs", "yes", "no"]) (N' := ["k", "number", "yes", "no"]) (n := 2) (kp := [1, 2]) rfl (pi_seq (pv 0)) rfl rfl (by decide +kernel) (fun _ _ _ _ _ => (pgT (K := K) (n := 2) rfl (pgs_cons (pg_name (i := 0) (by show List.Nodup (["k", "number", "yes", "no"] : List Str); decide +kernel) rfl (Or.inl rfl)) (pgs_cons (pg_name (i := 1) (by show List.Nodup (["k", "number", "yes", "no"] : List Str); decide +kernel) rfl (Or.inl rfl)) pgs_nil)))) (fun _ _ _ _ _ => (pts_one (PW.pt (pw_or (pt_val (pe_callD G_has hr.lv rfl T.K_has (pa_cons (pv 2) (pa_cons (pv 0) pa_nil)))) (pw_or1 (PW.pt (pw_and (pt_cmpR op_lt (pv 1) pe_int (nomark _)) (pw_and1 (pt_not (pt_val (pe_callD G_has hr.lv rfl T.K_has (pa_cons (pv 3) (pa_cons (pv 0) pa_nil))))))))))))) (fun _ _ _ _ _ => (pv 1))) pa_nil)))), ?_⟩
  refine ⟨_, rfl, pq, rfl, ?_⟩
  refine lc_seq (K := K) (a := pq) (xs := xs) hq (fun i ys σ H2 => (∃ v v', σ = [v, v', some (.int y), some (.int n)]) ∧ H2 = H ∧ i ≤ ps.length ∧ ys = (((ps.take i).filter fun p => y.testBit p.1 || (decide (p.2 < 0) && !n.testBit p.1)).map (·.2)).map V.int) ⟨⟨none, none, rfl⟩, rfl, Nat.zero_le _, rfl⟩ (fun i ys σ H2 hi pv => ?_) (fun i ys σ H2 hi pv => ?_) (fun i x ys σ H2 hx pv => ?_) (fun ys σ H2 pv l hl => ?_)
  · obtain ⟨_, _, h1, rfl⟩ := pv
    rw [List.length_map, List.length_map]
    refine small (Nat.le_trans (List.length_filter_le _ _) ?_)
    rw [List.length_take]
    omega
  · rw [pv.2.1]
  · obtain ⟨⟨v, v', rfl⟩, rfl, h1, rfl⟩ := pv
    obtain ⟨pr, r, hpr, rfl, hr'⟩ := at_pair hps hx
    have hj : i < ps.length := (List.getElem?_eq_some_iff.mp hpr).1
    have ee := PySem.take_succ_filter (fun p : Nat × Int => y.testBit p.1 || (decide (p.2 < 0) && !n.testBit p.1)) ps i pr hpr
    have yes : (y.testBit pr.1 || (decide (pr.2 < 0) && !n.testBit pr.1)) = true → ((((ps.take i).filter fun p => y.testBit p.1 || (decide (p.2 < 0) && !n.testBit p.1)).map (·.2)).map V.int) ++ [V.int pr.2] = (((ps.take (i + 1)).filter fun p => y.testBit p.1 || (decide (p.2 < 0) && !n.testBit p.1)).map (·.2)).map V.int := fun c => by
      rw [ee, if_pos c, List.map_append, List.map_append]
      rfl
    have noo : (y.testBit pr.1 || (decide (pr.2 < 0) && !n.testBit pr.1)) = false → ((((ps.take i).filter fun p => y.testBit p.1 || (decide (p.2 < 0) && !n.testBit p.1)).map (·.2)).map V.int) = (((ps.take (i + 1)).filter fun p => y.testBit p.1 || (decide (p.2 < 0) && !n.testBit p.1)).map (·.2)).map V.int := fun c => by
      rw [ee, if_neg (by rw [c]; exact Bool.false_ne_true), List.append_nil]
    refine ⟨r, _, rfl, sqT hr', rfl, _, _, rfl, _, _, rfl, rfl, ?_⟩
    refine ⟨_, rfl, _, rfl, _, _, rfl, _, rfl, ?_⟩
    rw [hasV_nat]
    refine ite2 (fun c => ?_) (fun c => ?_)
    · refine iteT ?_
      exact ⟨_, rfl, ⟨_, _, rfl⟩, rfl, hj, yes (by rw [c, Bool.true_or])⟩
    · have c' := Bool.eq_false_iff.mpr c
      refine ⟨_, rfl, _, _, rfl, rfl, _, rfl, ?_⟩
      refine ite2 (fun c2 => ?_) (fun c2 => ?_)
      · refine ⟨_, rfl, _, rfl, _, _, rfl, _, rfl, ?_⟩
        rw [hasV_nat]
        refine ite2 (fun c3 => ?_) (fun c3 => ?_)
        · exact ⟨_, rfl, ⟨_, _, rfl⟩, rfl, hj, yes (by rw [c', Bool.false_or, c2, Bool.true_and, c3])⟩
        · exact ⟨⟨_, _, rfl⟩, rfl, hj, noo (by rw [c', Bool.false_or, c2, Bool.true_and, Bool.eq_false_iff.mpr c3])⟩
      · refine iteF ?_
        exact ⟨⟨_, _, rfl⟩, rfl, hj, noo (by rw [c', Bool.false_or, Bool.eq_false_iff.mpr c2, Bool.false_and])⟩
  · obtain ⟨_, rfl, _, rfl⟩ := pv
    refine ⟨l, _, rfl, SqL.of upd_same, ?_⟩
    have q1 := q _ (same_new hl (.lst ((((ps.take xs.length).filter fun p => y.testBit p.1 || (decide (p.2 < 0) && !n.testBit p.1)).map (·.2)).map V.int)))
    have e : leastSum ps y n = (((ps.take xs.length).filter fun p => y.testBit p.1 || (decide (p.2 < 0) && !n.testBit p.1)).map (·.2)).sum := by
      rw [lx, List.take_length]
      rfl
    rw [e] at q1
    exact q1
theorem ok_least_sum (T : Txt K mg a d) : FnOk P w K mg base CX0 2 a.f_least_sum d.f_least_sum ["pairs", "yes", "no"] (spSum leastSum) := (ok_least_sumA T).imp fun _ _ _ _ => spSumA_of

end
section
variable {P : Program} {w : World} {K : PySem.W.Frag} {mg : Str → Option Value} {base : Heap} {a : Adr} {d : Fds}
theorem ok_sure_broken (T : Txt K mg a d) : FnOk P w K mg base CX0 4 a.f_sure_broken d.f_sure_broken ["tie", "yes", "no"] (spTie3 Tie.sb) := by
  have G_has := ok_has (P := P) (w := w) (base := base) T
  have G_least_sum := ok_least_sum (P := P) (w := w) (base := base) T
  have G_sure_broken_bough := ok_sure_broken_bough (P := P) (w := w) (base := base) T
  refine T.K_sure_broken.ok sc_sure_broken (fun vs H Q E h => ?_) (fun cdv A outer s H vs Q E hr h => ?_)
  · obtain ⟨t, m, y, n, v, rfl, _⟩ := h
    rfl
  obtain ⟨t, m, y, n, v, rfl, hd, ok, hm, q⟩ := h
  have q0 := q H (Same.refl H)
  refine ⟨_, (pss_cons (ps_if (pt_cmpR op_eq (pe_ix (ixT (K := K)) (pv 0) pe_int (fun _ _ => rfl)) pe_str (nomark _)) (pss_one (ps_ret (pe_and (pe_callD G_has hr.lv rfl T.K_has (pa_cons (pv 1) (pa_cons (pe_ix (ixT (K := K)) (pv 0) pe_int (fun _ _ => rfl)) pa_nil))) (pe_one (pe_callD G_has hr.lv rfl T.K_has (pa_cons (pv 2) (pa_cons (pe_ix (ixT (K := K)) (pv 0) pe_int (fun _ _ => rfl)) pa_nil))))))) pss_nil)
      (pss_cons (ps_if (pt_cmpR op_eq (pe_ix (ixT (K := K)) (pv 0) pe_int (fun _ _ => rfl)) pe_str (nomark _)) (pss_one (ps_ret (pe_and (pe_callD G_has hr.lv rfl T.K_has (pa_cons (pv 1) (pa_cons (pe_ix (ixT (K := K)) (pv 0) pe_int (fun _ _ => rfl)) pa_nil))) (pe_one (pe_callD G_has hr.lv rfl T.K_has (pa_cons (pv 1) (pa_cons (pe_ix (ixT (K := K)) (pv 0) pe_int (fun _ _ => rfl)) pa_nil))))))) pss_nil)
      (pss_cons (ps_if (pt_cmpR op_eq (pe_ix (ixT (K := K)) (pv 0) pe_int (fun _ _ => rfl)) pe_str (nomark _)) (pss_one (ps_ret (pe_cmpR op_gt (pe_callD G_least_sum hr.lv rfl T.K_least_sum (pa_cons (pe_ix (ixT (K := K)) (pv 0) pe_int (fun _ _ => rfl)) (pa_cons (pv 1) (pa_cons (pv 2) pa_nil)))) (pe_ix (ixT (K := K)) (pv 0) pe_int (fun _ _ => rfl)) (nomark _)))) pss_nil)
      (pss_one (ps_ret (pe_callD G_sure_broken_bough hr.lv rfl T.K_sure_broken_bough (pa_cons (pv 0) (pa_cons (pv 1) (pa_cons (pv 2) pa_nil))))))))), ?_⟩
  cases t with
  | needs x z =>
    obtain ⟨p, rfl, hp⟩ := at_word hd
    refine ⟨_, rfl, p, _, _, _, rfl, rfl, sqT hp, at0, rfl, _, rfl, ?_⟩
    refine iteD rfl ?_
    refine ⟨_, rfl, _, rfl, p, _, _, _, rfl, rfl, sqT hp, at1, _, _, rfl, _, rfl, ?_⟩
    rw [hasV_nat]
    have q1 : Q (.bl (y.testBit x && n.testBit z)) H := q0
    refine ite2 (fun c => ?_) (fun c => ?_)
    · rw [c, Bool.true_and] at q1
      refine ⟨_, rfl, _, rfl, p, _, _, _, rfl, rfl, sqT hp, at2, _, _, rfl, ?_⟩
      rw [hasV_nat]
      exact q1
    · rw [Bool.eq_false_iff.mpr c, Bool.false_and] at q1
      exact q1
  | bans x z =>
    obtain ⟨p, rfl, hp⟩ := at_word hd
    refine ⟨_, rfl, p, _, _, _, rfl, rfl, sqT hp, at0, rfl, _, rfl, ?_⟩
    refine iteDN bans_needs ?_
    refine ⟨_, rfl, p, _, _, _, rfl, rfl, sqT hp, at0, rfl, _, rfl, ?_⟩
    refine iteD rfl ?_
    refine ⟨_, rfl, _, rfl, p, _, _, _, rfl, rfl, sqT hp, at1, _, _, rfl, _, rfl, ?_⟩
    rw [hasV_nat]
    have q1 : Q (.bl (y.testBit x && y.testBit z)) H := q0
    refine ite2 (fun c => ?_) (fun c => ?_)
    · rw [c, Bool.true_and] at q1
      refine ⟨_, rfl, _, rfl, p, _, _, _, rfl, rfl, sqT hp, at2, _, _, rfl, ?_⟩
      rw [hasV_nat]
      exact q1
    · rw [Bool.eq_false_iff.mpr c, Bool.false_and] at q1
      exact q1
  | most top ps =>
    obtain ⟨p, pq, xs, rfl, hp, hq, hps⟩ := at_most hd
    have few : ps.length ≤ m := ok.2.2.2
    refine ⟨_, rfl, p, _, _, _, rfl, rfl, sqT hp, at0, rfl, _, rfl, ?_⟩
    refine iteDN most_needs ?_
    refine ⟨_, rfl, p, _, _, _, rfl, rfl, sqT hp, at0, rfl, _, rfl, ?_⟩
    refine iteDN most_bans ?_
    refine ⟨_, rfl, p, _, _, _, rfl, rfl, sqT hp, at0, rfl, _, rfl, ?_⟩
    refine iteD rfl ?_
    refine ⟨_, rfl, p, _, _, _, rfl, rfl, sqT hp, at2, _, rfl, _, rfl, pq, xs, ps, y, n, rfl, hq, hps, by omega, fun H1 s1 => ?_⟩
    exact ⟨_, rfl, p, _, _, _, rfl, rfl, sqT (s1 _ _ hp), at1, _, _, rfl, rfl, q H1 s1⟩
  | bough u lo hi ks =>
    obtain ⟨p, pk, e, hp, hpk⟩ := at_bough hd
    subst e
    refine ⟨_, rfl, p, _, _, _, rfl, rfl, sqT hp, at0, rfl, _, rfl, ?_⟩
    refine iteDN int_str ?_
    refine ⟨_, rfl, p, _, _, _, rfl, rfl, sqT hp, at0, rfl, _, rfl, ?_⟩
    refine iteDN int_str ?_
    refine ⟨_, rfl, p, _, _, _, rfl, rfl, sqT hp, at0, rfl, _, rfl, ?_⟩
    refine iteDN int_str ?_
    exact ⟨_, rfl, _, rfl, _, rfl, u, lo, hi, ks, m, y, n, _, rfl, hd, ok, hm, q⟩

end
section
variable {P : Program} {w : World} {K : PySem.W.Frag} {mg : Str → Option Value} {base : Heap} {a : Adr} {d : Fds}
theorem ok_first_sure_broken (T : Txt K mg a d) : FnOk P w K mg base CX0 5 a.f_first_sure_broken d.f_first_sure_broken ["wood", "ties", "yes", "no"] spFirstSB := by
  have G_tie_at := ok_tie_at (P := P) (w := w) (base := base) T
  have G_sure_broken := ok_sure_broken (P := P) (w := w) (base := base) T
  refine T.K_first_sure_broken.ok sc_first_sure_broken (fun vs H Q E h => ?_) (fun cdv A outer s H vs Q E hr h => ?_)
  · obtain ⟨wd, m, ts, tl, il, y, n, rfl, _⟩ := h
    rfl
  obtain ⟨wd, m, ts, tl, il, y, n, rfl, W, htl, ilt, q⟩ := h
  have m9 := W.m9
  refine ⟨_, (pss_cons (ps_for PassesOwn.never rfl (piL (K := K) (pv 1)) (pg_name (i := 4) sc_first_sure_broken.nd rfl (Or.inl rfl)) (pss_one (ps_if (pt_val (pe_callD G_sure_broken hr.lv rfl T.K_sure_broken (pa_cons (pe_callD G_tie_at hr.lv rfl T.K_tie_at (pa_cons (pv 0) (pa_cons (pv 4) pa_nil))) (pa_cons (pv 2) (pa_cons (pv 3) pa_nil))))) (pss_one (ps_ret (pv 4))) pss_nil)))
      (pss_one (ps_ret pe_non))), ?_⟩
  refine ⟨_, rfl, tl, rfl, ⟨_, SqL.of htl⟩, ?_⟩
  refine for_list (K := K) (a := tl) (xs := natsL il) (fun i σ H2 => (∃ v, σ = [some (.ref wd), some (.ref tl), some (.int y), some (.int n), v]) ∧ Same H H2 ∧ (il.take i).find? (fun i => sbAt ts i y n) = none) ⟨⟨_, rfl⟩, Same.refl _, rfl⟩ (fun i σ H2 _ z => SqL.of (z.2.1 _ _ htl)) ?_ ?_
  · rintro i x σ H2 hx ⟨⟨v, rfl⟩, s2, hb⟩
    rw [List.getElem?_map] at hx
    obtain ⟨t, ht, rfl⟩ := Option.map_eq_some_iff.mp hx
    have htl' := ilt t (List.mem_of_getElem? ht)
    have W2 := W.same s2
    obtain ⟨xs, ys, WA, dn⟩ := W2.ex
    have hts : ts[t]? = some ts[t] := List.getElem?_eq_getElem htl'
    obtain ⟨v2, hv2, hd⟩ := DnL.get' dn (i := t) (d := ts[t].toD) (by rw [List.getElem?_map, hts]; rfl)
    have esb : sbAt ts t y n = ts[t].sb y n := by unfold sbAt; rw [hts]
    refine ⟨_, rfl, _, rfl, wd, m, xs, ys, t, v2, rfl, WA, hv2, ?_⟩
    refine ⟨_, rfl, _, rfl, ts[t], m, y, n, v2, rfl, hd, W.ok _ (List.getElem_mem htl'), by omega, fun H3 s3 => ?_⟩
    refine ⟨_, rfl, ?_⟩
    refine ite2 (fun c => ?_) (fun c => ?_)
    · have q1 := q H3 (s2.trans s3)
      have e : firstSB ts il y n = some t := by
        unfold firstSB
        have el : il = il.take i ++ t :: il.drop (i + 1) := by
          obtain ⟨hi, e⟩ := List.getElem?_eq_some_iff.mp ht
          rw [← e, List.getElem_cons_drop, List.take_append_drop]
        rw [el, List.find?_append, hb]
        simp [esb, c]
      rw [e] at q1
      exact ⟨_, rfl, q1⟩
    · refine ⟨⟨_, rfl⟩, s2.trans s3, ?_⟩
      rw [List.take_add_one, ht, Option.toList_some, List.find?_append, hb]
      simp [esb, c]
  · rintro σ H2 ⟨⟨v, rfl⟩, s2, hb⟩
    have q1 := q H2 s2
    rw [List.length_map, List.take_length] at hb
    have e : firstSB ts il y n = none := hb
    rw [e] at q1
    exact q1

end
section
variable {P : Program} {w : World} {K : PySem.W.Frag} {mg : Str → Option Value} {base : Heap} {a : Adr} {d : Fds}
theorem told_step (T : Txt K mg a d) (f : Nat) {p : Addr} {C : Hp → Prop} {m : Nat} {leaf : Nat → Nat → Option PyData} {fdL : FuncData} {pl : List Str} {φ : Heap → Prop}
    (L_leaf_at : FnOk P w K mg base CX0 7 p fdL pl (spLf C leaf)) (LB_leaf_at : Binds K fdL pl []) (LP_leaf_at : ∀ h : Heap, φ h → ∃ o fd', h.get? p = some o ∧ o.data = .func fd') (hC : ∀ H H', Same H H' → C H → C H') (hCp : ∀ H, C H → H p = some (.ext φ))
    (G_told_tree : f ≠ 0 → FnOk P w K mg base CX0 (f + 7) a.f_told_tree d.f_told_tree ["wood", "ties", "yes", "no", "leaf_at"] (spToldF (f - 1) p C m leaf)) : FnOk P w K mg base CX0 (f + 8) a.f_told_tree d.f_told_tree ["wood", "ties", "yes", "no", "leaf_at"] (spToldF f p C m leaf) := by
  have G_first_sure_broken := ok_first_sure_broken (P := P) (w := w) (base := base) T
  have G_open_options := ok_open_options (P := P) (w := w) (base := base) T
  have G_with_option := ok_with_option (P := P) (w := w) (base := base) T
  refine T.K_told_tree.ok sc_told_tree (fun vs H Q E h => ?_) (fun cdv A outer s H vs Q E hr h => ?_)
  · obtain ⟨wd, ts, tl, il, y, n, rfl, _⟩ := h
    rfl
  obtain ⟨wd, ts, tl, il, y, n, rfl, W, htl, ilt, hf, c0, ends, q⟩ := h
  have m9 := W.m9
  obtain ⟨R, r0, rs, re⟩ := ends
  have rest : ∃ t, PSs (cxOf CX0 P w K mg base ["wood", "ties", "yes", "no", "leaf_at", "broken", "leaf", "k", "one", "other"] "told_tree" (defScope s_told_tree) a.f_told_tree cdv A outer s H E).nox ((defBody s_told_tree).drop 5) t ∧ (∀ (k : Nat) (r : List Nat) (v5 v6 : Option V) (H1 : Hp), Same H H1 → openL m y n = k :: r → firstSB ts il y n = none → leaf y n = none → t { nx := fun _ H' => Q .non H', rt := Q } [some (.ref wd), some (.ref tl), some (.int y), some (.int n), some (.ref p), v5, v6, some (.int (k : Int)), none, none] H1) := by
    by_cases hf0 : f = 0
    · refine ⟨tNever, pss_never, ?_⟩
      intro k r v5 v6 H1 s1 ho hb
      rw [ho, hf0] at hf
      simp at hf
    · have G_told_tree := G_told_tree hf0
      refine ⟨_, (pss_cons (ps_set (i := 8) sc_told_tree.nd rfl (Or.inl rfl) (pe_callD G_told_tree hr.lv rfl T.K_told_tree (pa_cons (pv 0) (pa_cons (pv 1) (pa_cons (pe_callD G_with_option hr.lv rfl T.K_with_option (pa_cons (pv 2) (pa_cons (pv 7) pa_nil))) (pa_cons (pv 3) (pa_cons (pv 4) pa_nil)))))))
      (pss_cons (ps_set (i := 9) sc_told_tree.nd rfl (Or.inl rfl) (pe_callD G_told_tree hr.lv rfl T.K_told_tree (pa_cons (pv 0) (pa_cons (pv 1) (pa_cons (pv 2) (pa_cons (pe_callD G_with_option hr.lv rfl T.K_with_option (pa_cons (pv 3) (pa_cons (pv 7) pa_nil))) (pa_cons (pv 4) pa_nil)))))))
      (pss_one (ps_ret (pe_tup (pa_cons pe_str (pa_cons (pv 7) (pa_cons (pv 8) (pa_cons (pv 9) pa_nil))))))))), ?_⟩
      intro k r v5 v6 H1 s1 ho hb hlf
      have hk : k ∈ openL m y n := by rw [ho]; exact List.mem_cons_self
      have km := (mem_open.mp hk).1
      have l1 := open_less1 hk
      have l2 := open_less2 hk
      refine ⟨_, rfl, _, rfl, _, rfl, _, rfl, y, k, rfl, by omega, _, rfl, _, rfl, wd, ts, tl, il, y ||| 2 ^ k, n, rfl, W.same s1, s1 _ _ htl, ilt, by omega, hC _ _ s1 c0, ⟨R, (rs y n k r0 hk).1, rs, re⟩, fun v1 H2 s2 d1 => ?_⟩
      refine ⟨_, rfl, _, rfl, _, rfl, _, rfl, _, rfl, n, k, rfl, by omega, _, rfl, wd, ts, tl, il, y, n ||| 2 ^ k, rfl, W.same (s1.trans s2), (s1.trans s2) _ _ htl, ilt, by omega, hC _ _ (s1.trans s2) c0, ⟨R, (rs y n k r0 hk).2, rs, re⟩, fun v2 H3 s3 d2 => ?_⟩
      refine ⟨_, rfl, _, rfl, _, rfl, small (by show 4 ≤ 1000; decide), fun tp htp => ?_⟩
      have s4 := same_new htp (.tup [.str ("split" : Str), .int (k : Int), v1, v2])
      refine q _ _ (((s1.trans s2).trans s3).trans s4) ?_
      obtain ⟨f', rfl⟩ : ∃ f', f = f' + 1 := ⟨f - 1, by omega⟩
      rw [toldD_split hb hlf ho]
      exact ⟨tp, _, rfl, upd_same, _, _, rfl, rfl, _, _, rfl, rfl, _, _, rfl, Dn.same (s3.trans s4) _ _ d1, _, _, rfl, Dn.same s4 _ _ d2, rfl⟩
  obtain ⟨t4, h4, r4⟩ := rest
  refine ⟨_, (pss_cons (ps_set (i := 5) sc_told_tree.nd rfl (Or.inl rfl) (pe_callD G_first_sure_broken hr.lv rfl T.K_first_sure_broken (pa_cons (pv 0) (pa_cons (pv 1) (pa_cons (pv 2) (pa_cons (pv 3) pa_nil))))))
      (pss_cons (ps_if (pt_cmpR op_notN (pv 5) pe_non (nomark _)) (pss_one (ps_ret (pe_tup (pa_cons pe_str (pa_cons (pv 5) pa_nil))))) pss_nil)
      (pss_cons (ps_set (i := 6) sc_told_tree.nd rfl (Or.inl rfl) (pe_callV (i := 4) L_leaf_at hr.lv rfl (.inl rfl) LB_leaf_at LP_leaf_at (pa_cons (pv 2) (pa_cons (pv 3) pa_nil))))
      (pss_cons (ps_if (pt_cmpR op_notN (pv 6) pe_non (nomark _)) (pss_one (ps_ret (pv 6))) pss_nil)
      (pss_cons (ps_set (i := 7) sc_told_tree.nd rfl (Or.inl rfl) (pe_ix (ixL (K := K)) (pe_callD G_open_options hr.lv rfl T.K_open_options (pa_cons (pe_ix (ixT (K := K)) (pv 0) pe_int (fun _ _ => rfl)) (pa_cons (pv 2) (pa_cons (pv 3) pa_nil)))) pe_int (fun _ _ => rfl)))
      h4))))), ?_⟩
  refine ⟨_, rfl, _, rfl, _, rfl, _, rfl, wd, m, ts, tl, il, y, n, rfl, W, htl, ilt, fun H1 s1 => ?_⟩
  obtain ⟨o, ho⟩ : ∃ o, firstSB ts il y n = o := ⟨_, rfl⟩
  rw [ho]
  obtain ⟨xs, ys, ⟨tb, tc, hw, hb, hc⟩, dn⟩ := W.ex
  rcases o with _ | t
  · refine ⟨_, rfl, rfl, _, rfl, ?_⟩
    refine iteNS rfl ?_
    refine ⟨rfl, _, rfl, _, rfl, hCp _ (hC _ _ s1 c0), y, n, rfl, hC _ _ s1 c0, fun v H2 s2 lv => ?_⟩
    unfold LeafV at lv
    cases hl : leaf y n with
    | some dd =>
      rw [hl] at lv
      obtain ⟨dv, pp, rfl⟩ := lv
      refine ⟨_, rfl, rfl, _, rfl, ?_⟩
      refine iteNN (by intro z; cases z) ?_
      refine ⟨_, rfl, ?_⟩
      refine q _ _ (s1.trans s2) ?_
      rw [toldD_leaf ho hl]
      exact dv
    | none =>
      rw [hl] at lv
      subst lv
      refine ⟨_, rfl, rfl, _, rfl, ?_⟩
      refine iteNS rfl ?_
      have s12 := s1.trans s2
      refine ⟨_, rfl, wd, _, _, _, rfl, rfl, sqT (s12 _ _ hw), at0, _, rfl, _, rfl, m, y, n, rfl, by omega, fun l H3 s3 nl hl3 => ?_⟩
      obtain ⟨ol, hol⟩ : ∃ ol, openL m y n = ol := ⟨_, rfl⟩
      rw [hol] at hl3
      rcases ol with _ | ⟨k, r⟩
      · exact absurd hl (re y n r0 ho hol)
      · refine ⟨l, _, _, _, rfl, rfl, SqL.of hl3, at0, ?_⟩
        exact r4 k r _ _ H3 (s12.trans s3) hol ho hl
  · refine ⟨_, rfl, rfl, _, rfl, ?_⟩
    refine iteNN (by intro z; cases z) ?_
    refine ⟨_, rfl, small (by show 2 ≤ 1000; decide), fun tp htp => ?_⟩
    have s2 := same_new htp (.tup [.str ("broken" : Str), .int (t : Int)])
    refine q _ _ (s1.trans s2) ?_
    rw [toldD_broken ho]
    exact ⟨tp, _, rfl, upd_same, _, _, rfl, rfl, _, _, rfl, rfl, rfl⟩
theorem ok_told_tree (T : Txt K mg a d) {p : Addr} {C : Hp → Prop} {m : Nat} {leaf : Nat → Nat → Option PyData} {fdL : FuncData} {pl : List Str} {φ : Heap → Prop}
    (L : FnOk P w K mg base CX0 7 p fdL pl (spLf C leaf)) (LB : Binds K fdL pl []) (LP : ∀ h : Heap, φ h → ∃ o fd', h.get? p = some o ∧ o.data = .func fd') (hC : ∀ H H', Same H H' → C H → C H') (hCp : ∀ H, C H → H p = some (.ext φ)) :
    ∀ f : Nat, FnOk P w K mg base CX0 (f + 8) a.f_told_tree d.f_told_tree ["wood", "ties", "yes", "no", "leaf_at"] (spToldF f p C m leaf)
  | 0 => told_step T 0 L LB LP hC hCp fun h => absurd rfl h
  | f + 1 => told_step T (f + 1) L LB LP hC hCp fun _ => ok_told_tree T L LB LP hC hCp f

end
section
variable {P : Program} {w : World} {K : PySem.W.Frag} {mg : Str → Option Value} {base : Heap} {a : Adr} {d : Fds}
def spWareLeaf : Sp := fun vs H Q _ => ∃ (wd : Addr) (m : Nat) (ts : List Tie) (y n : Nat), vs = [.ref wd, .int y, .int n] ∧ WoodT H wd m ts ∧ ∀ (v : V) (H' : Hp), Same H H' → LeafV (wareLeaf m) y n H' v → Q v H'
theorem ok_ware_leaf (T : Txt K mg a d) : FnOk P w K mg base CX0 3 a.f_ware_leaf d.f_ware_leaf ["wood", "yes", "no"] spWareLeaf := by
  have G_open_options := ok_open_options (P := P) (w := w) (base := base) T
  refine T.K_ware_leaf.ok sc_ware_leaf (fun vs H Q E h => ?_) (fun cdv A outer s H vs Q E hr h => ?_)
  · obtain ⟨wd, m, ts, y, n, rfl, _⟩ := h
    rfl
  obtain ⟨wd, m, ts, y, n, rfl, W, q⟩ := h
  have m9 := W.m9
  refine ⟨_, (pss_cons (ps_if (pt_cmpR op_eq (pe_callB (lenS (K := K)) rfl T.m_len PySem.boot_len (pa_cons (pe_callD G_open_options hr.lv rfl T.K_open_options (pa_cons (pe_ix (ixT (K := K)) (pv 0) pe_int (fun _ _ => rfl)) (pa_cons (pv 1) (pa_cons (pv 2) pa_nil)))) pa_nil)) pe_int (nomark _)) (pss_one (ps_ret (pe_tup (pa_cons pe_str pa_nil)))) pss_nil)
      (pss_one (ps_ret pe_non))), ?_⟩
  obtain ⟨xs, ys, ⟨tb, tc, hw, hb, hc⟩, dn⟩ := W.ex
  refine ⟨_, rfl, wd, _, _, _, rfl, rfl, sqT hw, at0, _, rfl, _, rfl, m, y, n, rfl, by omega, fun l H2 s2 nl hl => ?_⟩
  refine ⟨l, _, rfl, .inl (SqL.of hl), rfl, _, rfl, ?_⟩
  rw [dec_cnt0, List.length_map]
  obtain ⟨ol, hol⟩ : ∃ ol, openL m y n = ol := ⟨_, rfl⟩
  rw [hol]
  rcases ol with _ | ⟨k, r⟩
  · refine iteD rfl ?_
    refine ⟨small (by show 1 ≤ 1000; decide), fun tp htp => ?_⟩
    have s3 := same_new htp (.tup [.str ("ware" : Str)])
    refine q _ _ (s2.trans s3) ?_
    unfold LeafV wareLeaf
    rw [if_pos hol]
    exact ⟨⟨tp, _, rfl, upd_same, _, _, rfl, rfl, rfl⟩, tp, rfl⟩
  · refine iteDN (by simp) ?_
    refine q _ _ s2 ?_
    unfold LeafV wareLeaf
    rw [if_neg (by rw [hol]; simp)]

end
section
variable {P : Program} {w : World} {K : PySem.W.Frag} {mg : Str → Option Value} {base : Heap} {a : Adr} {d : Fds}
theorem ok_cases_of (T : Txt K mg a d) (LB : LamB mg base a.c_cases_of a.t_cases_of) (f : Nat) : FnOk P w K mg base CX0 (f + 9) a.f_cases_of d.f_cases_of ["wood", "ties", "yes", "no"] (spT a.t_cases_of (spCasesF f)) := by
  refine T.K_cases_of.okC sc_cases_of (fun vs H Q E h => ?_) (fun cdv A outer s H vs Q E hcd hr h => ?_)
  · obtain ⟨_, wd, m, ts, tl, il, y, n, rfl, _⟩ := h
    rfl
  obtain ⟨tb, wd, m, ts, tl, il, y, n, rfl, W, htl, ilt, hf, q⟩ := h
  have LC : ((cxOf CX0 P w K mg base ["wood", "ties", "yes", "no"] "cases_of" (defScope s_cases_of) a.f_cases_of cdv A outer s H E).nox).env.code = .ref a.c_cases_of := hcd.symm.trans T.code_cases_of
  have LF : ∀ y ∈ (lamScope (lastArg (retE (defBody s_cases_of)[0]?))).names, y.2 = .free → ∃ c, ((cxOf CX0 P w K mg base ["wood", "ties", "yes", "no"] "cases_of" (defScope s_cases_of) a.f_cases_of cdv A outer s H E).nox).env.cells.lookup y.1 = some c := by
    intro y hy hz
    have e : y = (("wood" : Str), NameKind.free) := by
      have h := (by decide +kernel : ∀ y ∈ (lamScope (lastArg (retE (defBody s_cases_of)[0]?))).names, y.2 = NameKind.free → y = (("wood" : Str), NameKind.free))
      exact h y hy hz
    subst e
    exact ⟨_, rfl⟩
  refine ⟨_, (pss_one (ps_ret (pe_callW (k := f + 8) (hr.mono (by first | decide | omega)) rfl T.K_told_tree.g T.K_told_tree.kp T.K_told_tree.B (fun _ => rfl) (pa_cons (pv 0) (pa_cons (pv 1) (pa_cons (pv 2) (pa_cons (pv 3) (pa_cons (pe_lam LC LB rfl LF) pa_nil)))))))), ?_⟩
  refine ⟨_, rfl, _, rfl, _, rfl, _, rfl, tb, fun p c' H1 np s1 hp hc base' ci _ _ => ?_⟩
  obtain ⟨cw, u, e1, r1, ic⟩ := ci 0 "wood" (.ref wd) rfl rfl rfl
  have hcells : ((cxOf CX0 P w K mg base ["wood", "ties", "yes", "no"] "cases_of" (defScope s_cases_of) a.f_cases_of cdv A outer s H E).nox).env.cells = [(("wood" : Str), cw)] := by
    have z : cw = s.heap.objs.size + 1 := (Option.some.inj (show some (s.heap.objs.size + 1) = some cw from e1)).symm
    rw [z]
    rfl
  have G_ware_leaf := ok_ware_leaf (P := P) (w := w) (base := base') T
  have L := lam_fn (P := P) (w := w) (K := K) (mg := mg) (base := base') (ps := ["come", "gone"]) (fr := ["wood"]) (fv := [.ref wd]) (k := 6) (leaf := wareLeaf m) (fun H => WoodT H wd m ts) hp ⟨rfl, rfl, rfl, by decide +kernel, by decide +kernel, by decide +kernel, by decide +kernel⟩
    (fun x cc h => by
      have h' := clOf_look LF h
      rw [hcells] at h'
      obtain ⟨_, rfl⟩ := lookup_one h'
      exact ⟨_, ic⟩)
    (fun x y cc h1 h2 => by
      have h1' := clOf_look LF h1
      have h2' := clOf_look LF h2
      rw [hcells] at h1' h2'
      rw [(lookup_one h1').1, (lookup_one h2').1])
    (fun y hy hz => by
      obtain ⟨c, hc⟩ := LF y hy hz
      exact ⟨c, clOf_at LF (by rw [← hz]; exact hy) hc⟩)
    (fun i x v h1 h2 => by
      cases i with
      | zero =>
        cases h1
        cases h2
        exact ⟨cw, u, clOf_at LF (by decide +kernel) e1, r1, ic⟩
      | succ i => cases h1)
    rfl (fun _ _ _ => rfl) rfl
    (fun q A outer s H y n Q hr W0 q' => ⟨_, pe_call G_ware_leaf (hr.mono (by decide)) rfl T.K_ware_leaf.g T.K_ware_leaf.kp T.K_ware_leaf.B .nil pass0 (pa_cons (pv 2) (pa_cons (pv 0) (pa_cons (pv 1) pa_nil))), ⟨_, rfl, _, rfl, _, rfl, wd, m, ts, y, n, rfl, W0, q'⟩⟩)
  have G := ok_told_tree (P := P) (w := w) (base := base') (m := m) T L (.all fun us hl => match us, hl with | [_, _], _ => rfl) lamP_fn (fun H H' s h => ⟨h.1.same s, s _ _ h.2.1, s _ _ h.2.2⟩) (fun H h => h.2.1) f
  refine ⟨_, G, wd, ts, tl, il, y, n, rfl, W.same s1, s1 _ _ htl, ilt, hf, ⟨W.same s1, hp, hc⟩, EndsR.all (fun y n hb ho => by unfold wareLeaf; rw [if_pos ho]; simp) _ _, fun v H' s2 dv => q v H' (s1.trans s2) ?_⟩
  rw [← told_cases f y n hf]
  exact dv

end
section
variable {P : Program} {w : World} {K : PySem.W.Frag} {mg : Str → Option Value} {base : Heap} {a : Adr} {d : Fds}
theorem ok_cases (T : Txt K mg a d) (LB : LamB mg base a.c_cases_of a.t_cases_of) : FnOk P w K mg base CX0 19 a.f_cases d.f_cases ["wood", "yes", "no"] (spT a.t_cases_of spCases) := by
  have G_cases_of := ok_cases_of (P := P) (w := w) (base := base) T LB 9
  have G_every_tie := ok_every_tie (P := P) (w := w) (base := base) T
  refine T.K_cases.ok sc_cases (fun vs H Q E h => ?_) (fun cdv A outer s H vs Q E hr h => ?_)
  · obtain ⟨_, wd, m, ts, y, n, rfl, _⟩ := h
    rfl
  obtain ⟨tb, wd, m, ts, y, n, rfl, W, m9, q⟩ := h
  have of := open_few m y n
  refine ⟨_, (pss_one (ps_ret (pe_callD G_cases_of hr.lv rfl T.K_cases_of (pa_cons (pv 0) (pa_cons (pe_callD G_every_tie hr.lv rfl T.K_every_tie (pa_cons (pv 0) pa_nil)) (pa_cons (pv 1) (pa_cons (pv 2) pa_nil))))))), ?_⟩
  refine ⟨_, rfl, _, rfl, wd, m, ts, rfl, W, fun l H1 s1 nl hl => ?_⟩
  refine ⟨_, rfl, _, rfl, s1.tab tb, wd, m, ts, l, allT ts, y, n, rfl, W.same s1, hl, fun i hi => List.mem_range.mp hi, by omega, fun v H2 s2 dv => ?_⟩
  exact q v H2 (s1.trans s2) dv

end
section
variable {P : Program} {w : World} {K : PySem.W.Frag} {mg : Str → Option Value} {base : Heap} {a : Adr} {d : Fds}
theorem ok_is_broken_leaf (T : Txt K mg a d) : FnOk P w K mg base CX0 5 a.f_is_broken_leaf d.f_is_broken_leaf ["wood", "yes", "no", "t"] spBrLeaf := by
  have G_many_ties := ok_many_ties (P := P) (w := w) (base := base) T
  have G_tie_at := ok_tie_at (P := P) (w := w) (base := base) T
  have G_sure_broken := ok_sure_broken (P := P) (w := w) (base := base) T
  refine T.K_is_broken_leaf.ok sc_is_broken_leaf (fun vs H Q E h => ?_) (fun cdv A outer s H vs Q E hr h => ?_)
  · obtain ⟨wd, m, ts, y, n, t, rfl, _⟩ := h
    rfl
  obtain ⟨wd, m, ts, y, n, t, rfl, W, q⟩ := h
  have m9 := W.m9
  have q0 := q H (Same.refl H)
  obtain ⟨xs, ys, WA, dn⟩ := W.ex
  have lx : (xs.length : Int) + (ys.length : Int) = (ts.length : Int) := by
    have := dn.length
    rw [List.length_map, List.length_append] at this
    omega
  refine ⟨_, (pss_one (ps_ret (pe_and (pe_chain op_le op_lt pe_int (pv 3) (pe_callD G_many_ties hr.lv rfl T.K_many_ties (pa_cons (pv 0) pa_nil))) (pe_one (pe_callD G_sure_broken hr.lv rfl T.K_sure_broken (pa_cons (pe_callD G_tie_at hr.lv rfl T.K_tie_at (pa_cons (pv 0) (pa_cons (pv 3) pa_nil))) (pa_cons (pv 1) (pa_cons (pv 2) pa_nil)))))))), ?_⟩
  refine ⟨_, rfl, _, _, rfl, rfl, _, rfl, ?_⟩
  by_cases c0 : 0 ≤ t
  · refine iteC (decide_eq_true c0) ?_
    refine ⟨_, rfl, wd, m, xs, ys, rfl, WA, _, _, rfl, rfl, _, rfl, ?_⟩
    rw [lx]
    by_cases c1 : t < (ts.length : Int)
    · refine iteC (decide_eq_true c1) ?_
      obtain ⟨j, rfl⟩ : ∃ j : Nat, t = (j : Int) := ⟨t.toNat, by omega⟩
      have jl : j < ts.length := by omega
      have hts : ts[j]? = some ts[j] := List.getElem?_eq_getElem jl
      obtain ⟨v2, hv2, hd⟩ := DnL.get' dn (i := j) (d := ts[j].toD) (by rw [List.getElem?_map, hts]; rfl)
      refine ⟨_, rfl, _, rfl, wd, m, xs, ys, j, v2, rfl, WA, hv2, ?_⟩
      refine ⟨_, rfl, _, rfl, ts[j], m, y, n, v2, rfl, hd, W.ok _ (List.getElem_mem jl), by omega, fun H3 s3 => ?_⟩
      have e : brB ts (j : Int) y n = ts[j].sb y n := by
        unfold brB sbAt
        rw [decide_eq_true c0, decide_eq_true c1, Int.toNat_natCast, hts]
        rfl
      have q1 := q H3 s3
      rw [e] at q1
      exact q1
    · refine iteCN (decide_eq_false c1) ?_
      have e : brB ts t y n = false := by
        unfold brB
        rw [decide_eq_false c1, Bool.false_and, Bool.and_false]
      rw [e] at q0
      exact q0
  · refine iteCN (decide_eq_false c0) ?_
    have e : brB ts t y n = false := by
      unfold brB
      rw [decide_eq_false c0, Bool.false_and]
    rw [e] at q0
    exact ⟨_, rfl, q0⟩

end
section
variable {P : Program} {w : World} {K : PySem.W.Frag} {mg : Str → Option Value} {base : Heap} {a : Adr} {d : Fds}
theorem tree_step (T : Txt K mg a d) (f : Nat) {p : Addr} {C : Hp → Prop} {R : Nat → Nat → Prop} {m : Nat} {ts : List Tie} {lf : Str → Nat → Nat → Bool} {fdL : FuncData} {pl : List Str} {φ : Heap → Prop}
    (L_is_leaf : FnOk P w K mg base CX0 9 p fdL pl (spLf3R C R lf)) (LB_is_leaf : Binds K fdL pl []) (LP_is_leaf : ∀ h : Heap, φ h → ∃ o fd', h.get? p = some o ∧ o.data = .func fd') (hC : ∀ H H', Same H H' → C H → C H') (hCp : ∀ H, C H → H p = some (.ext φ)) (hR : ∀ y n k, R y n → k ∈ openL m y n → R (y ||| 2 ^ k) n ∧ R y (n ||| 2 ^ k))
    (G_is_tree : FnOk P w K mg base CX0 (f + 9) a.f_is_tree d.f_is_tree ["wood", "yes", "no", "tree", "is_leaf"] (spIsTreeR f p C R m ts lf)) : FnOk P w K mg base CX0 (f + 10) a.f_is_tree d.f_is_tree ["wood", "yes", "no", "tree", "is_leaf"] (spIsTreeR (f + 1) p C R m ts lf) := by
  have G_is_broken_leaf := ok_is_broken_leaf (P := P) (w := w) (base := base) T
  have G_open_options := ok_open_options (P := P) (w := w) (base := base) T
  have G_with_option := ok_with_option (P := P) (w := w) (base := base) T
  refine T.K_is_tree.ok sc_is_tree (fun vs H Q E h => ?_) (fun cdv A outer s H vs Q E hr h => ?_)
  · obtain ⟨wd, y, n, t, v, rfl, _⟩ := h
    rfl
  obtain ⟨wd, y, n, t, v, rfl, W, dn, gd, dp, c0, q⟩ := h
  have m9 := W.m9
  obtain ⟨xs, ys, ⟨tb, tc, hw, hb, hc⟩, _⟩ := W.ex
  refine ⟨_, (pss_cons (ps_if (pt_cmpR op_eq (pe_ix (ixT (K := K)) (pv 3) pe_int (fun _ _ => rfl)) pe_str (nomark _)) (pss_one (ps_ret (pe_callD G_is_broken_leaf hr.lv rfl T.K_is_broken_leaf (pa_cons (pv 0) (pa_cons (pv 1) (pa_cons (pv 2) (pa_cons (pe_ix (ixT (K := K)) (pv 3) pe_int (fun _ _ => rfl)) pa_nil))))))) pss_nil)
      (pss_cons (ps_if (pt_cmpR op_ne (pe_ix (ixT (K := K)) (pv 3) pe_int (fun _ _ => rfl)) pe_str (nomark _)) (pss_one (ps_ret (pe_callV (i := 4) L_is_leaf hr.lv rfl (.inl rfl) LB_is_leaf LP_is_leaf (pa_cons (pe_ix (ixT (K := K)) (pv 3) pe_int (fun _ _ => rfl)) (pa_cons (pv 1) (pa_cons (pv 2) pa_nil)))))) pss_nil)
      (pss_cons (ps_set (i := 5) sc_is_tree.nd rfl (Or.inl rfl) (pe_ix (ixT (K := K)) (pv 3) pe_int (fun _ _ => rfl)))
      (pss_cons (ps_if (pt_cmpR op_notIn_seq (pv 5) (pe_callD G_open_options hr.lv rfl T.K_open_options (pa_cons (pe_ix (ixT (K := K)) (pv 0) pe_int (fun _ _ => rfl)) (pa_cons (pv 1) (pa_cons (pv 2) pa_nil)))) (by with_unfolding_all rfl)) (pss_one (ps_ret pe_bl)) pss_nil)
      (pss_cons (ps_if (pt_not (pt_val (pe_callD G_is_tree hr.lv rfl T.K_is_tree (pa_cons (pv 0) (pa_cons (pe_callD G_with_option hr.lv rfl T.K_with_option (pa_cons (pv 1) (pa_cons (pv 5) pa_nil))) (pa_cons (pv 2) (pa_cons (pe_ix (ixT (K := K)) (pv 3) pe_int (fun _ _ => rfl)) (pa_cons (pv 4) pa_nil)))))))) (pss_one (ps_ret pe_bl)) pss_nil)
      (pss_one (ps_ret (pe_callD G_is_tree hr.lv rfl T.K_is_tree (pa_cons (pv 0) (pa_cons (pv 1) (pa_cons (pe_callD G_with_option hr.lv rfl T.K_with_option (pa_cons (pv 2) (pa_cons (pv 5) pa_nil))) (pa_cons (pe_ix (ixT (K := K)) (pv 3) pe_int (fun _ _ => rfl)) (pa_cons (pv 4) pa_nil))))))))))))), ?_⟩
  cases t with
  | broken t =>
    obtain ⟨q0, xs, rfl, hp, xu, r1, rfl, hu, xl, r2, rfl, hlo, hnil⟩ := dn_tup dn
    cases (show r2 = [] from hnil)
    cases (show xu = .str ("broken" : Str) from hu)
    cases (show xl = .int t from hlo)
    refine ⟨_, rfl, q0, _, _, _, rfl, rfl, sqT hp, at0, rfl, _, rfl, ?_⟩
    refine iteD rfl ?_
    exact ⟨_, rfl, _, rfl, _, rfl, _, rfl, q0, _, _, _, rfl, rfl, sqT hp, at1, wd, m, ts, y, n, t, rfl, W, q⟩
  | leaf wo =>
    obtain ⟨q0, xs, rfl, hp, xu, r1, rfl, hu, hnil⟩ := dn_tup dn
    cases (show r1 = [] from hnil)
    cases (show xu = .str wo from hu)
    refine ⟨_, rfl, q0, _, _, _, rfl, rfl, sqT hp, at0, rfl, _, rfl, ?_⟩
    refine iteDN gd.1 ?_
    refine ⟨_, rfl, q0, _, _, _, rfl, rfl, sqT hp, at0, rfl, _, rfl, ?_⟩
    refine iteNN gd.2 ?_
    exact ⟨rfl, _, rfl, q0, _, _, _, rfl, rfl, sqT hp, at0, _, rfl, _, rfl, hCp _ c0.1, wo, y, n, rfl, c0, q⟩
  | split k ta tb' =>
    obtain ⟨q0, xs, rfl, hp, xu, r1, rfl, hu, xl, r2, rfl, hlo, va, r3, rfl, ha, vb, r4, rfl, hb', hnil⟩ := dn_tup dn
    cases (show r4 = [] from hnil)
    cases (show xu = .str ("split" : Str) from hu)
    cases (show xl = .int k from hlo)
    have da : ta.depth < f := by have e : (WT.split k ta tb').depth = max ta.depth tb'.depth + 1 := rfl; have := Nat.le_max_left ta.depth tb'.depth; omega
    have db : tb'.depth < f := by have e : (WT.split k ta tb').depth = max ta.depth tb'.depth + 1 := rfl; have := Nat.le_max_right ta.depth tb'.depth; omega
    refine ⟨_, rfl, q0, _, _, _, rfl, rfl, sqT hp, at0, rfl, _, rfl, ?_⟩
    refine iteDN split_broken ?_
    refine ⟨_, rfl, q0, _, _, _, rfl, rfl, sqT hp, at0, rfl, _, rfl, ?_⟩
    refine iteNS rfl ?_
    refine ⟨_, rfl, q0, _, _, _, rfl, rfl, sqT hp, at1, ?_⟩
    refine ⟨_, rfl, _, rfl, wd, _, _, _, rfl, rfl, sqT hw, at0, _, rfl, _, rfl, m, y, n, rfl, by omega, fun l H2 s2 nl hl => ?_⟩
    refine ⟨l, _, rfl, .inl (SqL.of hl), rfl, flat_nats _, _, rfl, ?_⟩
    by_cases c : 0 ≤ k ∧ k.toNat ∈ openL m y n
    · refine iteCN (show (!inV (.int k) (natsL (openL m y n))) = false by rw [inV_int, decide_eq_true c]; rfl) ?_
      obtain ⟨j, rfl⟩ : ∃ j : Nat, k = (j : Int) := ⟨k.toNat, by omega⟩
      have jo : j ∈ openL m y n := by have := c.2; rwa [Int.toNat_natCast] at this
      have jm := (mem_open.mp jo).1
      refine ⟨_, rfl, _, rfl, _, rfl, y, j, rfl, by omega, _, rfl, _, rfl, q0, _, _, _, rfl, rfl, sqT (s2 _ _ hp), at2, _, rfl, wd, y ||| 2 ^ j, n, ta, va, rfl, W.same s2, Dn.same s2 _ _ ha, gd.1, da, ⟨hC _ _ s2 c0.1, (hR y n j c0.2 jo).1⟩, fun H3 s3 => ?_⟩
      refine ⟨_, rfl, ?_⟩
      have s13 := s2.trans s3
      have e : ∀ H', Same H H' → Q (.bl (isT ts m lf ta (y ||| 2 ^ j) n && isT ts m lf tb' y (n ||| 2 ^ j))) H' := fun H' s' => by
        have := q H' s'
        unfold isT at this
        rw [if_pos c, Int.toNat_natCast] at this
        exact this
      cases ea : isT ts m lf ta (y ||| 2 ^ j) n with
      | false =>
        refine iteC rfl ?_
        have q3 := e _ s13
        rw [ea, Bool.false_and] at q3
        exact q3
      | true =>
        refine iteCN rfl ?_
        refine ⟨_, rfl, _, rfl, _, rfl, _, rfl, n, j, rfl, by omega, _, rfl, q0, _, _, _, rfl, rfl, sqT (s13 _ _ hp), at3, _, rfl, wd, y, n ||| 2 ^ j, tb', vb, rfl, W.same s13, Dn.same s13 _ _ hb', gd.2, db, ⟨hC _ _ s13 c0.1, (hR y n j c0.2 jo).2⟩, fun H4 s4 => ?_⟩
        have q3 := e _ (s13.trans s4)
        rw [ea, Bool.true_and] at q3
        exact q3
    · refine iteC (show (!inV (.int k) (natsL (openL m y n))) = true by rw [inV_int, decide_eq_false c]; rfl) ?_
      have q2 := q _ s2
      unfold isT at q2
      rw [if_neg c] at q2
      exact q2
theorem ok_is_treeR (T : Txt K mg a d) {p : Addr} {C : Hp → Prop} {R : Nat → Nat → Prop} {m : Nat} {ts : List Tie} {lf : Str → Nat → Nat → Bool} {fdL : FuncData} {pl : List Str} {φ : Heap → Prop}
    (L : FnOk P w K mg base CX0 9 p fdL pl (spLf3R C R lf)) (LB : Binds K fdL pl []) (LP : ∀ h : Heap, φ h → ∃ o fd', h.get? p = some o ∧ o.data = .func fd') (hC : ∀ H H', Same H H' → C H → C H') (hCp : ∀ H, C H → H p = some (.ext φ)) (hR : ∀ y n k, R y n → k ∈ openL m y n → R (y ||| 2 ^ k) n ∧ R y (n ||| 2 ^ k)) :
    ∀ f : Nat, FnOk P w K mg base CX0 (f + 9) a.f_is_tree d.f_is_tree ["wood", "yes", "no", "tree", "is_leaf"] (spIsTreeR f p C R m ts lf)
  | 0 => ⟨fun _ _ _ _ h => by obtain ⟨_, _, _, _, _, _, _, _, _, z, _⟩ := h; exact absurd z (Nat.not_lt_zero _), fun _ _ _ _ _ _ _ _ _ _ _ _ _ h => by obtain ⟨_, _, _, _, _, _, _, _, _, z, _⟩ := h; exact absurd z (Nat.not_lt_zero _)⟩
  | f + 1 => tree_step T f L LB LP hC hCp hR (ok_is_treeR T L LB LP hC hCp hR f)
theorem ok_is_tree (T : Txt K mg a d) {p : Addr} {C : Hp → Prop} {m : Nat} {ts : List Tie} {lf : Str → Nat → Nat → Bool} {fdL : FuncData} {pl : List Str} {φ : Heap → Prop}
    (L : FnOk P w K mg base CX0 9 p fdL pl (spLf3 C lf)) (LB : Binds K fdL pl []) (LP : ∀ h : Heap, φ h → ∃ o fd', h.get? p = some o ∧ o.data = .func fd') (hC : ∀ H H', Same H H' → C H → C H') (hCp : ∀ H, C H → H p = some (.ext φ)) (f : Nat) : FnOk P w K mg base CX0 (f + 9) a.f_is_tree d.f_is_tree ["wood", "yes", "no", "tree", "is_leaf"] (spIsTree f p C m ts lf) :=
  (ok_is_treeR T (L.imp fun _ _ _ _ => lf3_of) LB LP hC hCp (fun _ _ _ _ _ => ⟨trivial, trivial⟩) f).imp fun _ _ _ _ => isTree_of

end
section
variable {P : Program} {w : World} {K : PySem.W.Frag} {mg : Str → Option Value} {base : Heap} {a : Adr} {d : Fds}
theorem ok_is_ware_leaf (T : Txt K mg a d) : FnOk P w K mg base CX0 7 a.f_is_ware_leaf d.f_is_ware_leaf ["wood", "word", "yes", "no"] spWLeaf := by
  have G_open_options := ok_open_options (P := P) (w := w) (base := base) T
  have G_is_ware := ok_is_ware (P := P) (w := w) (base := base) T
  refine T.K_is_ware_leaf.ok sc_is_ware_leaf (fun vs H Q E h => ?_) (fun cdv A outer s H vs Q E hr h => ?_)
  · obtain ⟨wd, m, ts, wo, y, n, rfl, _⟩ := h
    rfl
  obtain ⟨wd, m, ts, wo, y, n, rfl, W, q⟩ := h
  have m9 := W.m9
  have q0 := q H (Same.refl H)
  obtain ⟨xs, ys, ⟨tb, tc, hw, hb, hc⟩, dn⟩ := W.ex
  refine ⟨_, (pss_one (ps_ret (pe_and (pe_cmpR op_eq (pv 1) pe_str (nomark _)) (pe_and (pe_cmpR op_eq (pe_callB (lenS (K := K)) rfl T.m_len PySem.boot_len (pa_cons (pe_callD G_open_options hr.lv rfl T.K_open_options (pa_cons (pe_ix (ixT (K := K)) (pv 0) pe_int (fun _ _ => rfl)) (pa_cons (pv 2) (pa_cons (pv 3) pa_nil)))) pa_nil)) pe_int (nomark _)) (pe_one (pe_callD G_is_ware hr.lv rfl T.K_is_ware (pa_cons (pv 0) (pa_cons (pv 2) pa_nil)))))))), ?_⟩
  refine ⟨_, rfl, rfl, _, rfl, ?_⟩
  by_cases c0 : V.str wo = V.str ("ware" : Str)
  · refine iteD c0 ?_
    refine ⟨_, rfl, wd, _, _, _, rfl, rfl, sqT hw, at0, _, rfl, _, rfl, m, y, n, rfl, by omega, fun l H2 s2 nl hl => ?_⟩
    refine ⟨l, _, rfl, .inl (SqL.of hl), rfl, _, rfl, ?_⟩
    have q2 := q H2 s2
    by_cases c1 : openL m y n = []
    · refine iteD (by rw [c1]; rfl) ?_
      refine ⟨_, rfl, _, rfl, wd, m, ts, y, rfl, W.same s2, fun H3 s3 => ?_⟩
      have q3 := q H3 (s2.trans s3)
      unfold wareOk at q3
      rw [decide_eq_true c0, decide_eq_true c1, Bool.true_and, Bool.true_and] at q3
      exact q3
    · refine iteDN (fun z => c1 (by
        injection z with z
        rw [List.length_map] at z
        exact List.length_eq_zero_iff.mp (by omega))) ?_
      unfold wareOk at q2
      rw [decide_eq_false c1, Bool.false_and, Bool.and_false] at q2
      exact q2
  · refine iteDN c0 ?_
    unfold wareOk at q0
    rw [decide_eq_false c0, Bool.false_and] at q0
    exact q0

end
section
variable {P : Program} {w : World} {K : PySem.W.Frag} {mg : Str → Option Value} {base : Heap} {a : Adr} {d : Fds}
theorem ok_are_cases (T : Txt K mg a d) (LB : LamB mg base a.c_are_cases a.t_are_cases) (f : Nat) : FnOk P w K mg base CX0 (f + 10) a.f_are_cases d.f_are_cases ["wood", "yes", "no", "tree"] (spT a.t_are_cases (spAreCases f)) := by
  refine T.K_are_cases.okC sc_are_cases (fun vs H Q E h => ?_) (fun cdv A outer s H vs Q E hcd hr h => ?_)
  · obtain ⟨_, wd, m, ts, y, n, t, v, rfl, _⟩ := h
    rfl
  obtain ⟨tb, wd, m, ts, y, n, t, v, rfl, W, dn, gd, dp, q⟩ := h
  have LC : ((cxOf CX0 P w K mg base ["wood", "yes", "no", "tree"] "are_cases" (defScope s_are_cases) a.f_are_cases cdv A outer s H E).nox).env.code = .ref a.c_are_cases := hcd.symm.trans T.code_are_cases
  have LF : ∀ y ∈ (lamScope (lastArg (retE (defBody s_are_cases)[0]?))).names, y.2 = .free → ∃ c, ((cxOf CX0 P w K mg base ["wood", "yes", "no", "tree"] "are_cases" (defScope s_are_cases) a.f_are_cases cdv A outer s H E).nox).env.cells.lookup y.1 = some c := by
    intro y hy hz
    have e : y = (("wood" : Str), NameKind.free) := by
      have h := (by decide +kernel : ∀ y ∈ (lamScope (lastArg (retE (defBody s_are_cases)[0]?))).names, y.2 = NameKind.free → y = (("wood" : Str), NameKind.free))
      exact h y hy hz
    subst e
    exact ⟨_, rfl⟩
  refine ⟨_, (pss_one (ps_ret (pe_callW (k := f + 9) (hr.mono (by first | decide | omega)) rfl T.K_is_tree.g T.K_is_tree.kp T.K_is_tree.B (fun _ => rfl) (pa_cons (pv 0) (pa_cons (pv 1) (pa_cons (pv 2) (pa_cons (pv 3) (pa_cons (pe_lam LC LB rfl LF) pa_nil)))))))), ?_⟩
  refine ⟨_, rfl, _, rfl, _, rfl, _, rfl, tb, fun p c' H1 np s1 hp hc base' ci _ _ => ?_⟩
  obtain ⟨cw, u, e1, r1, ic⟩ := ci 0 "wood" (.ref wd) rfl rfl rfl
  have hcells : ((cxOf CX0 P w K mg base ["wood", "yes", "no", "tree"] "are_cases" (defScope s_are_cases) a.f_are_cases cdv A outer s H E).nox).env.cells = [(("wood" : Str), cw)] := by
    have z : cw = s.heap.objs.size + 1 := (Option.some.inj (show some (s.heap.objs.size + 1) = some cw from e1)).symm
    rw [z]
    rfl
  have G_is_ware_leaf := ok_is_ware_leaf (P := P) (w := w) (base := base') T
  have L := lam_ok3 (P := P) (w := w) (K := K) (mg := mg) (base := base') (ps := ["word", "come", "gone"]) (fr := ["wood"]) (fv := [.ref wd]) (k := 8) (lf := wareOk ts m) (fun H => WoodT H wd m ts) hp ⟨rfl, rfl, rfl, by decide +kernel, by decide +kernel, by decide +kernel, by decide +kernel⟩
    (fun x cc h => by
      have h' := clOf_look LF h
      rw [hcells] at h'
      obtain ⟨_, rfl⟩ := lookup_one h'
      exact ⟨_, ic⟩)
    (fun x y cc h1 h2 => by
      have h1' := clOf_look LF h1
      have h2' := clOf_look LF h2
      rw [hcells] at h1' h2'
      rw [(lookup_one h1').1, (lookup_one h2').1])
    (fun y hy hz => by
      obtain ⟨c, hc⟩ := LF y hy hz
      exact ⟨c, clOf_at LF (by rw [← hz]; exact hy) hc⟩)
    (fun i x v h1 h2 => by
      cases i with
      | zero =>
        cases h1
        cases h2
        exact ⟨cw, u, clOf_at LF (by decide +kernel) e1, r1, ic⟩
      | succ i => cases h1)
    rfl (fun _ _ _ => rfl) rfl
    (fun q A outer s H wo y n Q hr W0 q' => ⟨_, pe_call G_is_ware_leaf (hr.mono (by decide)) rfl T.K_is_ware_leaf.g T.K_is_ware_leaf.kp T.K_is_ware_leaf.B .nil pass0 (pa_cons (pv 3) (pa_cons (pv 0) (pa_cons (pv 1) (pa_cons (pv 2) pa_nil)))), ⟨_, rfl, _, rfl, _, rfl, _, rfl, wd, m, ts, wo, y, n, rfl, W0, q'⟩⟩)
  have G := ok_is_tree (P := P) (w := w) (base := base') (m := m) (ts := ts) T L (.all fun us hl => match us, hl with | [_, _, _], _ => rfl) lamP_fn (fun H H' s h => ⟨h.1.same s, s _ _ h.2.1, s _ _ h.2.2⟩) (fun H h => h.2.1) f
  exact ⟨_, G, wd, y, n, t, v, rfl, W.same s1, Dn.same s1 _ _ dn, gd, dp, ⟨W.same s1, hp, hc⟩, fun H' s2 => q H' (s1.trans s2)⟩

end
section
variable {P : Program} {w : World} {K : PySem.W.Frag} {mg : Str → Option Value} {base : Heap} {a : Adr} {d : Fds}
theorem wares_in_step (T : Txt K mg a d) (f : Nat) (G_wares_in : f ≠ 0 → FnOk P w K mg base CX0 (f + 1) a.f_wares_in d.f_wares_in ["yes", "tree"] (spLeaves (f - 1))) : FnOk P w K mg base CX0 (f + 2) a.f_wares_in d.f_wares_in ["yes", "tree"] (spLeaves f) := by
  have G_with_option := ok_with_option (P := P) (w := w) (base := base) T
  refine T.K_wares_in.ok sc_wares_in (fun vs H Q E h => ?_) (fun cdv A outer s H vs Q E hr h => ?_)
  · obtain ⟨y, t, v, rfl, _⟩ := h
    rfl
  obtain ⟨y, t, v, rfl, hd, hdp, f9, sml, q⟩ := h
  cases t with
  | ware =>
    refine ⟨_, pss_cons (ps_if (pt_cmpR op_eq (pe_ix ix_tup (pv 1) pe_int (fun _ _ => rfl)) pe_str (nomark _)) (pss_one (ps_ret (pe_lst (pa_cons (pv 0) pa_nil)))) pss_nil) pss_never, ?_⟩
    obtain ⟨p, rfl, hp⟩ := at_ware hd
    refine ⟨_, rfl, p, _, _, _, rfl, rfl, sqT hp, at0, rfl, _, rfl, ?_⟩
    refine iteD rfl ?_
    refine ⟨_, rfl, small (by show 1 ≤ 1000; decide), fun l hl => ?_⟩
    exact q l _ (same_new hl _) hl upd_same
  | broken tt =>
    refine ⟨_, pss_cons (ps_if (pt_cmpR op_eq (pe_ix ix_tup (pv 1) pe_int (fun _ _ => rfl)) pe_str (nomark _)) pss_never pss_nil) (pss_cons (ps_if (pt_cmpR op_eq (pe_ix ix_tup (pv 1) pe_int (fun _ _ => rfl)) pe_str (nomark _)) pss_never pss_nil) (pss_one (ps_ret (pe_lst pa_nil)))), ?_⟩
    obtain ⟨p, rfl, hp⟩ := at_broken hd
    refine ⟨_, rfl, p, _, _, _, rfl, rfl, sqT hp, at0, rfl, _, rfl, ?_⟩
    refine iteDN broken_ware ?_
    refine ⟨_, rfl, p, _, _, _, rfl, rfl, sqT hp, at0, rfl, _, rfl, ?_⟩
    refine iteDN broken_split ?_
    refine ⟨small (by decide), fun l hl => ?_⟩
    exact q l _ (same_new hl _) hl upd_same
  | split k ta tb =>
    have hf0 : f ≠ 0 := fun z => by rw [z] at hdp; simp [CT.depth] at hdp
    have G_wares_in := G_wares_in hf0
    have hdp' : max ta.depth tb.depth + 1 ≤ f := hdp
    refine ⟨_, (pss_cons (ps_if (pt_cmpR op_eq (pe_ix (ixT (K := K)) (pv 1) pe_int (fun _ _ => rfl)) pe_str (nomark _)) (pss_one (ps_ret (pe_lst (pa_cons (pv 0) pa_nil)))) pss_nil)
      (pss_cons (ps_if (pt_cmpR op_eq (pe_ix (ixT (K := K)) (pv 1) pe_int (fun _ _ => rfl)) pe_str (nomark _)) (pss_one (ps_ret (pe_op op_cat (pe_callD G_wares_in hr.lv rfl T.K_wares_in (pa_cons (pe_callD G_with_option hr.lv rfl T.K_with_option (pa_cons (pv 0) (pa_cons (pe_ix (ixT (K := K)) (pv 1) pe_int (fun _ _ => rfl)) pa_nil))) (pa_cons (pe_ix (ixT (K := K)) (pv 1) pe_int (fun _ _ => rfl)) pa_nil))) (pe_callD G_wares_in hr.lv rfl T.K_wares_in (pa_cons (pv 0) (pa_cons (pe_ix (ixT (K := K)) (pv 1) pe_int (fun _ _ => rfl)) pa_nil)))))) pss_nil)
      (pss_one (ps_ret (pe_lst pa_nil))))), ?_⟩
    obtain ⟨p, va, vb, rfl, hp, da, db⟩ := at_split hd
    obtain ⟨k1, sa, sb⟩ := sml
    refine ⟨_, rfl, p, _, _, _, rfl, rfl, sqT hp, at0, rfl, _, rfl, ?_⟩
    refine iteDN split_ware ?_
    refine ⟨_, rfl, p, _, _, _, rfl, rfl, sqT hp, at0, rfl, _, rfl, ?_⟩
    refine iteD rfl ?_
    refine ⟨_, rfl, _, rfl, p, _, _, _, rfl, rfl, sqT hp, at1, y, k, rfl, k1, _, rfl, p, _, _, _, rfl, rfl, sqT hp, at2, y ||| 2 ^ k, ta, va, rfl, da, by omega, by omega, sa, fun l1 H1 s1 n1 h1 => ?_⟩
    refine ⟨_, rfl, _, rfl, p, _, _, _, rfl, rfl, sqT (s1 _ _ hp), at3, y, tb, vb, rfl, Dn.same s1 _ _ db, by omega, by omega, sb, fun l2 H2 s2 n2 h2 => ?_⟩
    have f1 := leaves_few ta (y ||| 2 ^ k)
    have f2 := leaves_few tb y
    have p1 : 2 ^ ta.depth ≤ 2 ^ 8 := Nat.pow_le_pow_right (by decide) (by omega)
    have p2 : 2 ^ tb.depth ≤ 2 ^ 8 := Nat.pow_le_pow_right (by decide) (by omega)
    refine ⟨l1, l2, _, _, rfl, rfl, s2 _ _ h1, h2, (by rw [List.length_map, List.length_map]; exact small (by omega)), fun l3 h3 => ?_⟩
    have e : natsL (ta.leaves (y ||| 2 ^ k)) ++ natsL (tb.leaves y) = natsL ((CT.split k ta tb).leaves y) := by
      show _ = natsL (ta.leaves (y ||| 2 ^ k) ++ tb.leaves y)
      rw [natsL, natsL, natsL, List.map_append]
    rw [e]
    exact q l3 _ ((s1.trans s2).trans (same_new h3 _)) ((s1.trans s2).free h3) upd_same
theorem ok_wares_in (T : Txt K mg a d) : ∀ f : Nat, FnOk P w K mg base CX0 (f + 2) a.f_wares_in d.f_wares_in ["yes", "tree"] (spLeaves f)
  | 0 => wares_in_step T 0 fun h => absurd rfl h
  | f + 1 => wares_in_step T (f + 1) fun _ => ok_wares_in T f

end
section
variable {P : Program} {w : World} {K : PySem.W.Frag} {mg : Str → Option Value} {base : Heap} {a : Adr} {d : Fds}
theorem ok_wares (T : Txt K mg a d) (LB : LamB mg base a.c_cases_of a.t_cases_of) : FnOk P w K mg base CX0 20 a.f_wares d.f_wares ["wood"] (spT a.t_cases_of spWares) := by
  have G_cases := ok_cases (P := P) (w := w) (base := base) T LB
  have G_wares_in := ok_wares_in (P := P) (w := w) (base := base) T 9
  have G_with_option := ok_with_option (P := P) (w := w) (base := base) T
  refine T.K_wares.ok sc_wares (fun vs H Q E h => ?_) (fun cdv A outer s H vs Q E hr h => ?_)
  · obtain ⟨_, wd, m, ts, rfl, _⟩ := h
    rfl
  obtain ⟨tb, wd, m, ts, rfl, W, m1, m9, q⟩ := h
  have of := open_few m 1 0
  have dp := casesF_depth (ts := ts) (il := allT ts) (m := m) 9 1 0
  have sml := casesF_small (ts := ts) (il := allT ts) (m := m) (by omega) 9 1 0
  have pm := wares_perm W.ok m1 9 (by omega)
  refine ⟨_, (pss_cons (ps_set (i := 1) sc_wares.nd rfl (Or.inl rfl) (pe_callD G_with_option hr.lv rfl T.K_with_option (pa_cons pe_int (pa_cons pe_int pa_nil))))
      (pss_one (ps_ret (pe_callB call_sortedB rfl T.m_sorted PyProof.Rows.boot_sorted (pa_cons (pe_callD G_wares_in hr.lv rfl T.K_wares_in (pa_cons (pv 1) (pa_cons (pe_callD G_cases hr.lv rfl T.K_cases (pa_cons (pv 0) (pa_cons (pv 1) (pa_cons pe_int pa_nil)))) pa_nil))) pa_nil))))), ?_⟩
  refine ⟨0, 0, rfl, by decide, ?_⟩
  refine ⟨_, rfl, _, rfl, _, rfl, tb, wd, m, ts, 1, 0, rfl, W, m9, fun v H1 s1 dv => ?_⟩
  refine ⟨1, _, v, rfl, dv, dp, by omega, sml, fun l H2 s2 n2 hl2 => ?_⟩
  refine ⟨l, ((casesF ts (allT ts) m 9 1 0).leaves 1).map (fun k : Nat => (k : Int)), rfl, SqL.of (by rw [hl2]; exact congrArg some (congrArg HO.lst (natsV _).symm)), fun ms h1 h2 l3 h3 => ?_⟩
  rw [sorted_nats h1 h2 pm (wareL_pw m ts), natsV]
  exact q l3 _ ((s1.trans s2).trans (same_new h3 _)) ((s1.trans s2).free h3) upd_same

end
section
variable {P : Program} {w : World} {K : PySem.W.Frag} {mg : Str → Option Value} {base : Heap} {a : Adr} {d : Fds}
theorem ok_price_of (T : Txt K mg a d) : FnOk P w K mg base CX0 3 a.f_price_of d.f_price_of ["prices", "some"] spPrice := by
  have G_options_of := ok_options_of (P := P) (w := w) (base := base) T
  refine T.K_price_of.ok sc_price_of (fun vs H Q E h => ?_) (fun cdv A outer s H vs Q E hr h => ?_)
  · obtain ⟨lp, ps, n, rfl, _⟩ := h
    rfl
  obtain ⟨lp, ps, n, rfl, hlp, p9, hn, q⟩ := h
  have n9 : n < 512 := Nat.lt_of_lt_of_le hn (Nat.le_trans (Nat.pow_le_pow_right (by decide) p9) (by decide))
  have bl : (bitsL n).length ≤ 9 := by
    refine Nat.le_trans (List.length_filter_le _ _) ?_
    rw [List.length_range]
    exact bits_le9 n9
  refine ⟨_, (pss_one (ps_ret (pe_callB (call_sum_ints rfl) rfl T.m_sum PyProof.Rows.boot_sum (pa_cons (pe_lc (sc0 := defScope s_price_of) (XN := ["prices", "some"]) (N' := ["k", "prices"]) (n := 1) (kp := [0]) rfl (piL (K := K) (pe_callD G_options_of hr.lv rfl T.K_options_of (pa_cons (pv 1) pa_nil))) rfl rfl (by decide +kernel) (fun _ _ _ _ _ => (pg_name (i := 0) (by show List.Nodup (["k", "prices"] : List Str); decide +kernel) rfl (Or.inl rfl))) (fun _ _ _ _ _ => pts_nil) (fun _ _ _ _ _ => (pe_ix (ixL (K := K)) (pv 1) (pv 0) (fun _ _ => rfl)))) pa_nil)))), ?_⟩
  refine ⟨_, rfl, n, rfl, n9, fun l H1 s1 nl hl => ?_⟩
  refine ⟨l, rfl, ⟨_, SqL.of hl⟩, ?_⟩
  refine lc_list (K := K) (a := l) (xs := natsL (bitsL n)) (fun j ys σ H2 => (∃ v, σ = [v, some (.ref lp)]) ∧ H2 = H1 ∧ ys = (((bitsL n).take j).map fun k => ps.getD k 0).map V.int) ⟨⟨none, rfl⟩, rfl, rfl⟩ (fun j ys σ H2 hj pv => ?_) (fun j ys σ H2 hj pv => ?_) (fun j x ys σ H2 hx pv => ?_) (fun ys σ H2 pv la hla => ?_)
  · obtain ⟨_, _, rfl⟩ := pv
    rw [List.length_map, List.length_map, List.length_take]
    exact small (by omega)
  · rw [pv.2.1]
    exact SqL.of hl
  · obtain ⟨⟨v, rfl⟩, rfl, rfl⟩ := pv
    rw [List.getElem?_map] at hx
    obtain ⟨k, hk, rfl⟩ := Option.map_eq_some_iff.mp hx
    have kb := mem_bitsL.mp (List.mem_of_getElem? hk)
    have kl : k < ps.length := by
      rcases Nat.lt_or_ge k ps.length with z | z
      · exact z
      · have p : 2 ^ ps.length ≤ 2 ^ k := Nat.pow_le_pow_right (by decide) z
        rw [Nat.testBit_lt_two_pow (by omega)] at kb
        cases kb
    have pk : ps[k]? = some ps[k] := List.getElem?_eq_getElem kl
    refine ⟨_, rfl, _, rfl, lp, _, _, .int ps[k], rfl, rfl, SqL.of (s1 _ _ hlp), atI_nat (by rw [List.getElem?_map, pk]; rfl), ⟨_, rfl⟩, rfl, ?_⟩
    rw [take_map_succ hk, List.map_append, List.getD_eq_getElem?_getD, pk]
    rfl
  obtain ⟨_, rfl, rfl⟩ := pv
  rw [show (natsL (bitsL n)).length = (bitsL n).length from List.length_map _, List.take_length]
  exact ⟨la, _, rfl, SqL.of upd_same, q _ (s1.trans (same_new hla _))⟩

end
section
variable {P : Program} {w : World} {K : PySem.W.Frag} {mg : Str → Option Value} {base : Heap} {a : Adr} {d : Fds}
theorem ok_is_dear (T : Txt K mg a d) : FnOk P w K mg base CX0 3 a.f_is_dear d.f_is_dear ["prices", "price", "yes", "no"] spDear := by
  have G_least_sum := ok_least_sumA (P := P) (w := w) (base := base) T
  refine T.K_is_dear.ok sc_is_dear (fun vs H Q E h => ?_) (fun cdv A outer s H vs Q E hr h => ?_)
  · obtain ⟨lp, ps, p, y, n, rfl, _⟩ := h
    rfl
  obtain ⟨lp, ps, p, y, n, rfl, hl, p9, q⟩ := h
  refine ⟨_, (pss_one (ps_ret (pe_cmpR op_ge (pe_callD G_least_sum hr.lv rfl T.K_least_sum (pa_cons (pe_listEnum (K := K) rfl rfl T.m_list rfl T.m_enumerate (pa_cons (pv 0) pa_nil)) (pa_cons (pv 2) (pa_cons (pv 3) pa_nil)))) (pv 1) (nomark _)))), ?_⟩
  refine ⟨_, rfl, lp, _, rfl, SqL.of hl, fun l xs H1 s1 nl hl1 en => ?_⟩
  refine ⟨_, rfl, _, rfl, l, xs, enumP ps, y, n, rfl, .inr hl1, enV_dn en, by unfold enumP; rw [List.length_map, List.length_range]; omega, fun H2 s2 => ?_⟩
  exact ⟨_, rfl, _, _, rfl, rfl, q H2 (s1.trans s2)⟩

end
section
variable {P : Program} {w : World} {K : PySem.W.Frag} {mg : Str → Option Value} {base : Heap} {a : Adr} {d : Fds}
theorem ok_dear_leaf (T : Txt K mg a d) : FnOk P w K mg base CX0 4 a.f_dear_leaf d.f_dear_leaf ["prices", "price", "yes", "no"] spDearLeaf := by
  have G_is_dear := ok_is_dear (P := P) (w := w) (base := base) T
  refine T.K_dear_leaf.ok sc_dear_leaf (fun vs H Q E h => ?_) (fun cdv A outer s H vs Q E hr h => ?_)
  · obtain ⟨lp, ps, p, y, n, rfl, _⟩ := h
    rfl
  obtain ⟨lp, ps, p, y, n, rfl, hl, p9, q⟩ := h
  refine ⟨_, (pss_cons (ps_if (pt_val (pe_callD G_is_dear hr.lv rfl T.K_is_dear (pa_cons (pv 0) (pa_cons (pv 1) (pa_cons (pv 2) (pa_cons (pv 3) pa_nil)))))) (pss_one (ps_ret (pe_tup (pa_cons pe_str pa_nil)))) pss_nil)
      (pss_one (ps_ret pe_non))), ?_⟩
  refine ⟨_, rfl, _, rfl, _, rfl, _, rfl, lp, ps, p, y, n, rfl, hl, p9, fun H1 s1 => ?_⟩
  refine ⟨_, rfl, ?_⟩
  cases c : dearB ps p y n with
  | true =>
    refine iteC rfl ?_
    refine ⟨small (by show 1 ≤ 1000; decide), fun tp htp => ?_⟩
    have s2 := same_new htp (.tup [.str ("dear" : Str)])
    refine q _ _ (s1.trans s2) ?_
    unfold LeafV dearLeaf
    rw [if_pos c]
    exact ⟨⟨tp, _, rfl, upd_same, _, _, rfl, rfl, rfl⟩, tp, rfl⟩
  | false =>
    refine iteCN rfl ?_
    refine q _ _ s1 ?_
    unfold LeafV dearLeaf
    rw [if_neg (by rw [c]; exact Bool.false_ne_true)]

end
section
variable {P : Program} {w : World} {K : PySem.W.Frag} {mg : Str → Option Value} {base : Heap} {a : Adr} {d : Fds}
theorem ok_best (T : Txt K mg a d) (LBc : LamB mg base a.c_cases_of a.t_cases_of) (LB : LamB mg base a.c_best a.t_best) : FnOk P w K mg base CX0 22 a.f_best d.f_best ["wood", "prices"] (spT a.t_cases_of (spT a.t_best spBest)) := by
  have G_cases := ok_cases (P := P) (w := w) (base := base) T LBc
  have G_wares := ok_wares (P := P) (w := w) (base := base) T LBc
  have G_with_option := ok_with_option (P := P) (w := w) (base := base) T
  have G_every_tie := ok_every_tie (P := P) (w := w) (base := base) T
  have G_price_of := ok_price_of (P := P) (w := w) (base := base) T
  refine T.K_best.okC sc_best (fun vs H Q E h => ?_) (fun cdv A outer s H vs Q E hcd hr h => ?_)
  · obtain ⟨_, _, wd, lp, m, ts, ps, rfl, _⟩ := h
    rfl
  obtain ⟨tb, tb2, wd, lp, m, ts, ps, rfl, W, m1, m9, hlp, lm, qn, qb⟩ := h
  have LC : ((cxOf CX0 P w K mg base ["wood", "prices", "root", "sold", "ware", "price", "tree"] "best" (defScope s_best) a.f_best cdv A outer s H E).nox).env.code = .ref a.c_best := hcd.symm.trans T.code_best
  have LF1 : ∀ y ∈ (lamScope (kwArg (setE (defBody s_best)[3]?))).names, y.2 = .free → ∃ c, ((cxOf CX0 P w K mg base ["wood", "prices", "root", "sold", "ware", "price", "tree"] "best" (defScope s_best) a.f_best cdv A outer s H E).nox).env.cells.lookup y.1 = some c := by
    intro y hy hz
    have e : y = (("prices" : Str), NameKind.free) := (by decide +kernel : ∀ y ∈ (lamScope (kwArg (setE (defBody s_best)[3]?))).names, y.2 = NameKind.free → y = (("prices" : Str), NameKind.free)) y hy hz
    subst e
    exact ⟨_, rfl⟩
  have LF2 : ∀ y ∈ (lamScope (lastArg (setE (defBody s_best)[5]?))).names, y.2 = .free → ∃ c, ((cxOf CX0 P w K mg base ["wood", "prices", "root", "sold", "ware", "price", "tree"] "best" (defScope s_best) a.f_best cdv A outer s H E).nox).env.cells.lookup y.1 = some c := by
    intro y hy hz
    have e : y = (("prices" : Str), NameKind.free) ∨ y = (("price" : Str), NameKind.free) := (by decide +kernel : ∀ y ∈ (lamScope (lastArg (setE (defBody s_best)[5]?))).names, y.2 = NameKind.free → y = (("prices" : Str), NameKind.free) ∨ y = (("price" : Str), NameKind.free)) y hy hz
    rcases e with rfl | rfl
    · exact ⟨_, rfl⟩
    · exact ⟨_, rfl⟩
  refine ⟨_, (pss_cons (ps_set (i := 2) sc_best.nd rfl (Or.inl rfl) (pe_callD G_with_option hr.lv rfl T.K_with_option (pa_cons pe_int (pa_cons pe_int pa_nil))))
      (pss_cons (ps_set (i := 3) sc_best.nd rfl (Or.inl rfl) (pe_callD G_wares hr.lv rfl T.K_wares (pa_cons (pv 0) pa_nil)))
      (pss_cons (ps_if (pt_cmpR op_eq (pe_callB (lenS (K := K)) rfl T.m_len PySem.boot_len (pa_cons (pv 3) pa_nil)) pe_int (nomark _)) (pss_one (ps_ret (pe_tup (pa_cons pe_str (pa_cons (pe_callD G_cases hr.lv rfl T.K_cases (pa_cons (pv 0) (pa_cons (pv 2) (pa_cons pe_int pa_nil)))) pa_nil))))) pss_nil)
      (pss_cons (ps_set (i := 4) sc_best.nd rfl (Or.inl rfl) (pe_minKey (k := 4) rfl hr.lv rfl T.m_min PyProof.Rows.boot_min (fun _ => rfl) (pa_cons (pv 3) pa_nil) (pk_cons (pe_lam LC LB rfl LF1) pk_nil)))
      (pss_cons (ps_set (i := 5) sc_best.nd rfl (Or.inr rfl) (pe_callD G_price_of hr.lv rfl T.K_price_of (pa_cons (pv 1) (pa_cons (pv 4) pa_nil))))
      (pss_cons (ps_set (i := 6) sc_best.nd rfl (Or.inl rfl) (pe_callW (k := 17) hr.lv rfl T.K_told_tree.g T.K_told_tree.kp T.K_told_tree.B (fun _ => rfl) (pa_cons (pv 0) (pa_cons (pe_callD G_every_tie hr.lv rfl T.K_every_tie (pa_cons (pv 0) pa_nil)) (pa_cons (pv 2) (pa_cons pe_int (pa_cons (pe_lam LC LB rfl LF2) pa_nil)))))))
      (pss_one (ps_ret (pe_tup (pa_cons pe_str (pa_cons (pv 4) (pa_cons (pv 5) (pa_cons (pv 6) pa_nil))))))))))))), ?_⟩
  refine ⟨0, 0, rfl, by decide, ?_⟩
  refine ⟨_, rfl, tb, wd, m, ts, rfl, W, m1, m9, fun l H1 s1 nl hl => ?_⟩
  refine ⟨_, rfl, l, _, rfl, .inl (SqL.of hl), rfl, _, rfl, ?_⟩
  rw [dec_cnt0, List.length_map]
  have W1 := W.same s1
  by_cases c : wareL m ts = []
  · refine iteD (by rw [c]; rfl) ?_
    refine ⟨_, rfl, _, rfl, Same.tab s1 tb, wd, m, ts, 1, 0, rfl, W1, m9, fun v H2 s2 dv => ?_⟩
    refine ⟨small (by show 2 ≤ 1000; decide), fun tp htp => ?_⟩
    have s3 := same_new htp (.tup [.str ("none" : Str), v])
    exact qn c _ _ ((s1.trans s2).trans s3) ⟨tp, _, rfl, upd_same, _, _, rfl, rfl, _, _, rfl, Dn.same s3 _ _ dv, rfl⟩
  have wl : 0 < (wareL m ts).length := List.length_pos_iff.mpr c
  refine iteDN (by omega) ?_
  have hp1 : H1 lp = some (.lst (ps.map V.int)) := s1 _ _ hlp
  refine ⟨_, rfl, Same.tab s1 tb2, fun p c' H2 np s2 hp hc => ?_⟩
  have hp2 : H2 lp = some (.lst (ps.map V.int)) := s2 _ _ hp1
  refine ⟨l, p, _, rfl, rfl, s2 _ _ hl, by rw [List.length_map]; exact wl, fun base' ci _ _ => ?_⟩
  have LM := lam_cells (fr := ["prices"]) (fv := [.ref lp]) LF1 rfl ci (by decide +kernel) (by decide +kernel) rfl (fun i x v h1 h2 => by
    cases i with
    | zero =>
      cases h1
      cases h2
      exact ⟨1, rfl, rfl, rfl⟩
    | succ i => cases h1)
  have G_price := ok_price_of (P := P) (w := w) (base := base') T
  have L := lam_okC (P := P) (w := w) (K := K) (mg := mg) (base := base') (ps := ["some"]) (k := 3) (spKey lp ps) hp LM ⟨rfl, rfl, rfl, by decide +kernel, by decide +kernel, by decide +kernel, by decide +kernel⟩ rfl (fun _ _ _ => rfl) (fun vs H Q E h => by obtain ⟨_, rfl, _⟩ := h; rfl)
    (fun q A outer s H vs Q E hr h => by
      obtain ⟨n, rfl, hl, ln, q'⟩ := h
      exact ⟨_, pe_callD G_price hr.lv rfl T.K_price_of (pa_cons (pv 1) (pa_cons (pv 0) pa_nil)), _, rfl, _, rfl, lp, ps, n, rfl, hl, by omega, ln, q'⟩)
  refine ⟨_, ["some"], _, fun j => priceS ps ((wareL m ts).getD j 0), L, .all fun us hl => match us, hl with | [_], _ => rfl, fun j v H3 hj s3 => ?_, fun i v H3 hi best s3 => ?_⟩
  · rw [List.getElem?_map] at hj
    obtain ⟨w0, hw, rfl⟩ := Option.map_eq_some_iff.mp hj
    have wm := (mem_wareL.mp (List.mem_of_getElem? hw)).1
    refine ⟨⟨w0, rfl, s3 _ _ hp2, by rw [lm]; exact wm, fun H4 s4 => ⟨?_, s4⟩⟩, s3 _ _ hp, s3 _ _ hc⟩
    show _ = V.int (priceS ps ((wareL m ts).getD j 0))
    rw [List.getD_eq_getElem?_getD, hw]
    rfl
  rw [List.getElem?_map] at hi
  obtain ⟨w0, hw, rfl⟩ := Option.map_eq_some_iff.mp hi
  have wm := (mem_wareL.mp (List.mem_of_getElem? hw)).1
  have B := best_at hw best
  have s03 := (s1.trans s2).trans s3
  refine ⟨_, rfl, _, rfl, lp, ps, w0, rfl, s03 _ _ hlp, by omega, by rw [lm]; exact wm, fun H4 s4 => ?_⟩
  have s04 := s03.trans s4
  have W4 := W.same s04
  refine ⟨_, rfl, _, rfl, wd, m, ts, rfl, W4, fun tl H5 s5 nl5 hl5 => ?_⟩
  have s05 := s04.trans s5
  refine ⟨_, rfl, Same.tab s05 tb2, fun p2 c2 H6 np2 s6 hp2' hc2 base2 ci2 _ _ => ?_⟩
  have s06 := s05.trans s6
  have LM2 := lam_cells (fr := ["prices", "price"]) (fv := [.ref lp, .int (priceS ps w0)]) LF2 rfl ci2 (by decide +kernel) (by decide +kernel) rfl (fun i x v h1 h2 => by
    cases i with
    | zero =>
      cases h1
      cases h2
      exact ⟨1, rfl, rfl, rfl⟩
    | succ i =>
      cases i with
      | zero =>
        cases h1
        cases h2
        exact ⟨5, rfl, rfl, rfl⟩
      | succ i => cases h1)
  have G_leaf := ok_dear_leaf (P := P) (w := w) (base := base2) T
  have L2 := lam_fn (P := P) (w := w) (K := K) (mg := mg) (base := base2) (ps := ["yes", "no"]) (k := 6) (leaf := dearLeaf ps (priceS ps w0)) (fun H => H lp = some (.lst (ps.map V.int))) hp2' ⟨rfl, rfl, rfl, by decide +kernel, by decide +kernel, by decide +kernel, by decide +kernel⟩ LM2.cell LM2.inj LM2.has LM2.val rfl (fun _ _ _ => rfl) rfl
    (fun q A outer s H y n Q hr hl q' => ⟨_, pe_callD G_leaf hr.lv rfl T.K_dear_leaf (pa_cons (pv 2) (pa_cons (pv 3) (pa_cons (pv 0) (pa_cons (pv 1) pa_nil)))), ⟨_, rfl, _, rfl, _, rfl, _, rfl, lp, ps, priceS ps w0, y, n, rfl, hl, by omega, q'⟩⟩)
  have G := ok_told_tree (P := P) (w := w) (base := base2) (m := m) T L2 (.all fun us hl => match us, hl with | [_, _], _ => rfl) lamP_fn (fun H H' s h => ⟨s _ _ h.1, s _ _ h.2.1, s _ _ h.2.2⟩) (fun H h => h.2.1) 9
  have of := open_few m 1 0
  refine ⟨_, G, wd, ts, tl, allT ts, 1, 0, rfl, W.same s06, s6 _ _ hl5, (fun i hi => List.mem_range.mp hi), by omega, ⟨s06 _ _ hlp, hp2', hc2⟩, best_ends W.ok m1 lm B, fun v H7 s7 dv => ?_⟩
  refine ⟨_, rfl, _, rfl, _, rfl, small (by show 4 ≤ 1000; decide), fun tp htp => ?_⟩
  have s8 := same_new htp (.tup [.str ("best" : Str), .int (w0 : Int), .int (priceS ps w0), v])
  exact qb w0 _ _ B ((s06.trans s7).trans s8) ⟨tp, _, rfl, upd_same, _, _, rfl, rfl, _, _, rfl, rfl, _, _, rfl, rfl, _, _, rfl, Dn.same s8 _ _ dv, rfl⟩

end
section
variable {P : Program} {w : World} {K : PySem.W.Frag} {mg : Str → Option Value} {base : Heap} {a : Adr} {d : Fds}
theorem ok_is_bound_leaf (T : Txt K mg a d) : FnOk P w K mg base CX0 8 a.f_is_bound_leaf d.f_is_bound_leaf ["wood", "prices", "price", "word", "yes", "no"] spBoundLeaf := by
  have G_is_dear := ok_is_dear (P := P) (w := w) (base := base) T
  have G_is_ware_leaf := ok_is_ware_leaf (P := P) (w := w) (base := base) T
  have G_price_of := ok_price_of (P := P) (w := w) (base := base) T
  refine T.K_is_bound_leaf.ok sc_is_bound_leaf (fun vs H Q E h => ?_) (fun cdv A outer s H vs Q E hr h => ?_)
  · obtain ⟨wd, lp, m, ts, ps, p, wo, y, n, rfl, _⟩ := h
    rfl
  obtain ⟨wd, lp, m, ts, ps, p, wo, y, n, rfl, W, hl, lm, m9, ym, q⟩ := h
  refine ⟨_, (pss_cons (ps_if (pt_cmpR op_eq (pv 3) pe_str (nomark _)) (pss_one (ps_ret (pe_callD G_is_dear hr.lv rfl T.K_is_dear (pa_cons (pv 1) (pa_cons (pv 2) (pa_cons (pv 4) (pa_cons (pv 5) pa_nil))))))) pss_nil)
      (pss_one (ps_ret (pe_and (pe_callD G_is_ware_leaf hr.lv rfl T.K_is_ware_leaf (pa_cons (pv 0) (pa_cons (pv 3) (pa_cons (pv 4) (pa_cons (pv 5) pa_nil))))) (pe_one (pe_cmpR op_ge (pe_callD G_price_of hr.lv rfl T.K_price_of (pa_cons (pv 1) (pa_cons (pv 4) pa_nil))) (pv 2) (nomark _))))))), ?_⟩
  refine ⟨_, rfl, rfl, _, rfl, ?_⟩
  unfold boundOk at q
  by_cases c : V.str wo = V.str ("dear" : Str)
  · refine iteD c ?_
    rw [if_pos c] at q
    exact ⟨_, rfl, _, rfl, _, rfl, _, rfl, lp, ps, p, y, n, rfl, hl, by omega, q⟩
  · refine iteDN c ?_
    rw [if_neg c] at q
    refine ⟨_, rfl, _, rfl, _, rfl, _, rfl, wd, m, ts, wo, y, n, rfl, W, fun H1 s1 => ?_⟩
    cases e : wareOk ts m wo y n with
    | true =>
      refine ⟨_, rfl, ?_⟩
      refine iteC rfl ?_
      refine ⟨_, rfl, _, rfl, lp, ps, y, rfl, s1 _ _ hl, by omega, by rw [lm]; exact ym e, fun H2 s2 => ?_⟩
      have q2 := q H2 (s1.trans s2)
      rw [e, Bool.true_and] at q2
      exact ⟨_, rfl, _, _, rfl, rfl, q2⟩
    | false =>
      refine ⟨_, rfl, ?_⟩
      refine iteCN rfl ?_
      have q1 := q H1 s1
      rw [e, Bool.false_and] at q1
      exact q1

end
section
variable {P : Program} {w : World} {K : PySem.W.Frag} {mg : Str → Option Value} {base : Heap} {a : Adr} {d : Fds}
theorem ok_are_bounds (T : Txt K mg a d) (LB : LamB mg base a.c_are_bounds a.t_are_bounds) (f : Nat) : FnOk P w K mg base CX0 (f + 10) a.f_are_bounds d.f_are_bounds ["wood", "prices", "price", "tree"] (spT a.t_are_bounds (spBounds f)) := by
  have G_with_option := ok_with_option (P := P) (w := w) (base := base) T
  refine T.K_are_bounds.okC sc_are_bounds (fun vs H Q E h => ?_) (fun cdv A outer s H vs Q E hcd hr h => ?_)
  · obtain ⟨_, wd, lp, m, ts, ps, p, t, v, rfl, _⟩ := h
    rfl
  obtain ⟨tb, wd, lp, m, ts, ps, p, t, v, rfl, W, m1, m9, hlp, lm, dn, gd, dp, q⟩ := h
  have LC : ((cxOf CX0 P w K mg base ["wood", "prices", "price", "tree", "root"] "are_bounds" (defScope s_are_bounds) a.f_are_bounds cdv A outer s H E).nox).env.code = .ref a.c_are_bounds := hcd.symm.trans T.code_are_bounds
  have LF : ∀ y ∈ (lamScope (lastArg (retE (defBody s_are_bounds)[1]?))).names, y.2 = .free → ∃ c, ((cxOf CX0 P w K mg base ["wood", "prices", "price", "tree", "root"] "are_bounds" (defScope s_are_bounds) a.f_are_bounds cdv A outer s H E).nox).env.cells.lookup y.1 = some c := by
    intro y hy hz
    have e : y = (("wood" : Str), NameKind.free) ∨ y = (("prices" : Str), NameKind.free) ∨ y = (("price" : Str), NameKind.free) := (by decide +kernel : ∀ y ∈ (lamScope (lastArg (retE (defBody s_are_bounds)[1]?))).names, y.2 = NameKind.free → y = (("wood" : Str), NameKind.free) ∨ y = (("prices" : Str), NameKind.free) ∨ y = (("price" : Str), NameKind.free)) y hy hz
    rcases e with rfl | rfl | rfl
    · exact ⟨_, rfl⟩
    · exact ⟨_, rfl⟩
    · exact ⟨_, rfl⟩
  refine ⟨_, (pss_cons (ps_set (i := 4) sc_are_bounds.nd rfl (Or.inl rfl) (pe_callD G_with_option hr.lv rfl T.K_with_option (pa_cons pe_int (pa_cons pe_int pa_nil))))
      (pss_one (ps_ret (pe_callW (k := f + 9) hr.lv rfl T.K_is_tree.g T.K_is_tree.kp T.K_is_tree.B (fun _ => rfl) (pa_cons (pv 0) (pa_cons (pv 4) (pa_cons pe_int (pa_cons (pv 3) (pa_cons (pe_lam LC LB rfl LF) pa_nil))))))))), ?_⟩
  refine ⟨0, 0, rfl, by decide, ?_⟩
  refine ⟨_, rfl, _, rfl, _, rfl, tb, fun p1 c1 H1 np s1 hp hc base' ci _ _ => ?_⟩
  have LM := lam_cells (fr := ["wood", "prices", "price"]) (fv := [.ref wd, .ref lp, .int p]) LF rfl ci (by decide +kernel) (by decide +kernel) rfl (fun i x v h1 h2 => by
    match i, h1, h2 with
    | 0, h1, h2 =>
      cases h1
      cases h2
      exact ⟨0, rfl, rfl, rfl⟩
    | 1, h1, h2 =>
      cases h1
      cases h2
      exact ⟨1, rfl, rfl, rfl⟩
    | 2, h1, h2 =>
      cases h1
      cases h2
      exact ⟨2, rfl, rfl, rfl⟩
    | i + 3, h1, h2 => cases h1)
  have G_leaf := ok_is_bound_leaf (P := P) (w := w) (base := base') T
  have L := lam_okC (P := P) (w := w) (K := K) (mg := mg) (base := base') (ps := ["word", "yes", "no"]) (k := 8) (spLf3R (fun H => WoodT H wd m ts ∧ H lp = some (.lst (ps.map V.int))) (fun y _ => y < 2 ^ m) (boundOk m ts ps p)) hp LM ⟨rfl, rfl, rfl, by decide +kernel, by decide +kernel, by decide +kernel, by decide +kernel⟩ rfl (fun _ _ _ => rfl) (fun vs H Q E h => by obtain ⟨_, _, _, rfl, _⟩ := h; rfl)
    (fun q A outer s H vs Q E hr h => by
      obtain ⟨wo, y, n, rfl, ⟨⟨W0, hl⟩, ym⟩, q'⟩ := h
      exact ⟨_, pe_callD G_leaf hr.lv rfl T.K_is_bound_leaf (pa_cons (pv 3) (pa_cons (pv 4) (pa_cons (pv 5) (pa_cons (pv 0) (pa_cons (pv 1) (pa_cons (pv 2) pa_nil)))))), _, rfl, _, rfl, _, rfl, _, rfl, _, rfl, _, rfl, wd, lp, m, ts, ps, p, wo, y, n, rfl, W0, hl, lm, m9, fun _ => ym, q'⟩)
  have L' := L.imp (sp' := spLf3R (fun H => (WoodT H wd m ts ∧ H lp = some (.lst (ps.map V.int))) ∧ H p1 = _ ∧ H c1 = _) (fun y _ => y < 2 ^ m) (boundOk m ts ps p)) (fun vs H Q E h => by
    obtain ⟨wo, y, n, rfl, ⟨⟨W0, h1, h2⟩, ym⟩, q'⟩ := h
    exact ⟨⟨wo, y, n, rfl, ⟨W0, ym⟩, q'⟩, h1, h2⟩)
  have G := ok_is_treeR (P := P) (w := w) (base := base') (m := m) (ts := ts) T L' (.all fun us hl => match us, hl with | [_, _, _], _ => rfl) lamP_fn (fun H H' s h => ⟨⟨h.1.1.same s, s _ _ h.1.2⟩, s _ _ h.2.1, s _ _ h.2.2⟩) (fun H h => h.2.1) (fun y n k h hk => ⟨put_lt h (mem_open.mp hk).1, h⟩) f
  exact ⟨_, G, wd, 1, 0, t, v, rfl, W.same s1, Dn.same s1 _ _ dn, gd, dp, ⟨⟨⟨W.same s1, s1 _ _ hlp⟩, hp, hc⟩, (stand1 m1).ym⟩, fun H' s2 => q H' (s1.trans s2)⟩

end
section
variable {P : Program} {w : World} {K : PySem.W.Frag} {mg : Str → Option Value} {base : Heap} {a : Adr} {d : Fds}
theorem ok_law_take (T : Txt K mg a d) : FnOk P w K mg base CX0 1 a.f_law_take d.f_law_take ["_law_state", "_law_most_here"] (spNext K) := by
  refine T.K_law_take.ok sc_law_take (fun vs H Q E h => ?_) (fun cdv A outer s H vs Q E hr h => ?_)
  · obtain ⟨pen, sp, ns, most, k, rfl, _⟩ := h
    rfl
  obtain ⟨pen, sp, ns, most, k, rfl, pn, k0, k1, m0, q⟩ := h
  have hp := pn.at_
  have el : (ns.map V.int).length = ns.length := List.length_map _
  have kk0 : 0 ≤ k * k := Int.mul_nonneg k0 k0
  have kk1 : k * k ≤ 1000000 * 1000000 := Int.mul_le_mul k1 k1 k0 (by decide)
  have p64 : (2 : Int) ^ 64 = 18446744073709551616 := by decide
  have item : ∀ j : Int, 0 ≤ j → j < ns.length → ∃ v : Int, atI (ns.map V.int) j = some (.int v) := fun j j0 j1 => by
    obtain ⟨m, rfl⟩ : ∃ m : Nat, j = (m : Int) := ⟨j.toNat, by omega⟩
    have hj : m < ns.length := by omega
    refine ⟨ns[m], atI_nat ?_⟩
    rw [List.getElem?_map, List.getElem?_eq_getElem hj]
    rfl
  have last : ∃ t, PSs (cxOf CX0 P w K mg base ["_law_state", "_law_most_here", "_law_at", "_law_script", "_law_mingled"] "_law_take" (defScope s_law_take) a.f_law_take cdv A outer s H E).nox ((defBody s_law_take).drop 6) t ∧ ∀ (N : Int) (v0 v2 v3 : Option V), 0 ≤ N → N ≤ 1000000000000000 → t { nx := fun _ H' => Q .non H', rt := Q } [v0, some (.int most), v2, v3, some (.int N)] (L2.upd H pen (.lst [.ref sp, .int (k + 1)])) := by
    refine ⟨_, (pss_one (ps_ret (pe_op op_mod (pe_op op_mod (pe_op op_mul (pv 4) (pv 4)) pe_int) (pv 1)))), fun N v0 v2 v3 n0 n1 => ?_⟩
    refine ⟨_, rfl, _, rfl, _, _, rfl, rfl, .inl ⟨by rw [p64]; omega, by rw [p64]; omega⟩, _, _, rfl, rfl, (by show (0 : Int) < 2147483647; decide), _, rfl, _, _, rfl, rfl, m0, ?_⟩
    exact q _ (Int.emod_nonneg _ (by omega)) (Int.emod_lt_of_pos _ m0)
  obtain ⟨t6, h6, r6⟩ := last
  refine ⟨_, (pss_cons (ps_set (i := 2) sc_law_take.nd rfl (Or.inl rfl) (pe_ix (ixL (K := K)) (pv 0) pe_int (fun _ _ => rfl)))
      (pss_cons (ps_asg (pe_op op_add (pv 2) pe_int) (pg_sub (pv 0) pe_int set_list))
      (pss_cons (ps_set (i := 3) sc_law_take.nd rfl (Or.inl rfl) (pe_ix (ixL (K := K)) (pv 0) pe_int (fun _ _ => rfl)))
      (pss_cons (ps_if (pt_cmpR op_lt (pv 2) (pe_callB (lenS (K := K)) rfl T.m_len PySem.boot_len (pa_cons (pv 3) pa_nil)) (nomark _)) (pss_one (ps_ret (pe_op op_mod (pe_ix (ixL (K := K)) (pv 3) (pv 2) (fun _ _ => rfl)) (pv 1)))) pss_nil)
      (pss_cons (ps_set (i := 4) sc_law_take.nd rfl (Or.inl rfl) (pe_op op_add (pe_op op_add (pe_op op_mul (pv 2) (pv 2)) (pe_op op_mul pe_int (pv 2))) pe_int))
      (pss_cons (ps_if (pt_cmpR op_gt (pe_callB (lenS (K := K)) rfl T.m_len PySem.boot_len (pa_cons (pv 3) pa_nil)) pe_int (nomark _)) (pss_one (ps_set (i := 4) sc_law_take.nd rfl (Or.inl rfl) (pe_op op_add (pv 4) (pe_op op_mul (pe_op op_mod (pe_ix (ixL (K := K)) (pv 3) (pe_op op_mod (pe_op op_add (pe_op op_mul pe_int (pv 2)) pe_int) (pe_callB (lenS (K := K)) rfl T.m_len PySem.boot_len (pa_cons (pv 3) pa_nil))) (fun _ _ => rfl)) pe_int) pe_int)))) pss_nil)
      h6)))))), ?_⟩
  refine ⟨_, rfl, pen, _, _, _, rfl, rfl, SqL.of hp, rfl, ?_⟩
  refine ⟨_, rfl, _, _, rfl, rfl, _, rfl, pen, _, _, _, rfl, rfl, hp, rfl, ?_⟩
  have hS := pn.scr _ (sameX_pen (pen := pen) (H := H) (.lst [.ref sp, .int (k + 1)]))
  have hp1 : L2.upd H pen (.lst [.ref sp, .int (k + 1)]) pen = some (.lst [.ref sp, .int (k + 1)]) := upd_same
  refine ⟨_, rfl, pen, _, _, _, rfl, rfl, SqL.of hp1, rfl, ?_⟩
  refine ⟨_, rfl, _, rfl, sp, _, rfl, .inl hS, _, _, rfl, rfl, _, rfl, ?_⟩
  refine ite2 (fun c => ?_) (fun c => ?_)
  · have c' : k < ((ns.map V.int).length : Nat) := of_decide_eq_true c
    rw [el] at c'
    obtain ⟨v, hv⟩ := item k k0 c'
    exact ⟨_, rfl, _, rfl, sp, _, _, _, rfl, rfl, hS, hv, _, rfl, _, _, rfl, rfl, m0, q _ (Int.emod_nonneg _ (by omega)) (Int.emod_lt_of_pos _ m0)⟩
  refine ⟨_, rfl, _, rfl, _, _, rfl, rfl, (by unfold CMul; omega), _, rfl, _, _, rfl, rfl, .inl ⟨by decide, by decide⟩, _, _, rfl, rfl, _, _, rfl, rfl, ?_⟩
  refine ⟨_, rfl, sp, _, rfl, .inl hS, _, _, rfl, rfl, _, rfl, ?_⟩
  refine ite2 (fun c2 => ?_) (fun c2 => ?_)
  · have c2' : (0 : Int) < ((ns.map V.int).length : Nat) := of_decide_eq_true c2
    rw [el] at c2'
    have m0' : 0 ≤ (5 * k + 2) % (ns.length : Int) := Int.emod_nonneg _ (by omega)
    have m1' : (5 * k + 2) % (ns.length : Int) < ns.length := Int.emod_lt_of_pos _ c2'
    obtain ⟨v, hv⟩ := item _ m0' m1'
    have v0 : 0 ≤ v % 2147483629 := Int.emod_nonneg _ (by decide)
    have v1 : v % 2147483629 < 2147483629 := Int.emod_lt_of_pos _ (by decide)
    refine ⟨_, rfl, _, rfl, _, rfl, _, _, rfl, rfl, .inl ⟨by decide, by decide⟩, _, _, rfl, rfl, _, rfl, sp, _, rfl, .inl hS, _, _, rfl, rfl, (by rw [el]; exact c2'), sp, _, _, _, rfl, rfl, hS, (by rw [el]; exact hv), ?_⟩
    refine ⟨_, _, rfl, rfl, (by show (0 : Int) < 2147483629; decide), _, _, rfl, rfl, .inr ⟨by decide, by decide⟩, _, _, rfl, rfl, ?_⟩
    exact r6 _ _ _ _ (by omega) (by omega)
  · exact r6 _ _ _ _ (by omega) (by omega)

end
section
variable {P : Program} {w : World} {K : PySem.W.Frag} {mg : Str → Option Value} {base : Heap} {a : Adr} {d : Fds}
theorem ok_law_bough (T : Txt K mg a d) : FnOk P w K mg base CX0 3 a.f_law_bough d.f_law_bough ["_law_state", "_law_up", "_law_kids"] (spBoughT K) := by
  have G_law_take := ok_law_take (P := P) (w := w) (base := base) T
  refine T.K_law_bough.ok sc_law_bough (fun vs H Q E h => ?_) (fun cdv A outer s H vs Q E hr h => ?_)
  · obtain ⟨pen, sp, ns, tk, u, kids, m, k, rfl, _⟩ := h
    rfl
  obtain ⟨pen, sp, ns, tk, u, kids, m, k, rfl, pn, k0, k1, hk, kl, u0, kne, ris, q⟩ := h
  have el : (kids.map V.int).length = kids.length := List.length_map _
  have kp := List.length_pos_iff.mpr kne
  have done : ∀ (lo hi k' : Int) (H1 : Hp), SameX pen H H1 → H1 pen = some (.lst [.ref sp, .int k']) → k ≤ k' → k' ≤ k + 3 → 0 ≤ lo → lo ≤ hi → 1 ≤ hi → hi ≤ kids.length → ∀ tb, H1 tb = none → Q (.ref tb) (L2.upd H1 tb (.tup [.int u, .int lo, .int hi, .ref tk])) := by
    intro lo hi k' H1 sx hp kk0 kk1 l0 l1 h1 h2 tb htb
    have s1 := same_new htb (.tup [.int u, .int lo, .int hi, .ref tk])
    refine q (bghD u lo hi kids) _ k' _ (sx.trans (Same.x s1)) (s1 _ _ hp) kk0 kk1 ?_ (bgh_ok u0 kne ris l0 l1 h1 h2) (bgh_flat _ _ _ _ (by omega)) (bgh_kids _ _ _ _)
    exact ⟨tb, _, rfl, upd_same, _, _, rfl, rfl, _, _, rfl, rfl, _, _, rfl, rfl, _, _, rfl, ⟨tk, _, rfl, s1 _ _ (SameX.tup pn.at_ sx _ _ hk), ints_dnl kids⟩, rfl⟩
  refine ⟨_, (pss_cons (ps_set (i := 3) sc_law_bough.nd rfl (Or.inl rfl) (pe_callB (lenS (K := K)) rfl T.m_len PySem.boot_len (pa_cons (pv 2) pa_nil)))
      (pss_cons (ps_set (i := 4) sc_law_bough.nd rfl (Or.inl rfl) (pe_callD G_law_take hr.lv rfl T.K_law_take (pa_cons (pv 0) (pa_cons pe_int pa_nil))))
      (pss_cons (ps_if (pt_cmpR op_eq (pv 4) pe_int (nomark _)) (pss_one (ps_ret (pe_tup (pa_cons (pv 1) (pa_cons pe_int (pa_cons (pv 3) (pa_cons (pv 2) pa_nil))))))) pss_nil)
      (pss_cons (ps_if (pt_cmpR op_eq (pv 4) pe_int (nomark _)) (pss_one (ps_ret (pe_tup (pa_cons (pv 1) (pa_cons pe_int (pa_cons pe_int (pa_cons (pv 2) pa_nil))))))) pss_nil)
      (pss_cons (ps_if (pt_cmpR op_eq (pv 4) pe_int (nomark _)) (pss_one (ps_ret (pe_tup (pa_cons (pv 1) (pa_cons (pv 3) (pa_cons (pv 3) (pa_cons (pv 2) pa_nil))))))) pss_nil)
      (pss_cons (ps_set (i := 5) sc_law_bough.nd rfl (Or.inl rfl) (pe_op op_add pe_int (pe_callD G_law_take hr.lv rfl T.K_law_take (pa_cons (pv 0) (pa_cons (pv 3) pa_nil)))))
      (pss_one (ps_ret (pe_tup (pa_cons (pv 1) (pa_cons (pe_callD G_law_take hr.lv rfl T.K_law_take (pa_cons (pv 0) (pa_cons (pe_op op_add (pv 5) pe_int) pa_nil))) (pa_cons (pv 5) (pa_cons (pv 2) pa_nil))))))))))))), ?_⟩
  refine ⟨_, rfl, tk, _, rfl, .inr (sqT hk), ?_⟩
  rw [el]
  refine ⟨_, rfl, pen, sp, ns, 5, k, rfl, pn, by omega, by omega, by decide, fun w1 w10 w11 => ?_⟩
  have sx1 := sameX_pen (pen := pen) (H := H) (.lst [.ref sp, .int (k + 1)])
  have g1 : L2.upd H pen (.lst [.ref sp, .int (k + 1)]) pen = some (.lst [.ref sp, .int (k + 1)]) := upd_same
  generalize L2.upd H pen (.lst [.ref sp, .int (k + 1)]) = H1 at sx1 g1 ⊢
  refine ⟨_, rfl, rfl, _, rfl, ?_⟩
  refine ite2 (fun c => ?_) (fun c => ?_)
  · refine ⟨_, rfl, _, rfl, _, rfl, small (by show 4 ≤ 1000; decide), fun tb htb => ?_⟩
    exact done 0 kids.length (k + 1) H1 sx1 g1 (by omega) (by omega) (by omega) (by omega) (by omega) (by omega) tb htb
  refine ⟨_, rfl, rfl, _, rfl, ?_⟩
  refine ite2 (fun c2 => ?_) (fun c2 => ?_)
  · refine ⟨_, rfl, _, rfl, small (by show 4 ≤ 1000; decide), fun tb htb => ?_⟩
    exact done 1 1 (k + 1) H1 sx1 g1 (by omega) (by omega) (by omega) (by omega) (by omega) (by omega) tb htb
  refine ⟨_, rfl, rfl, _, rfl, ?_⟩
  refine ite2 (fun c3 => ?_) (fun c3 => ?_)
  · refine ⟨_, rfl, _, rfl, _, rfl, _, rfl, small (by show 4 ≤ 1000; decide), fun tb htb => ?_⟩
    exact done kids.length kids.length (k + 1) H1 sx1 g1 (by omega) (by omega) (by omega) (by omega) (by omega) (by omega) tb htb
  refine ⟨_, rfl, _, rfl, pen, sp, ns, _, k + 1, rfl, pn.to sx1 g1, by omega, by omega, by omega, fun w2 w20 w21 => ?_⟩
  have sx2 := sx1.trans (sameX_pen (pen := pen) (H := H1) (.lst [.ref sp, .int (k + 1 + 1)]))
  have g2 : L2.upd H1 pen (.lst [.ref sp, .int (k + 1 + 1)]) pen = some (.lst [.ref sp, .int (k + 1 + 1)]) := upd_same
  generalize L2.upd H1 pen (.lst [.ref sp, .int (k + 1 + 1)]) = H2 at sx2 g2 ⊢
  refine ⟨_, _, rfl, rfl, _, rfl, _, rfl, _, rfl, _, _, rfl, rfl, pen, sp, ns, _, k + 1 + 1, rfl, pn.to sx2 g2, by omega, by omega, by omega, fun w3 w30 w31 => ?_⟩
  have sx3 := sx2.trans (sameX_pen (pen := pen) (H := H2) (.lst [.ref sp, .int (k + 1 + 1 + 1)]))
  have g3 : L2.upd H2 pen (.lst [.ref sp, .int (k + 1 + 1 + 1)]) pen = some (.lst [.ref sp, .int (k + 1 + 1 + 1)]) := upd_same
  generalize L2.upd H2 pen (.lst [.ref sp, .int (k + 1 + 1 + 1)]) = H3 at sx3 g3 ⊢
  refine ⟨_, rfl, _, rfl, small (by show 4 ≤ 1000; decide), fun tb htb => ?_⟩
  exact done w3 (1 + w2) (k + 1 + 1 + 1) H3 sx3 g3 (by omega) (by omega) (by omega) (by omega) (by omega) (by omega) tb htb

end
section
variable {P : Program} {w : World} {K : PySem.W.Frag} {mg : Str → Option Value} {base : Heap} {a : Adr} {d : Fds}
theorem ok_law_boughs (T : Txt K mg a d) : FnOk P w K mg base CX0 5 a.f_law_boughs d.f_law_boughs ["_law_state", "_law_many"] (spBoughsP K) := by
  have G_law_take := ok_law_take (P := P) (w := w) (base := base) T
  have G_law_bough := ok_law_bough (P := P) (w := w) (base := base) T
  refine T.K_law_boughs.ok sc_law_boughs (fun vs H Q E h => ?_) (fun cdv A outer s H vs Q E hr h => ?_)
  · obtain ⟨pen, sp, ns, m, k, rfl, _⟩ := h
    rfl
  obtain ⟨pen, sp, ns, m, k, rfl, pn, k0, k1, m1, m9, q⟩ := h
  have p62 : (2 : Int) ^ 62 = 4611686018427387904 := by decide
  refine ⟨_, (pss_cons (ps_set (i := 2) sc_law_boughs.nd rfl (Or.inl rfl) (pe_lst pa_nil))
      (pss_cons (ps_for PassesOwn.never rfl (pi_range2 rfl T.m_range (pa_cons pe_int (pa_cons (pv 1) pa_nil))) (pg_name (i := 3) sc_law_boughs.nd rfl (Or.inl rfl)) (pss_cons (ps_set (i := 4) sc_law_boughs.nd rfl (Or.inr rfl) (pe_callD G_law_take hr.lv rfl T.K_law_take (pa_cons (pv 0) (pa_cons (pv 3) pa_nil))))
      (pss_cons (ps_setLc (i := 5) sc_law_boughs.nd rfl rfl rfl (sc0 := defScope s_law_boughs) (XN := ["_law_state", "_law_many", "_law_groups", "_law_k", "_law_up", "_law_mates"]) (N' := ["_law_group", "_law_up"]) (n := 1) (kp := [4]) rfl (piL (K := K) (pv 2)) rfl rfl (by decide +kernel) (fun _ _ _ _ _ => (pg_name (i := 0) (by show List.Nodup (["_law_group", "_law_up"] : List Str); decide +kernel) rfl (Or.inl rfl))) (fun _ _ _ _ _ => (pts_one (pt_cmpR op_eq (pe_ix (ixT (K := K)) (pv 0) pe_int (fun _ _ => rfl)) (pv 1) (nomark _)))) (fun _ _ _ _ _ => (pv 0)))
      (pss_one (ps_if (PW.pt (pw_and (pt_cmpR op_gt (pe_callB (lenS (K := K)) rfl T.m_len PySem.boot_len (pa_cons (pv 5) pa_nil)) pe_int (nomark _)) (pw_and1 (pt_cmpR op_gt (pe_callD G_law_take hr.lv rfl T.K_law_take (pa_cons (pv 0) (pa_cons pe_int pa_nil))) pe_int (nomark _))))) (pss_one (ps_expr (pe_bmK (K := K) PySem.F.plainAttrs_list PySem.F.slot_list_append PySem.F.type_list_append mt_append (pe_ix (ixT (K := K)) (pe_ix (ixL (K := K)) (pv 5) (pe_callD G_law_take hr.lv rfl T.K_law_take (pa_cons (pv 0) (pa_cons (pe_callB (lenS (K := K)) rfl T.m_len PySem.boot_len (pa_cons (pv 5) pa_nil)) pa_nil))) (fun _ _ => rfl)) pe_int (fun _ _ => rfl)) (pa_cons (pv 3) pa_nil)))) (pss_one (ps_expr (pe_bmK (K := K) PySem.F.plainAttrs_list PySem.F.slot_list_insert PySem.F.type_list_insert mt_insert (pv 2) (pa_cons (pe_callD G_law_take hr.lv rfl T.K_law_take (pa_cons (pv 0) (pa_cons (pe_op op_add (pe_callB (lenS (K := K)) rfl T.m_len PySem.boot_len (pa_cons (pv 2) pa_nil)) pe_int) pa_nil))) (pa_cons (pe_tup (pa_cons (pv 4) (pa_cons (pe_lst (pa_cons (pv 3) pa_nil)) pa_nil))) pa_nil))))))))))
      (pss_one (ps_ret (pe_lc (sc0 := defScope s_law_boughs) (XN := ["_law_state", "_law_many", "_law_groups", "_law_k", "_law_up", "_law_mates"]) (N' := ["_law_up", "_law_kids", "_law_state"]) (n := 2) (kp := [0]) rfl (piL (K := K) (pv 2)) rfl rfl (by decide +kernel) (fun _ _ _ _ _ => (pgT (K := K) (n := 2) rfl (pgs_cons (pg_name (i := 0) (by show List.Nodup (["_law_up", "_law_kids", "_law_state"] : List Str); decide +kernel) rfl (Or.inl rfl)) (pgs_cons (pg_name (i := 1) (by show List.Nodup (["_law_up", "_law_kids", "_law_state"] : List Str); decide +kernel) rfl (Or.inl rfl)) pgs_nil)))) (fun _ _ _ _ _ => pts_nil) (fun _ _ _ _ _ => (pe_callD G_law_bough hr.lv rfl T.K_law_bough (pa_cons (pv 2) (pa_cons (pv 0) (pa_cons (pe_callTy (tupOfK (K := K)) rfl T.m_tuple PyProof.Rows.boot_tuple (pa_cons (pv 1) pa_nil)) pa_nil)))))))))), ?_⟩
  refine ⟨small (by decide), fun g hg => ?_⟩
  have ngp : pen ≠ g := ne_of_none pn.at_ hg
  refine ⟨_, rfl, _, _, rfl, ⟨by rw [p62]; omega, by rw [p62]; omega, by rw [p62]; omega, by rw [p62]; omega⟩, ?_⟩
  obtain ⟨Pv, hPv⟩ : ∃ Pv : Nat → St → Hp → Prop, ∀ i σ H2, Pv i σ H2 ↔ (∃ (v3 v4 v5 : Option V) (gs : List Grp) (kk : Int), σ = [some (.ref pen), some (.int (m : Int)), some (.ref g), v3, v4, v5] ∧ SameX pen H H2 ∧ H2 pen = some (.lst [.ref sp, .int kk]) ∧ k ≤ kk ∧ kk ≤ k + 4 * i ∧ GAt H H2 g gs ∧ GOk ((i : Int) + 1) gs) := ⟨_, fun _ _ _ => Iff.rfl⟩
  refine for_range (lo := 1) (n := ((m : Int) - 1).toNat) Pv ((hPv _ _ _).mpr ⟨none, none, none, [], k, rfl, Same.x (same_new hg _), (same_new hg _) _ _ pn.at_, Int.le_refl _, by omega, ⟨upd_same, hg, (fun _ z => nomatch z), (fun _ z => nomatch z), List.nodup_nil⟩, ⟨(fun _ z => nomatch z), List.Perm.refl _⟩⟩) ?_ ?_
  · rintro i σ H2 hi pv0
    obtain ⟨v3, v4, v5, gs, kk, rfl, sx, hp2, kk0, kk1, GA, GK⟩ := (hPv _ _ _).mp pv0
    have few := GK.few
    have i9 : (i : Int) < 9 := by omega
    have el : ∀ l : List Grp, (l.map fun x => V.ref x.t).length = l.length := fun l => List.length_map _
    have e1 : 1 + (i : Int) = (i : Int) + 1 := by omega
    have e2 : ((i + 1 : Nat) : Int) + 1 = (i : Int) + 2 := by omega
    refine ⟨_, rfl, _, rfl, pen, sp, ns, _, kk, rfl, pn.to sx hp2, by omega, by omega, by omega, fun u u0 u1 => ?_⟩
    have sx4 := sx.trans (sameX_pen (pen := pen) (H := H2) (.lst [.ref sp, .int (kk + 1)]))
    have GA4 := GA.pen (ys := [.ref sp, .int (kk + 1)]) ⟨_, pn.at_⟩ hp2
    have hp4 : L2.upd H2 pen (.lst [.ref sp, .int (kk + 1)]) pen = some (.lst [.ref sp, .int (kk + 1)]) := upd_same
    generalize L2.upd H2 pen (.lst [.ref sp, .int (kk + 1)]) = H4 at sx4 GA4 hp4 ⊢
    refine ⟨_, rfl, g, rfl, ⟨_, SqL.of GA4.at_⟩, ?_⟩
    refine lc_list (K := K) (a := g) (xs := gs.map fun x => V.ref x.t) (fun j ys σ H5 => (∃ v, σ = [v, some (.int u)]) ∧ H5 = H4 ∧ ys = ((gs.take j).filter fun x => decide (x.up = u)).map fun x => V.ref x.t) ⟨⟨none, rfl⟩, rfl, rfl⟩ (fun j ys σ H5 hj pv => ?_) (fun j ys σ H5 hj pv => ?_) (fun j x ys σ H5 hx pv => ?_) (fun ys σ H5 pv ol hol => ?_)
    · obtain ⟨_, _, rfl⟩ := pv
      rw [el]
      have := List.length_filter_le (fun x : Grp => decide (x.up = u)) (gs.take j)
      rw [List.length_take] at this
      exact small (by omega)
    · rw [pv.2.1]
      exact SqL.of GA4.at_
    · obtain ⟨⟨v, rfl⟩, rfl, rfl⟩ := pv
      rw [List.getElem?_map] at hx
      obtain ⟨y, hy, rfl⟩ := Option.map_eq_some_iff.mp hx
      have et : gs.take (j + 1) = gs.take j ++ [y] := by rw [List.take_add_one, hy, Option.toList_some]
      refine ⟨_, rfl, y.t, _, _, _, rfl, rfl, sqT (GA4.tup y (List.mem_of_getElem? hy)), at0, _, rfl, rfl, _, rfl, ?_⟩
      by_cases cc : y.up = u
      · refine iteD (by rw [cc]) ?_
        refine ⟨_, rfl, ⟨_, rfl⟩, rfl, ?_⟩
        rw [et, List.filter_append, List.filter_cons_of_pos (by simpa using cc), List.map_append]
        rfl
      · refine iteDN (fun z => cc (by injection z)) ?_
        refine ⟨⟨_, rfl⟩, rfl, ?_⟩
        rw [et, List.filter_append, List.filter_cons_of_neg (by simpa using cc), List.filter_nil, List.append_nil]
    obtain ⟨_, rfl, rfl⟩ := pv
    have nop : ol ≠ pen := Ne.symm (ne_of_none hp4 hol)
    rw [el, List.take_length] at *
    generalize hold : gs.filter (fun x => decide (x.up = u)) = old at *
    have omem : ∀ x ∈ old, x ∈ gs := fun x hx => by rw [← hold] at hx; exact (List.mem_filter.mp hx).1
    have lox : old.length ≤ gs.length := by rw [← hold]; exact List.length_filter_le _ _
    have s6 := same_new hol (.lst (old.map fun x => V.ref x.t))
    have GA7 := GA4.same s6
    have hp7 := s6 _ _ hp4
    have sx7 := sx4.trans (Same.x s6)
    have hol7 : L2.upd H5 ol (.lst (old.map fun x => V.ref x.t)) ol = some (.lst (old.map fun x => V.ref x.t)) := upd_same
    generalize L2.upd H5 ol (.lst (old.map fun x => V.ref x.t)) = H7 at s6 GA7 hp7 sx7 hol7 ⊢
    refine ⟨_, rfl, ol, _, rfl, .inl (SqL.of hol7), _, _, rfl, rfl, _, rfl, ?_⟩
    rw [el]
    have new : ∀ (k3 : Int) (H8 : Hp) (v5 : Option V), k ≤ k3 → k3 ≤ k + 4 * i + 4 → SameX pen H H8 → H8 pen = some (.lst [.ref sp, .int k3]) → GAt H H8 g gs → ∀ (nl nt : Addr) (j : Nat), H8 nl = none → L2.upd H8 nl (.lst [.int (1 + (i : Int))]) nt = none → j ≤ gs.length →
        Pv (i + 1) [some (.ref pen), some (.int (m : Int)), some (.ref g), some (.int (1 + (i : Int))), some (.int u), v5] (L2.upd (L2.upd (L2.upd H8 nl (.lst [.int (1 + (i : Int))])) nt (.tup [.int u, .ref nl])) g (.lst ((gs.map fun x => V.ref x.t).take j ++ V.ref nt :: (gs.map fun x => V.ref x.t).drop j))) := by
      intro k3 H8 v5 k30 k31 sx8 hp8 GA8 nl nt j hnl hnt hj
      have s9 := (same_new hnl (.lst [.int (1 + (i : Int))])).trans (same_new hnt (.tup [.int u, .ref nl]))
      rw [← List.map_take, ← List.map_drop]
      refine (hPv _ _ _).mpr ⟨_, _, _, gs.take j ++ ⟨nt, u, nl, [1 + (i : Int)]⟩ :: gs.drop j, k3, rfl, SameX.put (sx8.trans (Same.x s9)) hg (Ne.symm ngp) (s9 _ _ GA8.at_), ?_, k30, by push_cast; omega, ?_, ?_⟩
      · rw [upd_ne ngp]
        exact s9 _ _ hp8
      · exact GAt.ins (pre := gs.take j) (post := gs.drop j) (by rw [List.take_append_drop]; exact GA8) (sx8.free ⟨_, hp8⟩ hnl) hnl hnt
      · rw [e2, e1]
        exact GOk.ins (k := i) (by rw [List.take_append_drop]; exact GK) u0 (by omega)
    by_cases c5 : old = []
    · refine iteCN (by rw [c5]; rfl) ?_
      refine iteF ?_
      refine ⟨_, rfl, .inl ⟨rfl, _, SqL.of GA7.at_⟩, _, rfl, _, rfl, g, _, rfl, .inl (SqL.of GA7.at_), ?_⟩
      refine ⟨_, _, rfl, rfl, pen, sp, ns, _, kk + 1, rfl, pn.to sx7 hp7, by omega, by omega, (by rw [el]; omega), fun j j0 j1 => ?_⟩
      rw [el] at j1
      have sx8 := sx7.trans (sameX_pen (pen := pen) (.lst [.ref sp, .int (kk + 1 + 1)]))
      have GA8 := GA7.pen (ys := [.ref sp, .int (kk + 1 + 1)]) ⟨_, pn.at_⟩ hp7
      have hp8 : L2.upd H7 pen (.lst [.ref sp, .int (kk + 1 + 1)]) pen = some (.lst [.ref sp, .int (kk + 1 + 1)]) := upd_same
      generalize L2.upd H7 pen (.lst [.ref sp, .int (kk + 1 + 1)]) = H8 at sx8 GA8 hp8 ⊢
      refine ⟨_, rfl, _, rfl, small (by show 1 ≤ 1000; decide), fun nl hnl => ?_⟩
      refine ⟨small (by show 2 ≤ 1000; decide), fun nt hnt => ?_⟩
      have s9 := (same_new hnl (.lst [.int (1 + (i : Int))])).trans (same_new hnt (.tup [.int u, .ref nl]))
      refine ⟨g, _, _, _, rfl, rfl, s9 _ _ GA8.at_, j0, (by rw [el]; omega), (by rw [el]; exact small1000 (by omega)), ?_⟩
      exact new (kk + 1 + 1) H8 _ (by omega) (by omega) sx8 hp8 GA8 nl nt j.toNat hnl hnt (by omega)
    · have lo1 : 0 < old.length := List.length_pos_iff.mpr c5
      refine iteC (decide_eq_true (show ((old.length : Nat) : Int) > 0 by omega)) ?_
      refine ⟨_, rfl, pen, sp, ns, 3, kk + 1, rfl, pn.to sx7 hp7, by omega, by omega, by decide, fun e e0 e1' => ?_⟩
      have sx8 := sx7.trans (sameX_pen (pen := pen) (.lst [.ref sp, .int (kk + 1 + 1)]))
      have GA8 := GA7.pen (ys := [.ref sp, .int (kk + 1 + 1)]) ⟨_, pn.at_⟩ hp7
      have hp8 : L2.upd H7 pen (.lst [.ref sp, .int (kk + 1 + 1)]) pen = some (.lst [.ref sp, .int (kk + 1 + 1)]) := upd_same
      have hol8 : L2.upd H7 pen (.lst [.ref sp, .int (kk + 1 + 1)]) ol = some (.lst (old.map fun x => V.ref x.t)) := by rw [upd_ne nop]; exact hol7
      generalize L2.upd H7 pen (.lst [.ref sp, .int (kk + 1 + 1)]) = H8 at sx8 GA8 hp8 hol8 ⊢
      refine ⟨_, _, rfl, rfl, _, rfl, ?_⟩
      refine ite2 (fun c6 => ?_) (fun c6 => ?_)
      · refine ⟨_, rfl, _, rfl, _, rfl, ol, _, rfl, .inl (SqL.of hol8), ?_⟩
        rw [el]
        refine ⟨pen, sp, ns, _, kk + 1 + 1, rfl, pn.to sx8 hp8, by omega, by omega, by omega, fun jj j0 j1 => ?_⟩
        obtain ⟨jn, rfl⟩ : ∃ jn : Nat, jj = (jn : Int) := ⟨jj.toNat, by omega⟩
        have sx9 := sx8.trans (sameX_pen (pen := pen) (.lst [.ref sp, .int (kk + 1 + 1 + 1)]))
        have GA9 := GA8.pen (ys := [.ref sp, .int (kk + 1 + 1 + 1)]) ⟨_, pn.at_⟩ hp8
        have hp9 : L2.upd H8 pen (.lst [.ref sp, .int (kk + 1 + 1 + 1)]) pen = some (.lst [.ref sp, .int (kk + 1 + 1 + 1)]) := upd_same
        have hol9 : L2.upd H8 pen (.lst [.ref sp, .int (kk + 1 + 1 + 1)]) ol = some (.lst (old.map fun x => V.ref x.t)) := by rw [upd_ne nop]; exact hol8
        generalize L2.upd H8 pen (.lst [.ref sp, .int (kk + 1 + 1 + 1)]) = H9 at sx9 GA9 hp9 hol9 ⊢
        obtain ⟨x, hxo⟩ : ∃ x, old[jn]? = some x := ⟨_, List.getElem?_eq_getElem (by omega)⟩
        have hx := omem x (List.mem_of_getElem? hxo)
        obtain ⟨pre, post, egs⟩ := List.append_of_mem hx
        have ty := GA9.tup x hx
        have ly := GA9.lst x hx
        refine ⟨ol, _, _, .ref x.t, rfl, rfl, SqL.of hol9, atI_nat (by rw [List.getElem?_map, hxo]; rfl), x.t, _, _, _, rfl, rfl, sqT ty, at1, .inl ⟨rfl, _, SqL.of ly.1⟩, _, rfl, x.l, _, _, rfl, rfl, ly.1, ?_, ?_⟩
        · have h1 := GK.perm.length_eq
          rw [List.length_map, List.length_range', egs, List.flatMap_append, List.flatMap_cons, List.length_append, List.length_append] at h1
          rw [List.length_map]
          exact small1000 (by omega)
        have G9 : GAt H _ g _ := GAt.put (k := 1 + (i : Int)) (pre := pre) (post := post) (x := x) (by rw [← egs]; exact GA9)
        refine (hPv _ _ _).mpr ⟨_, _, _, _, kk + 1 + 1 + 1, rfl, SameX.put sx9 ly.2.1 (fun z => by have := pn.at_; rw [← z, ly.2.1] at this; cases this) ly.1, ?_, by omega, by push_cast; omega, G9, ?_⟩
        · rw [upd_ne (fun z => by have := pn.at_; rw [z, ly.2.1] at this; cases this)]
          exact hp9
        · rw [e2, e1]
          exact GOk.put (k := i) (by rw [← egs]; exact GK)
      · refine ⟨_, rfl, .inl ⟨rfl, _, SqL.of GA8.at_⟩, _, rfl, _, rfl, g, _, rfl, .inl (SqL.of GA8.at_), ?_⟩
        refine ⟨_, _, rfl, rfl, pen, sp, ns, _, kk + 1 + 1, rfl, pn.to sx8 hp8, by omega, by omega, (by rw [el]; omega), fun j j0 j1 => ?_⟩
        rw [el] at j1
        have sx9 := sx8.trans (sameX_pen (pen := pen) (.lst [.ref sp, .int (kk + 1 + 1 + 1)]))
        have GA9 := GA8.pen (ys := [.ref sp, .int (kk + 1 + 1 + 1)]) ⟨_, pn.at_⟩ hp8
        have hp9 : L2.upd H8 pen (.lst [.ref sp, .int (kk + 1 + 1 + 1)]) pen = some (.lst [.ref sp, .int (kk + 1 + 1 + 1)]) := upd_same
        generalize L2.upd H8 pen (.lst [.ref sp, .int (kk + 1 + 1 + 1)]) = H9 at sx9 GA9 hp9 ⊢
        refine ⟨_, rfl, _, rfl, small (by show 1 ≤ 1000; decide), fun nl hnl => ?_⟩
        refine ⟨small (by show 2 ≤ 1000; decide), fun nt hnt => ?_⟩
        have s10 := (same_new hnl (.lst [.int (1 + (i : Int))])).trans (same_new hnt (.tup [.int u, .ref nl]))
        refine ⟨g, _, _, _, rfl, rfl, s10 _ _ GA9.at_, j0, (by rw [el]; omega), (by rw [el]; exact small1000 (by omega)), ?_⟩
        exact new (kk + 1 + 1 + 1) H9 _ (by omega) (by omega) sx9 hp9 GA9 nl nt j.toNat hnl hnt (by omega)
  · rintro σ H2 pv0
    obtain ⟨v3, v4, v5, gs, kk, rfl, sx, hp2, kk0, kk1, GA, GK⟩ := (hPv _ _ _).mp pv0
    have em : (((m : Int) - 1).toNat : Int) + 1 = (m : Int) := by omega
    rw [em] at GK
    have few := GK.few
    have el : (gs.map fun x => V.ref x.t).length = gs.length := List.length_map _
    refine ⟨_, rfl, g, rfl, ⟨_, SqL.of GA.at_⟩, ?_⟩
    refine lc_list (K := K) (a := g) (xs := gs.map fun x => V.ref x.t) (fun j ys σ H3 => (∃ v v', σ = [v, v', some (.ref pen)]) ∧ SameX pen H2 H3 ∧ ∃ (kc : Int) (bs : List PyData), H3 pen = some (.lst [.ref sp, .int kc]) ∧ kk ≤ kc ∧ kc ≤ kk + 3 * j ∧ DnL H3 bs ys ∧ bs.length = j ∧ (∀ b ∈ bs, isBough m b = true) ∧ bs.flatMap kidsOf = (gs.take j).flatMap (·.kids) ∧ bs.all (flatD 3) = true) ⟨⟨none, none, rfl⟩, SameX.refl _ _, kk, [], hp2, Int.le_refl _, by omega, rfl, rfl, (fun _ z => nomatch z), rfl, rfl⟩ (fun j ys σ H3 hj pv => ?_) (fun j ys σ H3 hj pv => ?_) (fun j y ys σ H3 hy pv => ?_) (fun ys σ H3 pv l1 hl1 => ?_)
    · obtain ⟨_, _, kc, bs, _, _, _, dn, ln, _⟩ := pv
      rw [← dn.length, ln]
      exact small (by rw [el] at hj; omega)
    · exact SqL.of (pv.2.1 _ _ (Ne.symm ngp) GA.at_)
    · obtain ⟨⟨v, v', rfl⟩, sx3, kc, bs, hp3, kc0, kc1, dn, ln, okb, ki, fl⟩ := pv
      rw [List.getElem?_map] at hy
      obtain ⟨x, hx', rfl⟩ := Option.map_eq_some_iff.mp hy
      have hm := List.mem_of_getElem? hx'
      have hj : j < gs.length := (List.getElem?_eq_some_iff.mp hx').1
      have lx := GA.lst x hm
      have nlp : x.l ≠ pen := fun z => by have := pn.at_; rw [← z, lx.2.1] at this; cases this
      have hxl := sx3 _ _ nlp lx.1
      have gx := GK.each x hm
      have kl : x.kids.length ≤ 9 := by
        have pk := GK.perm.length_eq
        rw [List.length_map, List.length_range'] at pk
        obtain ⟨l1, l2, e⟩ := List.append_of_mem hm
        rw [e, List.flatMap_append, List.flatMap_cons, List.length_append, List.length_append] at pk
        omega
      refine ⟨x.t, _, rfl, sqT ((SameX.tup hp2 sx3) _ _ (GA.tup x hm)), rfl, _, _, rfl, _, _, rfl, rfl, ?_⟩
      refine ⟨_, rfl, _, rfl, _, rfl, x.l, _, rfl, .inl ⟨SqL.of hxl, fun tk htk => ?_⟩⟩
      have s4 := same_new htk (.tup (x.kids.map V.int))
      have g4 : L2.upd H3 tk (.tup (x.kids.map V.int)) tk = some (.tup (x.kids.map V.int)) := upd_same
      have dn4 := DnL.same s4 _ _ dn
      generalize L2.upd H3 tk (.tup (x.kids.map V.int)) = H4 at s4 g4 dn4 ⊢
      have sx4 := sx3.trans (Same.x s4)
      refine ⟨pen, sp, ns, tk, x.up, x.kids, (m : Int), kc, rfl, pn.to (sx.trans sx4) (s4 _ _ hp3), by omega, by omega, g4, kl, gx.1, gx.2.1, gx.2.2, fun d v k' H5 sx5 hp5 k50 k51 dv okd fd kd => ?_⟩
      refine ⟨⟨_, _, rfl⟩, sx4.trans sx5, k', bs ++ [d], hp5, by omega, by push_cast; omega, (DnL.tupS (SameX.tup (s4 _ _ hp3) sx5) fl dn4).append ⟨v, [], rfl, dv, rfl⟩, by rw [List.length_append, List.length_singleton, ln], fun b hb => ?_, ?_, ?_⟩
      · rcases List.mem_append.mp hb with z | z
        · exact okb b z
        · rw [List.mem_singleton.mp z]
          exact okd
      · rw [List.flatMap_append, ki, flatMap_take hx']
        simp [kd]
      · rw [List.all_append, fl]
        simp [fd]
    · obtain ⟨_, sx3, kc, bs, hp3, kc0, kc1, dn, ln, okb, ki, fl⟩ := pv
      rw [el] at ln kc1 ki
      rw [List.take_length] at ki
      have s4 := same_new hl1 (.lst ys)
      exact q l1 bs ys kc _ ((sx.trans sx3).trans (Same.x s4)) (s4 _ _ hp3) (by omega) (by omega) upd_same ((sx.trans sx3).free ⟨_, hp3⟩ hl1) (DnL.same s4 _ _ dn) ⟨okb, by rw [ki]; exact GK.perm⟩ (by omega) fl

end
section
variable {P : Program} {w : World} {K : PySem.W.Frag} {mg : Str → Option Value} {base : Heap} {a : Adr} {d : Fds}
theorem ok_law_most (T : Txt K mg a d) : FnOk P w K mg base CX0 2 a.f_law_most d.f_law_most ["_law_state", "_law_many"] (spCrossT K) := by
  have G_law_take := ok_law_take (P := P) (w := w) (base := base) T
  refine T.K_law_most.ok sc_law_most (fun vs H Q E h => ?_) (fun cdv A outer s H vs Q E hr h => ?_)
  · obtain ⟨pen, sp, ns, m, k, rfl, _⟩ := h
    rfl
  obtain ⟨pen, sp, ns, m, k, rfl, pn, k0, k1, m1, m9, q⟩ := h
  have p62 : (2 : Int) ^ 62 = 4611686018427387904 := by decide
  have p64 : (2 : Int) ^ 64 = 18446744073709551616 := by decide
  obtain ⟨ct4, ch4, cu4⟩ := cutS (X := (cxOf CX0 P w K mg base ["_law_state", "_law_many", "_law_far", "_law_pairs", "_law_k"] "_law_most" (defScope s_law_most) a.f_law_most cdv A outer s H E).nox) (st := (defBody s_law_most).drop 4) (pss_one (ps_ret (pe_tup (pa_cons pe_str (pa_cons (pe_op op_mul (pv 2) (pe_op op_sub (pe_callD G_law_take hr.lv rfl T.K_law_take (pa_cons (pv 0) (pa_cons pe_int pa_nil))) pe_int)) (pa_cons (pe_callTy call_tuple_of rfl T.m_tuple PyProof.Rows.boot_tuple (pa_cons (pv 3) pa_nil)) pa_nil))))))
  refine ⟨_, (pss_cons (ps_set (i := 2) sc_law_most.nd rfl (Or.inl rfl) (pe_ix (ixL (K := K)) (pe_lst (pa_cons pe_int (pa_cons (pe_op op_pow pe_int pe_int) pa_nil))) (pe_callTy call_int1 rfl T.m_int PyProof.Rows.boot_int (pa_cons (pe_cmpR op_eq (pe_callD G_law_take hr.lv rfl T.K_law_take (pa_cons (pv 0) (pa_cons pe_int pa_nil))) pe_int (nomark _)) pa_nil)) (fun _ _ => rfl)))
      (pss_cons (ps_set (i := 3) sc_law_most.nd rfl (Or.inl rfl) (pe_lst pa_nil))
      (pss_cons (ps_for PassesOwn.never rfl (pi_range1 rfl T.m_range (pa_cons (pv 1) pa_nil)) (pg_name (i := 4) sc_law_most.nd rfl (Or.inl rfl)) (pss_one (ps_if (pt_cmpR op_eq (pe_callD G_law_take hr.lv rfl T.K_law_take (pa_cons (pv 0) (pa_cons pe_int pa_nil))) pe_int (nomark _)) (pss_one (ps_expr (pe_bmK (K := K) PySem.F.plainAttrs_list PySem.F.slot_list_append PySem.F.type_list_append mt_append (pv 3) (pa_cons (pe_tup (pa_cons (pv 4) (pa_cons (pe_op op_mul (pv 2) (pe_op op_sub (pe_callD G_law_take hr.lv rfl T.K_law_take (pa_cons (pv 0) (pa_cons pe_int pa_nil))) pe_int)) pa_nil))) pa_nil)))) pss_nil)))
      (pss_cons (ps_if (pt_cmpR op_eq (pe_callB (lenS (K := K)) rfl T.m_len PySem.boot_len (pa_cons (pv 3) pa_nil)) pe_int (nomark _)) (pss_one (ps_expr (pe_bmK (K := K) PySem.F.plainAttrs_list PySem.F.slot_list_append PySem.F.type_list_append mt_append (pv 3) (pa_cons (pe_tup (pa_cons (pe_callD G_law_take hr.lv rfl T.K_law_take (pa_cons (pv 0) (pa_cons (pv 1) pa_nil))) (pa_cons (pe_op op_mul (pv 2) (pe_op op_sub (pe_callD G_law_take hr.lv rfl T.K_law_take (pa_cons (pv 0) (pa_cons pe_int pa_nil))) pe_int)) pa_nil))) pa_nil)))) pss_nil)
      ch4)))), ?_⟩
  refine ⟨_, _, rfl, rfl, ⟨by decide, by decide, by decide⟩, small (by show 2 ≤ 1000; decide), fun fl hfl => ?_⟩
  have sf := same_new hfl (.lst [.int 1, .int (10 ^ (58 : Int).toNat)])
  have gf : L2.upd H fl (.lst [.int 1, .int (10 ^ (58 : Int).toNat)]) fl = some (.lst [.int 1, .int (10 ^ (58 : Int).toNat)]) := upd_same
  have pn1 := pn.same sf
  have x1 := Same.x (pen := pen) sf
  have nfp : fl ≠ pen := fun z => by rw [z, pn.at_] at hfl; cases hfl
  generalize L2.upd H fl (.lst [.int 1, .int (10 ^ (58 : Int).toNat)]) = H1 at sf gf pn1 x1 ⊢
  refine ⟨_, rfl, pen, sp, ns, 6, k, rfl, pn1, by omega, by omega, by decide, fun w1 w10 w11 => ?_⟩
  have x2 := x1.trans (sameX_pen (pen := pen) (H := H1) (.lst [.ref sp, .int (k + 1)]))
  have g2 : L2.upd H1 pen (.lst [.ref sp, .int (k + 1)]) pen = some (.lst [.ref sp, .int (k + 1)]) := upd_same
  have g2f : L2.upd H1 pen (.lst [.ref sp, .int (k + 1)]) fl = some (.lst [.int 1, .int (10 ^ (58 : Int).toNat)]) := by rw [upd_ne nfp]; exact gf
  generalize L2.upd H1 pen (.lst [.ref sp, .int (k + 1)]) = H2 at x2 g2 g2f ⊢
  refine ⟨rfl, .inr ⟨_, rfl, ?_⟩⟩
  obtain ⟨far, hat⟩ : ∃ far : Int, atI [V.int 1, V.int (10 ^ (58 : Int).toNat)] (if decide (V.int w1 = V.int 0) = true then 1 else 0) = some (.int far) := by
    split
    · exact ⟨_, rfl⟩
    · exact ⟨_, rfl⟩
  refine ⟨fl, _, _, _, rfl, rfl, SqL.of g2f, hat, ?_⟩
  refine ⟨small (by show 0 ≤ 1000; decide), fun pl hpl => ?_⟩
  have s3 := same_new hpl (.lst [])
  have g3 : L2.upd H2 pl (.lst []) pl = some (.lst []) := upd_same
  have g3p := s3 _ _ g2
  have npp : pl ≠ pen := fun z => by rw [z, g2] at hpl; cases hpl
  have npH : H pl = none := x2.free ⟨_, g2⟩ hpl
  generalize L2.upd H2 pl (.lst []) = H3 at s3 g3 g3p ⊢
  have x3 := x2.trans (Same.x (pen := pen) s3)
  have tail : ∀ (v4 : Option V) (kc : Int) (ps : List PyData) (xs : List V) (H4 : Hp), SameX pen H H4 → H4 pen = some (.lst [.ref sp, .int kc]) → k ≤ kc → kc ≤ k + 25 → H4 pl = some (.lst xs) → PairsTo H4 m ps xs → 0 < ps.length → ct4 { nx := fun _ H' => Q .non H', rt := Q } [some (.ref pen), some (.int (m : Int)), some (.int far), some (.ref pl), v4] H4 := by
    intro v4 kc ps xs H4 x4 hp4 kc0 kc1 hl4 pt p0
    refine cu4 _ _ _ ?_
    refine ⟨_, rfl, _, rfl, pen, sp, ns, 24, kc, rfl, pn.to x4 hp4, by omega, by omega, by decide, fun y y0 y1 => ?_⟩
    have x5' := sameX_pen (pen := pen) (H := H4) (.lst [.ref sp, .int (kc + 1)])
    have x5 := x4.trans x5'
    have g5 : L2.upd H4 pen (.lst [.ref sp, .int (kc + 1)]) pen = some (.lst [.ref sp, .int (kc + 1)]) := upd_same
    have g5l : L2.upd H4 pen (.lst [.ref sp, .int (kc + 1)]) pl = some (.lst xs) := by rw [upd_ne npp]; exact hl4
    have pt5 := pt.tupS (SameX.tup hp4 x5')
    generalize L2.upd H4 pen (.lst [.ref sp, .int (kc + 1)]) = H5 at x5 g5 g5l pt5 x5' ⊢
    refine ⟨_, _, rfl, rfl, _, _, rfl, rfl, .inr ⟨by rw [p64]; omega, by rw [p64]; omega⟩, _, rfl, pl, _, rfl, .inl ⟨SqL.of g5l, fun tk htk => ?_⟩⟩
    refine ⟨small (by show 3 ≤ 1000; decide), fun tt htt => ?_⟩
    have sa := same_new htk (.tup xs)
    have sb := same_new htt (.tup [.str ("most" : Str), .int (far * (y - 4)), .ref tk])
    have sab := sa.trans sb
    have fw := pt.few
    exact q (.tuple [.str ("most" : Str), .int (far * (y - 4)), .tuple ps]) _ (kc + 1) _ (x5.trans (Same.x sab)) (sab _ _ g5) (by omega) (by omega) ⟨tt, _, rfl, upd_same, _, _, rfl, rfl, _, _, rfl, rfl, _, _, rfl, ⟨tk, _, rfl, sb _ _ upd_same, DnL.same sab _ _ pt5.dn⟩, rfl⟩ (tie_most pt.ok pt.ris p0) (flat_most (m := m) pt.flat (by omega))
  refine ⟨_, rfl, _, rfl, by rw [p62]; omega, by rw [p62]; omega, ?_⟩
  rw [Int.toNat_natCast]
  refine for_range0 (n := m) (fun i σ H4 => ∃ (v4 : Option V) (kc : Int) (ps : List PyData) (xs : List V), σ = [some (.ref pen), some (.int (m : Int)), some (.int far), some (.ref pl), v4] ∧ SameX pen H H4 ∧ H4 pen = some (.lst [.ref sp, .int kc]) ∧ k ≤ kc ∧ kc ≤ k + 1 + 2 * i ∧ H4 pl = some (.lst xs) ∧ PairsTo H4 i ps xs) ⟨none, k + 1, [], [], rfl, x3, g3p, by omega, by omega, g3, ⟨rfl, rfl, rfl, rfl, Nat.le_refl _⟩⟩ ?_ ?_
  · rintro i σ H4 hi ⟨v4, kc, ps, xs, rfl, x4, hp4, kc0, kc1, hl4, pt⟩
    refine ⟨_, rfl, pen, sp, ns, 2, kc, rfl, pn.to x4 hp4, by omega, by omega, by decide, fun y y0 y1 => ?_⟩
    have x5' := sameX_pen (pen := pen) (H := H4) (.lst [.ref sp, .int (kc + 1)])
    have x5 := x4.trans x5'
    have g5 : L2.upd H4 pen (.lst [.ref sp, .int (kc + 1)]) pen = some (.lst [.ref sp, .int (kc + 1)]) := upd_same
    have g5l : L2.upd H4 pen (.lst [.ref sp, .int (kc + 1)]) pl = some (.lst xs) := by rw [upd_ne npp]; exact hl4
    have pt5 := pt.tupS (SameX.tup hp4 x5')
    generalize L2.upd H4 pen (.lst [.ref sp, .int (kc + 1)]) = H5 at x5 g5 g5l pt5 x5' ⊢
    refine ⟨rfl, _, rfl, ?_⟩
    refine ite2 (fun _ => ?_) (fun _ => ?_)
    · refine ⟨_, rfl, .inl ⟨rfl, _, SqL.of g5l⟩, _, rfl, _, rfl, _, rfl, pen, sp, ns, 12, kc + 1, rfl, pn.to x5 g5, by omega, by omega, by decide, fun z z0 z1 => ?_⟩
      have x6' := sameX_pen (pen := pen) (H := H5) (.lst [.ref sp, .int (kc + 1 + 1)])
      have x6 := x5.trans x6'
      have g6 : L2.upd H5 pen (.lst [.ref sp, .int (kc + 1 + 1)]) pen = some (.lst [.ref sp, .int (kc + 1 + 1)]) := upd_same
      have g6l : L2.upd H5 pen (.lst [.ref sp, .int (kc + 1 + 1)]) pl = some (.lst xs) := by rw [upd_ne npp]; exact g5l
      have pt6 := pt5.tupS (SameX.tup g5 x6')
      generalize L2.upd H5 pen (.lst [.ref sp, .int (kc + 1 + 1)]) = H6 at x6 g6 g6l pt6 x6' ⊢
      refine ⟨_, _, rfl, rfl, _, _, rfl, rfl, .inr ⟨by rw [p64]; omega, by rw [p64]; omega⟩, small (by show 2 ≤ 1000; decide), fun tp htp => ?_⟩
      have s7 := same_new htp (.tup [.int (i : Int), .int (far * (z - 3))])
      have g7 : L2.upd H6 tp (.tup [.int (i : Int), .int (far * (z - 3))]) tp = some (.tup [.int (i : Int), .int (far * (z - 3))]) := upd_same
      have g7l := s7 _ _ g6l
      have pt7 := (pt6.tupS (Same.tup s7)).snoc g7
      have g7p := s7 _ _ g6
      have x7 := x6.trans (Same.x (pen := pen) s7)
      generalize L2.upd H6 tp (.tup [.int (i : Int), .int (far * (z - 3))]) = H7 at s7 g7l pt7 g7p x7 g7 ⊢
      have lx := pt.dn.length
      have fw := pt.few
      refine ⟨pl, _, _, rfl, rfl, g7l, small1000 (by omega), ?_⟩
      have tp8 := tupS_put (o' := .lst (xs ++ [.ref tp])) g7l (fun _ z => nomatch z)
      refine ⟨_, kc + 1 + 1, _, _, rfl, SameX.put x7 npH npp g7l, ?_, by omega, by push_cast; omega, upd_same, pt7.tupS tp8⟩
      rw [upd_ne (Ne.symm npp)]
      exact g7p
    · exact ⟨_, kc + 1, ps, xs, rfl, x5, g5, by omega, by push_cast; omega, g5l, pt5.up⟩
  · rintro σ H4 ⟨v4, kc, ps, xs, rfl, x4, hp4, kc0, kc1, hl4, pt⟩
    have lx := pt.dn.length
    refine ⟨_, rfl, pl, _, rfl, .inl (SqL.of hl4), rfl, _, rfl, ?_⟩
    by_cases e : xs = []
    · refine iteD (by rw [e]; rfl) ?_
      have hl4' : H4 pl = some (.lst []) := by rw [hl4, e]
      refine ⟨_, rfl, .inl ⟨rfl, _, SqL.of hl4⟩, _, rfl, _, rfl, pen, sp, ns, (m : Int), kc, rfl, pn.to x4 hp4, by omega, by omega, by omega, fun y y0 y1 => ?_⟩
      have x5' := sameX_pen (pen := pen) (H := H4) (.lst [.ref sp, .int (kc + 1)])
      have x5 := x4.trans x5'
      have g5 : L2.upd H4 pen (.lst [.ref sp, .int (kc + 1)]) pen = some (.lst [.ref sp, .int (kc + 1)]) := upd_same
      have g5l : L2.upd H4 pen (.lst [.ref sp, .int (kc + 1)]) pl = some (.lst []) := by rw [upd_ne npp]; exact hl4'
      generalize L2.upd H4 pen (.lst [.ref sp, .int (kc + 1)]) = H5 at x5 g5 g5l x5' ⊢
      refine ⟨_, rfl, _, rfl, pen, sp, ns, 12, kc + 1, rfl, pn.to x5 g5, by omega, by omega, by decide, fun z z0 z1 => ?_⟩
      have x6' := sameX_pen (pen := pen) (H := H5) (.lst [.ref sp, .int (kc + 1 + 1)])
      have x6 := x5.trans x6'
      have g6 : L2.upd H5 pen (.lst [.ref sp, .int (kc + 1 + 1)]) pen = some (.lst [.ref sp, .int (kc + 1 + 1)]) := upd_same
      have g6l : L2.upd H5 pen (.lst [.ref sp, .int (kc + 1 + 1)]) pl = some (.lst []) := by rw [upd_ne npp]; exact g5l
      generalize L2.upd H5 pen (.lst [.ref sp, .int (kc + 1 + 1)]) = H6 at x6 g6 g6l x6' ⊢
      refine ⟨_, _, rfl, rfl, _, _, rfl, rfl, .inr ⟨by rw [p64]; omega, by rw [p64]; omega⟩, small (by show 2 ≤ 1000; decide), fun tp htp => ?_⟩
      have s7 := same_new htp (.tup [.int y, .int (far * (z - 3))])
      have g7 : L2.upd H6 tp (.tup [.int y, .int (far * (z - 3))]) tp = some (.tup [.int y, .int (far * (z - 3))]) := upd_same
      have g7l := s7 _ _ g6l
      have g7p := s7 _ _ g6
      have x7 := x6.trans (Same.x (pen := pen) s7)
      generalize L2.upd H6 tp (.tup [.int y, .int (far * (z - 3))]) = H7 at s7 g7l g7p x7 g7 ⊢
      refine ⟨pl, _, _, rfl, rfl, g7l, small1000 (by decide), ?_⟩
      have tp8 := tupS_put (o' := .lst ([] ++ [.ref tp])) g7l (fun _ z => nomatch z)
      refine tail _ (kc + 1 + 1) [.tuple [.int y, .int (far * (z - 3))]] [.ref tp] _ (SameX.put x7 npH npp g7l) ?_ (by omega) (by omega) upd_same (pairs_one y0 y1 (tp8 _ _ g7)) (by show 0 < 1; decide)
      rw [upd_ne (Ne.symm npp)]
      exact g7p
    · refine iteDN (fun z => ?_) ?_
      · injection z with z
        exact e (List.length_eq_zero_iff.mp (by omega))
      have lpos := List.length_pos_iff.mpr e
      exact tail _ kc ps xs H4 x4 hp4 (by omega) (by omega) hl4 pt (by omega)

end
section
variable {P : Program} {w : World} {K : PySem.W.Frag} {mg : Str → Option Value} {base : Heap} {a : Adr} {d : Fds}
theorem ok_law_cross (T : Txt K mg a d) : FnOk P w K mg base CX0 3 a.f_law_cross d.f_law_cross ["_law_state", "_law_many"] (spCrossU K) := by
  have G_law_take := ok_law_take (P := P) (w := w) (base := base) T
  have G_law_most := ok_law_most (P := P) (w := w) (base := base) T
  refine T.K_law_cross.ok sc_law_cross (fun vs H Q E h => ?_) (fun cdv A outer s H vs Q E hr h => ?_)
  · obtain ⟨pen, sp, ns, m, k, rfl, _⟩ := h
    rfl
  obtain ⟨pen, sp, ns, m, k, rfl, pn, k0, k1, m1, m9, q⟩ := h
  refine ⟨_, (pss_cons (ps_if (PW.pt (pw_or (pt_cmpR op_eq (pv 1) pe_int (nomark _)) (pw_or1 (pt_cmpR op_eq (pe_callD G_law_take hr.lv rfl T.K_law_take (pa_cons (pv 0) (pa_cons pe_int pa_nil))) pe_int (nomark _))))) (pss_one (ps_ret (pe_callD G_law_most hr.lv rfl T.K_law_most (pa_cons (pv 0) (pa_cons (pv 1) pa_nil))))) pss_nil)
      (pss_cons (ps_set (i := 2) sc_law_cross.nd rfl (Or.inl rfl) (pe_callD G_law_take hr.lv rfl T.K_law_take (pa_cons (pv 0) (pa_cons (pv 1) pa_nil))))
      (pss_cons (ps_set (i := 3) sc_law_cross.nd rfl (Or.inl rfl) (pe_op op_mod (pe_op op_add (pe_op op_add (pv 2) pe_int) (pe_callD G_law_take hr.lv rfl T.K_law_take (pa_cons (pv 0) (pa_cons (pe_op op_sub (pv 1) pe_int) pa_nil)))) (pv 1)))
      (pss_one (ps_ret (pe_tup (pa_cons (pe_ix (ixL (K := K)) (pe_lst (pa_cons pe_str (pa_cons pe_str pa_nil))) (pe_callD G_law_take hr.lv rfl T.K_law_take (pa_cons (pv 0) (pa_cons pe_int pa_nil))) (fun _ _ => rfl)) (pa_cons (pv 2) (pa_cons (pv 3) pa_nil))))))))), ?_⟩
  have most : ∀ (kc : Int) (H1 : Hp), SameX pen H H1 → H1 pen = some (.lst [.ref sp, .int kc]) → k ≤ kc → kc ≤ k + 1 → tCall (spCrossT K) [] E0 (tCons (tVar 0) (tCons (tVar 1) tNil)) [some (.ref pen), some (.int (m : Int)), none, none] H1 Q := by
    intro kc H1 x1 hp1 kc0 kc1
    exact ⟨_, rfl, _, rfl, pen, sp, ns, m, kc, rfl, pn.to x1 hp1, by omega, by omega, m1, m9, fun c v k' H' x' hp' k'0 k'1 dv ti fd => q c v k' H' (x1.trans x') hp' (by omega) (by omega) dv ti fd⟩
  refine ⟨_, rfl, rfl, _, rfl, ?_⟩
  by_cases e : m = 1
  · refine iteD (by rw [e]; rfl) ?_
    exact most k H (SameX.refl _ _) pn.at_ (by omega) (by omega)
  · refine iteDN (fun z => ?_) ?_
    · injection z with z
      omega
    refine ⟨_, rfl, pen, sp, ns, 3, k, rfl, pn, by omega, by omega, by decide, fun y y0 y1 => ?_⟩
    have x1 := sameX_pen (pen := pen) (H := H) (.lst [.ref sp, .int (k + 1)])
    have g1 : L2.upd H pen (.lst [.ref sp, .int (k + 1)]) pen = some (.lst [.ref sp, .int (k + 1)]) := upd_same
    generalize L2.upd H pen (.lst [.ref sp, .int (k + 1)]) = H1 at x1 g1 ⊢
    refine ⟨rfl, _, rfl, ?_⟩
    refine ite2 (fun _ => ?_) (fun _ => ?_)
    · exact most (k + 1) H1 x1 g1 (by omega) (by omega)
    refine ⟨_, rfl, _, rfl, pen, sp, ns, (m : Int), k + 1, rfl, pn.to x1 g1, by omega, by omega, by omega, fun one o0 o1 => ?_⟩
    have x2 := x1.trans (sameX_pen (pen := pen) (H := H1) (.lst [.ref sp, .int (k + 1 + 1)]))
    have g2 : L2.upd H1 pen (.lst [.ref sp, .int (k + 1 + 1)]) pen = some (.lst [.ref sp, .int (k + 1 + 1)]) := upd_same
    generalize L2.upd H1 pen (.lst [.ref sp, .int (k + 1 + 1)]) = H2 at x2 g2 ⊢
    refine ⟨_, rfl, _, _, rfl, rfl, _, rfl, _, rfl, _, _, rfl, rfl, pen, sp, ns, (m : Int) - 1, k + 1 + 1, rfl, pn.to x2 g2, by omega, by omega, by omega, fun x x0 x1' => ?_⟩
    have x3 := x2.trans (sameX_pen (pen := pen) (H := H2) (.lst [.ref sp, .int (k + 1 + 1 + 1)]))
    have g3 : L2.upd H2 pen (.lst [.ref sp, .int (k + 1 + 1 + 1)]) pen = some (.lst [.ref sp, .int (k + 1 + 1 + 1)]) := upd_same
    generalize L2.upd H2 pen (.lst [.ref sp, .int (k + 1 + 1 + 1)]) = H3 at x3 g3 ⊢
    refine ⟨_, _, rfl, rfl, _, rfl, _, _, rfl, rfl, (by show (0 : Int) < m; omega), ?_⟩
    refine ⟨small (by show 2 ≤ 1000; decide), fun lp hlp => ?_⟩
    have s4 := same_new hlp (.lst [.str ("needs" : Str), .str ("bans" : Str)])
    have g4 : L2.upd H3 lp (.lst [.str ("needs" : Str), .str ("bans" : Str)]) lp = some (.lst [.str ("needs" : Str), .str ("bans" : Str)]) := upd_same
    have g4p := s4 _ _ g3
    have nlp : lp ≠ pen := fun z => by rw [z, g3] at hlp; cases hlp
    have x4 := x3.trans (Same.x (pen := pen) s4)
    generalize L2.upd H3 lp (.lst [.str ("needs" : Str), .str ("bans" : Str)]) = H4 at s4 g4 g4p x4 ⊢
    refine ⟨_, rfl, pen, sp, ns, 2, k + 1 + 1 + 1, rfl, pn.to x4 g4p, by omega, by omega, by decide, fun way w0 w1 => ?_⟩
    have x5 := x4.trans (sameX_pen (pen := pen) (H := H4) (.lst [.ref sp, .int (k + 1 + 1 + 1 + 1)]))
    have g5 : L2.upd H4 pen (.lst [.ref sp, .int (k + 1 + 1 + 1 + 1)]) pen = some (.lst [.ref sp, .int (k + 1 + 1 + 1 + 1)]) := upd_same
    have g5l : L2.upd H4 pen (.lst [.ref sp, .int (k + 1 + 1 + 1 + 1)]) lp = some (.lst [.str ("needs" : Str), .str ("bans" : Str)]) := by rw [upd_ne nlp]; exact g4
    generalize L2.upd H4 pen (.lst [.ref sp, .int (k + 1 + 1 + 1 + 1)]) = H5 at x5 g5 g5l ⊢
    obtain ⟨sN, sk, snm, sok, hat⟩ : ∃ sN : Str, (sN = ("needs" : Str) ∨ sN = ("bans" : Str)) ∧ ¬ sN = ("most" : Str) ∧ PyData.strOk sN = true ∧ atI ([.str ("needs" : Str), .str ("bans" : Str)] : List V) way = some (.str sN) := by
      have e : way = 0 ∨ way = 1 := by omega
      rcases e with e | e <;> rw [e]
      · exact ⟨_, .inl rfl, by decide +kernel, strOk_needs, rfl⟩
      · exact ⟨_, .inr rfl, by decide +kernel, strOk_bans, rfl⟩
    refine ⟨lp, _, _, _, rfl, rfl, SqL.of g5l, hat, _, rfl, _, rfl, small (by show 3 ≤ 1000; decide), fun tp htp => ?_⟩
    obtain ⟨n0', n1', n2'⟩ := mod_near (many := m) (by omega) (by omega) o0 o1 x0 (by omega)
    have st := same_new htp (.tup [.str sN, .int one, .int ((one + 1 + x) % (m : Int))])
    refine q (.tuple [.str sN, .int one, .int ((one + 1 + x) % (m : Int))]) _ (k + 1 + 1 + 1 + 1) _ (x5.trans (Same.x st)) (st _ _ g5) (by omega) (by omega) ⟨tp, _, rfl, upd_same, _, _, rfl, rfl, _, _, rfl, rfl, _, _, rfl, rfl, rfl⟩ ?_ ?_
    · show tieK m sN _ _ = true
      unfold tieK
      rw [if_neg snm, if_pos sk]
      show ((decide ((0 : Int) ≤ _) && decide (_ ≤ (m : Int) - 1)) && ((decide ((0 : Int) ≤ _) && decide (_ ≤ (m : Int) - 1)) && !decide (_ = _))) = true
      rw [decide_eq_true o0, decide_eq_true (by omega), decide_eq_true n0', decide_eq_true (by omega), decide_eq_false n2']
      rfl
    · show (true && (flatD 2 (.str sN) && (true && (true && true)))) = true
      rw [show flatD 2 (.str sN) = true from sok]
      rfl

end
section
variable {P : Program} {w : World} {K : PySem.W.Frag} {mg : Str → Option Value} {base : Heap} {a : Adr} {d : Fds}
theorem ok_law_wood (T : Txt K mg a d) : FnOk P w K mg base CX0 6 a.f_law_wood d.f_law_wood ["_law_state"] (spWoodW K) := by
  have G_law_take := ok_law_take (P := P) (w := w) (base := base) T
  have G_law_boughs := ok_law_boughs (P := P) (w := w) (base := base) T
  have G_law_cross := ok_law_cross (P := P) (w := w) (base := base) T
  refine T.K_law_wood.ok sc_law_wood (fun vs H Q E h => ?_) (fun cdv A outer s H vs Q E hr h => ?_)
  · obtain ⟨pen, sp, ns, k, rfl, _⟩ := h
    rfl
  obtain ⟨pen, sp, ns, k, rfl, pn, k0, k1, q⟩ := h
  have p62 : (2 : Int) ^ 62 = 4611686018427387904 := by decide
  obtain ⟨ct5, ch5, cu5⟩ := cutS (X := (cxOf CX0 P w K mg base ["_law_state", "_law_many", "_law_boughs_here", "_law_count"] "_law_wood" (defScope s_law_wood) a.f_law_wood cdv A outer s H E).nox) (st := (defBody s_law_wood).drop 5) (pss_one (ps_ret (pe_tup (pa_cons (pv 1) (pa_cons (pe_callTy call_tuple_of rfl T.m_tuple PyProof.Rows.boot_tuple (pa_cons (pv 2) pa_nil)) (pa_cons (pe_callTy call_tuple_of rfl T.m_tuple PyProof.Rows.boot_tuple (pa_cons (pe_lc (sc0 := defScope s_law_wood) (XN := ["_law_state", "_law_many", "_law_boughs_here", "_law_count"]) (N' := ["_law_k", "_law_state", "_law_many"]) (n := 1) (kp := [0, 1]) rfl (pi_range1 rfl T.m_range (pa_cons (pv 3) pa_nil)) rfl rfl (by decide +kernel) (fun _ _ _ _ _ => (pg_name (i := 0) (by show List.Nodup (["_law_k", "_law_state", "_law_many"] : List Str); decide +kernel) rfl (Or.inl rfl))) (fun _ _ _ _ _ => pts_nil) (fun _ _ _ _ _ => (pe_callD G_law_cross hr.lv rfl T.K_law_cross (pa_cons (pv 1) (pa_cons (pv 2) pa_nil))))) pa_nil)) pa_nil))))))
  have last : ∀ (m : Nat) (l : Addr) (bs : List PyData) (xs : List V) (n : Int) (k1 : Int) (H1 : Hp), SameX pen H H1 → H1 pen = some (.lst [.ref sp, .int k1]) → k ≤ k1 → k1 ≤ k + 95 → 1 ≤ m → m ≤ 9 → H1 l = some (.lst xs) → DnL H1 bs xs → GoodB m bs → bs.length ≤ 8 → bs.all (flatD 3) = true → 0 ≤ n → n ≤ 8 → ct5 { nx := fun _ H' => Q .non H', rt := Q } [some (.ref pen), some (.int (m : Int)), some (.ref l), some (.int n)] H1 := by
    intro m l bs xs n k1 H1 x1 hp1 k10 k11 m1 m9 hl1 dn gb b8 fb n0 n8
    refine cu5 _ _ _ ?_
    refine ⟨_, rfl, _, rfl, l, _, rfl, .inl ⟨SqL.of hl1, fun t1 ht1 => ?_⟩⟩
    have s2 := same_new ht1 (.tup xs)
    have g2 : L2.upd H1 t1 (.tup xs) t1 = some (.tup xs) := upd_same
    have hp2 := s2 _ _ hp1
    have x2 := x1.trans (Same.x (pen := pen) s2)
    have d2 := DnL.same s2 _ _ dn
    generalize L2.upd H1 t1 (.tup xs) = H2 at s2 g2 hp2 x2 d2 ⊢
    refine ⟨_, rfl, _, rfl, by rw [p62]; omega, by rw [p62]; omega, ?_⟩
    refine lc_range0 (k := n.toNat) (fun i ys σ H3 => (∃ v, σ = [v, some (.ref pen), some (.int (m : Int))]) ∧ SameX pen H2 H3 ∧ ∃ (kc : Int) (cs : List PyData), H3 pen = some (.lst [.ref sp, .int kc]) ∧ k1 ≤ kc ∧ kc ≤ k1 + 31 * i ∧ DnL H3 cs ys ∧ cs.length = i ∧ (∀ c ∈ cs, isTie m c = true) ∧ cs.all (flatD 3) = true) ⟨⟨none, rfl⟩, SameX.refl _ _, k1, [], hp2, by omega, by omega, rfl, rfl, (fun _ z => nomatch z), rfl⟩ (fun i ys σ H3 hi pv => ?_) (fun i ys σ H3 hi pv => ?_) (fun ys σ H3 pv cl hcl => ?_)
    · obtain ⟨_, _, kc, cs, _, _, _, dc, ln, _⟩ := pv
      rw [← dc.length, ln]
      exact small (by omega)
    · obtain ⟨⟨v, rfl⟩, x3, kc, cs, hp3, kc0, kc1, dc, ln, okc, fc⟩ := pv
      refine ⟨_, rfl, _, rfl, pen, sp, ns, m, kc, rfl, pn.to (x2.trans x3) hp3, by omega, by omega, m1, m9, fun c v k' H4 x4 hp4 k40 k41 dv ti fd => ?_⟩
      refine ⟨⟨_, rfl⟩, x3.trans x4, k', cs ++ [c], hp4, by omega, by push_cast; omega, (DnL.tupS (SameX.tup hp3 x4) fc dc).append ⟨v, [], rfl, dv, rfl⟩, by rw [List.length_append, List.length_singleton, ln], fun b hb => ?_, ?_⟩
      · rcases List.mem_append.mp hb with z | z
        · exact okc b z
        · rw [List.mem_singleton.mp z]
          exact ti
      · rw [List.all_append, fc]
        simp [fd]
    obtain ⟨_, x3, kc, cs, hp3, kc0, kc1, dc, ln, okc, fc⟩ := pv
    have s4 := same_new hcl (.lst ys)
    have g4 : L2.upd H3 cl (.lst ys) cl = some (.lst ys) := upd_same
    have hp4 := s4 _ _ hp3
    have tS := tupS_trans (SameX.tup hp2 x3) (Same.tup s4)
    have dc4 := DnL.same s4 _ _ dc
    have x4 := (x2.trans x3).trans (Same.x (pen := pen) s4)
    generalize L2.upd H3 cl (.lst ys) = H4 at s4 g4 hp4 tS dc4 x4 ⊢
    refine ⟨cl, _, rfl, .inl ⟨SqL.of g4, fun t2 ht2 => ?_⟩⟩
    have s5 := same_new ht2 (.tup ys)
    refine ⟨small (by show 3 ≤ 1000; decide), fun wd hwd => ?_⟩
    have s6 := same_new hwd (.tup [.int (m : Int), .ref t1, .ref t2])
    have s56 := s5.trans s6
    exact q wd m bs cs kc _ (x4.trans (Same.x s56)) (s56 _ _ hp4) (by omega) (by omega) m1 m9 ⟨⟨xs, ys, ⟨t1, t2, upd_same, s56 _ _ (tS _ _ g2), s6 _ _ upd_same⟩, DnL.same s56 _ _ (DnL.tupS tS fb d2), DnL.same s56 _ _ dc4⟩, gb, okc, by omega, by omega, fb, fc, m1, m9⟩ (by omega)
  obtain ⟨ct2, ch2, cu2⟩ := cutS (X := (cxOf CX0 P w K mg base ["_law_state", "_law_many", "_law_boughs_here", "_law_count"] "_law_wood" (defScope s_law_wood) a.f_law_wood cdv A outer s H E).nox) (st := (defBody s_law_wood).drop 2) (pss_cons (ps_set (i := 2) sc_law_wood.nd rfl (Or.inl rfl) (pe_callD G_law_boughs hr.lv rfl T.K_law_boughs (pa_cons (pv 0) (pa_cons (pv 1) pa_nil))))
      (pss_cons (ps_set (i := 3) sc_law_wood.nd rfl (Or.inl rfl) (pe_callD G_law_take hr.lv rfl T.K_law_take (pa_cons (pv 0) (pa_cons pe_int pa_nil))))
      (pss_cons (ps_if (pt_cmpR op_eq (pe_callD G_law_take hr.lv rfl T.K_law_take (pa_cons (pv 0) (pa_cons pe_int pa_nil))) pe_int (nomark _)) (pss_one (ps_set (i := 3) sc_law_wood.nd rfl (Or.inl rfl) (pe_callD G_law_take hr.lv rfl T.K_law_take (pa_cons (pv 0) (pa_cons (pe_ix (ixL (K := K)) (pe_lst (pa_cons pe_int (pa_cons pe_int pa_nil))) (pe_callTy call_int1 rfl T.m_int PyProof.Rows.boot_int (pa_cons (pe_cmpR op_gt (pv 1) pe_int (nomark _)) pa_nil)) (fun _ _ => rfl)) pa_nil))))) pss_nil)
      ch5)))
  have mid : ∀ (m : Nat) (k1 : Int) (H1 : Hp), SameX pen H H1 → H1 pen = some (.lst [.ref sp, .int k1]) → k ≤ k1 → k1 ≤ k + 3 → 1 ≤ m → m ≤ 9 → ct2 { nx := fun _ H' => Q .non H', rt := Q } [some (.ref pen), some (.int (m : Int)), none, none] H1 := by
    intro m k1 H1 x1 hp1 k10 k11 m1 m9
    refine cu2 _ _ _ ?_
    refine ⟨_, rfl, _, rfl, pen, sp, ns, m, k1, rfl, pn.to x1 hp1, by omega, by omega, m1, m9, fun l bs xs k2 H2 x2 hp2 k20 k21 hl2 nl dn gb b8 fb => ?_⟩
    have nlp : l ≠ pen := fun z => by rw [z, hp1] at nl; cases nl
    refine ⟨_, rfl, pen, sp, ns, 4, k2, rfl, pn.to (x1.trans x2) hp2, by omega, by omega, by decide, fun c c0 c1 => ?_⟩
    have x3' := sameX_pen (pen := pen) (H := H2) (.lst [.ref sp, .int (k2 + 1)])
    have g3 : L2.upd H2 pen (.lst [.ref sp, .int (k2 + 1)]) pen = some (.lst [.ref sp, .int (k2 + 1)]) := upd_same
    have g3l : L2.upd H2 pen (.lst [.ref sp, .int (k2 + 1)]) l = some (.lst xs) := by rw [upd_ne nlp]; exact hl2
    have d3 := DnL.tupS (SameX.tup hp2 x3') fb dn
    generalize L2.upd H2 pen (.lst [.ref sp, .int (k2 + 1)]) = H3 at x3' g3 g3l d3 ⊢
    refine ⟨_, rfl, pen, sp, ns, 4, k2 + 1, rfl, pn.to ((x1.trans x2).trans x3') g3, by omega, by omega, by decide, fun e e0 e1 => ?_⟩
    have x4' := sameX_pen (pen := pen) (H := H3) (.lst [.ref sp, .int (k2 + 1 + 1)])
    have g4 : L2.upd H3 pen (.lst [.ref sp, .int (k2 + 1 + 1)]) pen = some (.lst [.ref sp, .int (k2 + 1 + 1)]) := upd_same
    have g4l : L2.upd H3 pen (.lst [.ref sp, .int (k2 + 1 + 1)]) l = some (.lst xs) := by rw [upd_ne nlp]; exact g3l
    have d4 := DnL.tupS (SameX.tup g3 x4') fb d3
    generalize L2.upd H3 pen (.lst [.ref sp, .int (k2 + 1 + 1)]) = H4 at x4' g4 g4l d4 ⊢
    have x4 := ((x1.trans x2).trans x3').trans x4'
    refine ⟨rfl, _, rfl, ?_⟩
    refine ite2 (fun _ => ?_) (fun _ => ?_)
    · refine ⟨_, rfl, small (by show 2 ≤ 1000; decide), fun fl hfl => ?_⟩
      have s5 := same_new hfl (.lst [.int 9, .int 7])
      have g5 : L2.upd H4 fl (.lst [.int 9, .int 7]) fl = some (.lst [.int 9, .int 7]) := upd_same
      have g5p := s5 _ _ g4
      have g5l := s5 _ _ g4l
      have d5 := DnL.same s5 _ _ d4
      have x5 := x4.trans (Same.x (pen := pen) s5)
      generalize L2.upd H4 fl (.lst [.int 9, .int 7]) = H5 at s5 g5 g5p g5l d5 x5 ⊢
      refine ⟨_, rfl, _, _, rfl, rfl, .inr ⟨_, rfl, ?_⟩⟩
      obtain ⟨top, hat, t0, t9⟩ : ∃ top : Int, atI [V.int 9, V.int 7] (if decide ((m : Int) > 6) = true then 1 else 0) = some (.int top) ∧ 0 < top ∧ top ≤ 9 := by
        split
        · exact ⟨_, rfl, by decide, by decide⟩
        · exact ⟨_, rfl, by decide, by decide⟩
      refine ⟨fl, _, _, _, rfl, rfl, SqL.of g5, hat, pen, sp, ns, top, k2 + 1 + 1, rfl, pn.to x5 g5p, by omega, by omega, t0, fun y y0 y1 => ?_⟩
      have x6' := sameX_pen (pen := pen) (H := H5) (.lst [.ref sp, .int (k2 + 1 + 1 + 1)])
      have g6 : L2.upd H5 pen (.lst [.ref sp, .int (k2 + 1 + 1 + 1)]) pen = some (.lst [.ref sp, .int (k2 + 1 + 1 + 1)]) := upd_same
      have g6l : L2.upd H5 pen (.lst [.ref sp, .int (k2 + 1 + 1 + 1)]) l = some (.lst xs) := by rw [upd_ne nlp]; exact g5l
      have d6 := DnL.tupS (SameX.tup g5p x6') fb d5
      generalize L2.upd H5 pen (.lst [.ref sp, .int (k2 + 1 + 1 + 1)]) = H6 at x6' g6 g6l d6 ⊢
      exact last m l bs xs y _ H6 (x5.trans x6') g6 (by omega) (by omega) m1 m9 g6l d6 gb b8 fb y0 (by omega)
    · exact last m l bs xs c _ H4 x4 g4 (by omega) (by omega) m1 m9 g4l d4 gb b8 fb c0 (by omega)
  refine ⟨_, (pss_cons (ps_set (i := 1) sc_law_wood.nd rfl (Or.inr rfl) (pe_op op_add pe_int (pe_callD G_law_take hr.lv rfl T.K_law_take (pa_cons (pv 0) (pa_cons pe_int pa_nil)))))
      (pss_cons (ps_if (pt_cmpR op_eq (pe_callD G_law_take hr.lv rfl T.K_law_take (pa_cons (pv 0) (pa_cons pe_int pa_nil))) pe_int (nomark _)) (pss_one (ps_set (i := 1) sc_law_wood.nd rfl (Or.inr rfl) (pe_op op_add pe_int (pe_callD G_law_take hr.lv rfl T.K_law_take (pa_cons (pv 0) (pa_cons pe_int pa_nil)))))) pss_nil)
      ch2)), ?_⟩
  refine ⟨_, rfl, pen, sp, ns, 6, k, rfl, pn, k0, by omega, by decide, fun c c0 c1 => ?_⟩
  refine ⟨_, _, rfl, rfl, ?_⟩
  have x1 := sameX_pen (pen := pen) (H := H) (.lst [.ref sp, .int (k + 1)])
  have h1 : L2.upd H pen (.lst [.ref sp, .int (k + 1)]) pen = some (.lst [.ref sp, .int (k + 1)]) := upd_same
  generalize L2.upd H pen (.lst [.ref sp, .int (k + 1)]) = H1 at x1 h1 ⊢
  refine ⟨_, rfl, pen, sp, ns, 8, k + 1, rfl, pn.to x1 h1, by omega, by omega, by decide, fun e e0 e1 => ?_⟩
  have x2 := x1.trans (sameX_pen (pen := pen) (H := H1) (.lst [.ref sp, .int (k + 1 + 1)]))
  have h2 : L2.upd H1 pen (.lst [.ref sp, .int (k + 1 + 1)]) pen = some (.lst [.ref sp, .int (k + 1 + 1)]) := upd_same
  generalize L2.upd H1 pen (.lst [.ref sp, .int (k + 1 + 1)]) = H2 at x2 h2 ⊢
  refine ⟨rfl, _, rfl, ?_⟩
  refine ite2 (fun _ => ?_) (fun _ => ?_)
  · refine ⟨_, rfl, pen, sp, ns, 3, k + 1 + 1, rfl, pn.to x2 h2, by omega, by omega, by decide, fun g g0 g1 => ?_⟩
    refine ⟨_, _, rfl, rfl, ?_⟩
    have x3 := x2.trans (sameX_pen (pen := pen) (H := H2) (.lst [.ref sp, .int (k + 1 + 1 + 1)]))
    have h3 : L2.upd H2 pen (.lst [.ref sp, .int (k + 1 + 1 + 1)]) pen = some (.lst [.ref sp, .int (k + 1 + 1 + 1)]) := upd_same
    have t := mid (7 + g).toNat _ _ x3 h3 (by omega) (by omega) (by omega) (by omega)
    rw [show (((7 + g).toNat : Nat) : Int) = 7 + g by omega] at t
    exact t
  · have t := mid (1 + c).toNat _ _ x2 h2 (by omega) (by omega) (by omega) (by omega)
    rw [show (((1 + c).toNat : Nat) : Int) = 1 + c by omega] at t
    exact t

end
section
variable {P : Program} {w : World} {K : PySem.W.Frag} {mg : Str → Option Value} {base : Heap} {a : Adr} {d : Fds}
theorem ok_law_has (T : Txt K mg a d) : FnOk P w K mg base CX0 1 a.f_law_has d.f_law_has ["_law_some", "_law_k"] spHasD := by
  refine T.K_law_has.ok sc_law_has (fun vs H Q E h => ?_) (fun cdv A outer s H vs Q E hr h => ?_)
  · obtain ⟨n, k, rfl, _⟩ := h
    rfl
  obtain ⟨n, k, rfl, k9, q⟩ := h
  have pk := pow_pos2 k
  refine ⟨_, (pss_one (ps_ret (pe_cmpR op_eq (pe_op op_mod (pe_op op_fdiv (pv 0) (pe_op op_shl pe_int (pv 1))) pe_int) pe_int (nomark _)))), ?_⟩
  refine ⟨_, rfl, _, rfl, _, _, rfl, rfl, ⟨by omega, by omega, by decide⟩, _, _, rfl, rfl, ?_, _, _, rfl, rfl, (by show (0 : Int) < 2; decide), rfl, ?_⟩
  · have p20 : 2 ^ k ≤ 2 ^ 20 := Nat.pow_le_pow_right (by decide) k9
    have e20 : (2 : Nat) ^ 20 = 1048576 := by decide
    show CDiv _ _
    unfold CDiv
    rw [shl1]
    omega
  · have e : decide ((fun i j : Int => V.int (i % j)) ((n : Int) / (1 * (2 : Int) ^ ((k : Nat) : Int).toNat)) 2 = V.int 1) = n.testBit k := by
      rw [shl1]
      exact bit_div n k
    rw [e]
    exact q

end
section
variable {P : Program} {w : World} {K : PySem.W.Frag} {mg : Str → Option Value} {base : Heap} {a : Adr} {d : Fds}
theorem ok_law_prices (T : Txt K mg a d) : FnOk P w K mg base CX0 2 a.f_law_prices d.f_law_prices ["_law_state", "_law_many"] (spPrices K) := by
  have G_law_take := ok_law_take (P := P) (w := w) (base := base) T
  refine T.K_law_prices.ok sc_law_prices (fun vs H Q E h => ?_) (fun cdv A outer s H vs Q E hr h => ?_)
  · obtain ⟨pen, sp, ns, m, k, rfl, _⟩ := h
    rfl
  obtain ⟨pen, sp, ns, m, k, rfl, pn, k0, k1, m9, q⟩ := h
  have p62 : (2 : Int) ^ 62 = 4611686018427387904 := by decide
  have p64 : (2 : Int) ^ 64 = 18446744073709551616 := by decide
  refine ⟨_, (pss_cons (ps_set (i := 2) sc_law_prices.nd rfl (Or.inr rfl) (pe_ix (ixL (K := K)) (pe_lst (pa_cons pe_int (pa_cons (pe_op op_pow pe_int pe_int) pa_nil))) (pe_callTy call_int1 rfl T.m_int PyProof.Rows.boot_int (pa_cons (pe_cmpR op_eq (pe_callD G_law_take hr.lv rfl T.K_law_take (pa_cons (pv 0) (pa_cons pe_int pa_nil))) pe_int (nomark _)) pa_nil)) (fun _ _ => rfl)))
      (pss_cons (ps_setLc (i := 3) sc_law_prices.nd rfl rfl rfl (sc0 := defScope s_law_prices) (XN := ["_law_state", "_law_many", "_law_far", "_law_prices_here"]) (N' := ["_law_k", "_law_far", "_law_state"]) (n := 1) (kp := [2, 0]) rfl (pi_range1 rfl T.m_range (pa_cons (pv 1) pa_nil)) rfl rfl (by decide +kernel) (fun _ _ _ _ _ => (pg_name (i := 0) (by show List.Nodup (["_law_k", "_law_far", "_law_state"] : List Str); decide +kernel) rfl (Or.inl rfl))) (fun _ _ _ _ _ => pts_nil) (fun _ _ _ _ _ => (pe_op op_mul (pv 1) (pe_op op_sub (pe_callD G_law_take hr.lv rfl T.K_law_take (pa_cons (pv 2) (pa_cons pe_int pa_nil))) pe_int))))
      (pss_cons (ps_if (pt_cmpR op_eq (pe_callD G_law_take hr.lv rfl T.K_law_take (pa_cons (pv 0) (pa_cons pe_int pa_nil))) pe_int (nomark _)) (pss_one (ps_setLc (i := 3) sc_law_prices.nd rfl rfl rfl (sc0 := defScope s_law_prices) (XN := ["_law_state", "_law_many", "_law_far", "_law_prices_here"]) (N' := ["_law_k", "_law_far", "_law_state"]) (n := 1) (kp := [2, 0]) rfl (pi_range1 rfl T.m_range (pa_cons (pv 1) pa_nil)) rfl rfl (by decide +kernel) (fun _ _ _ _ _ => (pg_name (i := 0) (by show List.Nodup (["_law_k", "_law_far", "_law_state"] : List Str); decide +kernel) rfl (Or.inl rfl))) (fun _ _ _ _ _ => pts_nil) (fun _ _ _ _ _ => (pe_op op_mul (pv 1) (pe_op op_sub (pe_callD G_law_take hr.lv rfl T.K_law_take (pa_cons (pv 2) (pa_cons pe_int pa_nil))) pe_int))))) pss_nil)
      (pss_one (ps_ret (pv 3)))))), ?_⟩
  refine ⟨_, _, rfl, rfl, ⟨by decide, by decide, by decide⟩, small (by show 2 ≤ 1000; decide), fun fl hfl => ?_⟩
  have sf := same_new hfl (.lst [.int 1, .int (10 ^ (57 : Int).toNat)])
  have gf : L2.upd H fl (.lst [.int 1, .int (10 ^ (57 : Int).toNat)]) fl = some (.lst [.int 1, .int (10 ^ (57 : Int).toNat)]) := upd_same
  have pn1 := pn.same sf
  have x1 := Same.x (pen := pen) sf
  have nfp : fl ≠ pen := fun z => by rw [z, pn.at_] at hfl; cases hfl
  generalize L2.upd H fl (.lst [.int 1, .int (10 ^ (57 : Int).toNat)]) = H1 at sf gf pn1 x1 ⊢
  refine ⟨_, rfl, pen, sp, ns, 6, k, rfl, pn1, by omega, by omega, by decide, fun w1 w10 w11 => ?_⟩
  have x2 := x1.trans (sameX_pen (pen := pen) (H := H1) (.lst [.ref sp, .int (k + 1)]))
  have g2 : L2.upd H1 pen (.lst [.ref sp, .int (k + 1)]) pen = some (.lst [.ref sp, .int (k + 1)]) := upd_same
  have g2f : L2.upd H1 pen (.lst [.ref sp, .int (k + 1)]) fl = some (.lst [.int 1, .int (10 ^ (57 : Int).toNat)]) := by rw [upd_ne nfp]; exact gf
  generalize L2.upd H1 pen (.lst [.ref sp, .int (k + 1)]) = H2 at x2 g2 g2f ⊢
  refine ⟨rfl, .inr ⟨_, rfl, ?_⟩⟩
  obtain ⟨far, hat⟩ : ∃ far : Int, atI [V.int 1, V.int (10 ^ (57 : Int).toNat)] (if decide (V.int w1 = V.int 0) = true then 1 else 0) = some (.int far) := by
    split
    · exact ⟨_, rfl⟩
    · exact ⟨_, rfl⟩
  refine ⟨fl, _, _, _, rfl, rfl, SqL.of g2f, hat, ?_⟩
  refine ⟨_, rfl, _, rfl, by rw [p62]; omega, by rw [p62]; omega, ?_⟩
  rw [Int.toNat_natCast]
  refine lc_range0 (k := m) (fun i ys σ H3 => (∃ v, σ = [v, some (.int far), some (.ref pen)]) ∧ SameX pen H H3 ∧ ∃ (kc : Int) (ps : List Int), H3 pen = some (.lst [.ref sp, .int kc]) ∧ k + 1 ≤ kc ∧ kc ≤ k + 1 + i ∧ ys = ps.map V.int ∧ ps.length = i) ⟨⟨none, rfl⟩, x2, k + 1, [], g2, by omega, by omega, rfl, rfl⟩ (fun i ys σ H3 hi pv => ?_) (fun i ys σ H3 hi pv => ?_) (fun ys σ H3 pv l hl => ?_)
  · obtain ⟨_, _, kc, ps, _, _, _, rfl, ln⟩ := pv
    rw [List.length_map, ln]
    exact small (by omega)
  · obtain ⟨⟨v, rfl⟩, x3, kc, ps, hp3, kc0, kc1, rfl, ln⟩ := pv
    refine ⟨_, rfl, _, rfl, pen, sp, ns, 30, kc, rfl, pn.to x3 hp3, by omega, by omega, by decide, fun y y0 y1 => ?_⟩
    refine ⟨_, _, rfl, rfl, _, _, rfl, rfl, .inr ⟨by rw [p64]; omega, by rw [p64]; omega⟩, ?_⟩
    exact ⟨⟨_, rfl⟩, x3.trans (sameX_pen (pen := pen) (H := H3) (.lst [.ref sp, .int (kc + 1)])), kc + 1, ps ++ [far * (y - 8)], upd_same, by omega, by push_cast; omega, by rw [List.map_append]; rfl, by rw [List.length_append, ln]; rfl⟩
  obtain ⟨_, x3, kc, ps, hp3, kc0, kc1, rfl, ln⟩ := pv
  have s4 := same_new hl (.lst (ps.map V.int))
  have g4 : L2.upd H3 l (.lst (ps.map V.int)) l = some (.lst (ps.map V.int)) := upd_same
  have hp4 := s4 _ _ hp3
  have nl : H l = none := x3.free ⟨_, hp3⟩ hl
  have nlp : l ≠ pen := fun z => by rw [z, hp3] at hl; cases hl
  have x4 := x3.trans (Same.x (pen := pen) s4)
  generalize L2.upd H3 l (.lst (ps.map V.int)) = H4 at s4 g4 hp4 x4 ⊢
  refine ⟨_, rfl, pen, sp, ns, 4, kc, rfl, pn.to x4 hp4, by omega, by omega, by decide, fun y y0 y1 => ?_⟩
  have x5' := sameX_pen (pen := pen) (H := H4) (.lst [.ref sp, .int (kc + 1)])
  have x5 := x4.trans x5'
  have g5 : L2.upd H4 pen (.lst [.ref sp, .int (kc + 1)]) pen = some (.lst [.ref sp, .int (kc + 1)]) := upd_same
  have g5l : L2.upd H4 pen (.lst [.ref sp, .int (kc + 1)]) l = some (.lst (ps.map V.int)) := by rw [upd_ne nlp]; exact g4
  generalize L2.upd H4 pen (.lst [.ref sp, .int (kc + 1)]) = H5 at x5 g5 g5l x5' ⊢
  refine ⟨rfl, _, rfl, ?_⟩
  refine ite2 (fun _ => ?_) (fun _ => ?_)
  · refine ⟨_, rfl, _, rfl, by rw [p62]; omega, by rw [p62]; omega, ?_⟩
    rw [Int.toNat_natCast]
    refine lc_range0 (k := m) (fun i ys σ H3 => (∃ v, σ = [v, some (.int far), some (.ref pen)]) ∧ SameX pen H H3 ∧ ∃ (kd : Int) (ps : List Int), H3 pen = some (.lst [.ref sp, .int kd]) ∧ kc + 1 ≤ kd ∧ kd ≤ kc + 1 + i ∧ ys = ps.map V.int ∧ ps.length = i) ⟨⟨none, rfl⟩, x5, kc + 1, [], g5, by omega, by omega, rfl, rfl⟩ (fun i ys σ H3 hi pv => ?_) (fun i ys σ H3 hi pv => ?_) (fun ys σ H3 pv l hl => ?_)
    · obtain ⟨_, _, kc, ps, _, _, _, rfl, ln⟩ := pv
      rw [List.length_map, ln]
      exact small (by omega)
    · obtain ⟨⟨v, rfl⟩, x3, kd, ps, hp3, kd0, kd1, rfl, ln⟩ := pv
      refine ⟨_, rfl, _, rfl, pen, sp, ns, 3, kd, rfl, pn.to x3 hp3, by omega, by omega, by decide, fun y y0 y1 => ?_⟩
      refine ⟨_, _, rfl, rfl, _, _, rfl, rfl, .inr ⟨by rw [p64]; omega, by rw [p64]; omega⟩, ?_⟩
      exact ⟨⟨_, rfl⟩, x3.trans (sameX_pen (pen := pen) (H := H3) (.lst [.ref sp, .int (kd + 1)])), kd + 1, ps ++ [far * (y - 1)], upd_same, by omega, by push_cast; omega, by rw [List.map_append]; rfl, by rw [List.length_append, ln]; rfl⟩
    obtain ⟨_, x3, kd, ps, hp3, kd0, kd1, rfl, ln⟩ := pv
    have s4 := same_new hl (.lst (ps.map V.int))
    exact ⟨_, rfl, q l ps kd _ (x3.trans (Same.x s4)) (s4 _ _ hp3) (by omega) (by omega) (x3.free ⟨_, hp3⟩ hl) upd_same ln⟩
  · exact ⟨_, rfl, q l ps (kc + 1) _ x5 g5 (by omega) (by omega) nl g5l ln⟩

end
section
variable {P : Program} {w : World} {K : PySem.W.Frag} {mg : Str → Option Value} {base : Heap} {a : Adr} {d : Fds}
theorem ok_law_price (T : Txt K mg a d) : FnOk P w K mg base CX0 2 a.f_law_price d.f_law_price ["_law_prices_here", "_law_some"] spLPrice := by
  have G_law_has := ok_law_has (P := P) (w := w) (base := base) T
  refine T.K_law_price.ok sc_law_price (fun vs H Q E h => ?_) (fun cdv A outer s H vs Q E hr h => ?_)
  · obtain ⟨lp, ps, n, rfl, _⟩ := h
    rfl
  obtain ⟨lp, ps, n, rfl, hl, p9, q⟩ := h
  have p62 : (2 : Int) ^ 62 = 4611686018427387904 := by decide
  have ln : (ps.map V.int).length = ps.length := List.length_map _
  refine ⟨_, (pss_one (ps_ret (pe_callB (call_sum_ints rfl) rfl T.m_sum PyProof.Rows.boot_sum (pa_cons (pe_lc (sc0 := defScope s_law_price) (XN := ["_law_prices_here", "_law_some"]) (N' := ["_law_k", "_law_prices_here", "_law_some"]) (n := 1) (kp := [0, 1]) rfl (pi_range1 rfl T.m_range (pa_cons (pe_callB (lenS (K := K)) rfl T.m_len PySem.boot_len (pa_cons (pv 0) pa_nil)) pa_nil)) rfl rfl (by decide +kernel) (fun _ _ _ _ _ => (pg_name (i := 0) (by show List.Nodup (["_law_k", "_law_prices_here", "_law_some"] : List Str); decide +kernel) rfl (Or.inl rfl))) (fun _ _ _ _ _ => (pts_one (pt_val (pe_callD G_law_has hr.lv rfl T.K_law_has (pa_cons (pv 2) (pa_cons (pv 0) pa_nil)))))) (fun _ _ _ _ _ => (pe_ix (ixL (K := K)) (pv 1) (pv 0) (fun _ _ => rfl)))) pa_nil)))), ?_⟩
  refine ⟨_, rfl, lp, _, rfl, .inl (SqL.of hl), _, rfl, by rw [p62, ln]; omega, by rw [p62, ln]; omega, ?_⟩
  rw [ln, Int.toNat_natCast]
  refine lc_range0 (k := ps.length) (fun i ys σ H2 => (∃ v, σ = [v, some (.ref lp), some (.int (n : Int))]) ∧ H2 = H ∧ ys = (((List.range i).filter fun k => n.testBit k).map fun k => ps.getD k 0).map V.int) ⟨⟨none, rfl⟩, rfl, rfl⟩ (fun i ys σ H2 hi pv => ?_) (fun i ys σ H2 hi pv => ?_) (fun ys σ H2 pv la hla => ?_)
  · obtain ⟨_, _, rfl⟩ := pv
    rw [List.length_map, List.length_map]
    refine small (Nat.le_trans (List.length_filter_le _ _) ?_)
    rw [List.length_range]
    omega
  · obtain ⟨⟨v, rfl⟩, rfl, rfl⟩ := pv
    have pk : ps[i]? = some ps[i] := List.getElem?_eq_getElem hi
    refine ⟨_, rfl, _, rfl, n, i, rfl, by omega, _, rfl, ?_⟩
    cases c : n.testBit i with
    | true =>
      refine iteT ?_
      refine ⟨_, rfl, _, rfl, lp, _, _, .int ps[i], rfl, rfl, SqL.of hl, atI_nat (by rw [List.getElem?_map, pk]; rfl), ⟨_, rfl⟩, rfl, ?_⟩
      rw [List.range_succ, List.filter_append, List.filter_cons_of_pos c, List.map_append, List.map_append, List.filter_nil]
      show _ = _ ++ [V.int (ps.getD i 0)]
      rw [List.getD_eq_getElem?_getD, pk]
      rfl
    | false =>
      refine iteF ?_
      refine ⟨⟨_, rfl⟩, rfl, ?_⟩
      rw [List.range_succ, List.filter_append, List.filter_cons_of_neg (by rw [c]; exact Bool.false_ne_true), List.filter_nil, List.append_nil]
  obtain ⟨_, rfl, rfl⟩ := pv
  have e : sumP (enumP ps) (fun p => n.testBit p.1) = (((List.range ps.length).filter fun k => n.testBit k).map fun k => ps.getD k 0).sum := by
    unfold sumP enumP
    rw [List.filter_map, List.map_map]
    rfl
  rw [e] at q
  exact ⟨la, _, rfl, SqL.of upd_same, q _ (same_new hla _)⟩

end
section
variable {P : Program} {w : World} {K : PySem.W.Frag} {mg : Str → Option Value} {base : Heap} {a : Adr} {d : Fds}
theorem ok_law_whole (T : Txt K mg a d) : FnOk P w K mg base CX0 1 a.f_law_whole d.f_law_whole ["_law_found"] spWhole := by
  refine T.K_law_whole.ok sc_law_whole (fun vs H Q E h => ?_) (fun cdv A outer s H vs Q E hr h => ?_)
  · obtain ⟨d, v, rfl, _⟩ := h
    rfl
  obtain ⟨d, v, rfl, hd, q⟩ := h
  refine ⟨_, (pss_one (ps_ret (pe_and (pe_callB (isiK (K := K)) rfl T.m_isinstance PyProof.Rows.boot_isinstance (pa_cons (pv 0) (pa_cons (pe_bltn (v := .ty "int") rfl T.m_int PyProof.Rows.boot_int rfl) pa_nil))) (pe_one (pe_not (pe_callB (isiK (K := K)) rfl T.m_isinstance PyProof.Rows.boot_isinstance (pa_cons (pv 0) (pa_cons (pe_bltn (v := .ty "bool") rfl T.m_bool PyProof.Rows.boot_bool rfl) pa_nil)))))))), ?_⟩
  refine ⟨_, rfl, _, _, _, _, rfl, dn_ty hd, ty_int d, _, rfl, ?_⟩
  refine ite2 (fun c => ?_) (fun c => ?_)
  · refine ⟨_, rfl, _, _, _, _, rfl, dn_ty hd, ty_bool d, _, rfl, ?_⟩
    have e : (!isBool d) = isW d := by
      cases d <;> first | rfl | cases c
    rw [e]
    exact q
  · have e : isW d = false := by
      cases d <;> first | rfl | exact absurd rfl c
    rw [e] at q
    exact q

end
section
variable {P : Program} {w : World} {K : PySem.W.Frag} {mg : Str → Option Value} {base : Heap} {a : Adr} {d : Fds}
theorem ok_law_first_sure (T : Txt K mg a d) : FnOk P w K mg base CX0 5 a.f_law_first_sure d.f_law_first_sure ["_law_wood_here", "_law_yes", "_law_no"] spFirstSure := by
  have G_sure_broken := ok_sure_broken (P := P) (w := w) (base := base) T
  refine T.K_law_first_sure.ok sc_law_first_sure (fun vs H Q E h => ?_) (fun cdv A outer s H vs Q E hr h => ?_)
  · obtain ⟨wd, m, ts, y, n, rfl, _⟩ := h
    rfl
  obtain ⟨wd, m, ts, y, n, rfl, W, q⟩ := h
  obtain ⟨xs, ys, ⟨tb, tc, hw, hb, hc⟩, dn⟩ := W.ex
  have p62 : (2 : Int) ^ 62 = 4611686018427387904 := by decide
  have few := W.few
  have m9 := W.m9
  have ln : ts.length = xs.length + ys.length := by
    have := dn.length
    rw [List.length_map, List.length_append] at this
    exact this
  refine ⟨_, (pss_cons (ps_set (i := 3) sc_law_first_sure.nd rfl (Or.inr rfl) (pe_op op_cat (pe_callTy call_list_of rfl T.m_list PyProof.Rows.boot_list (pa_cons (pe_ix (ixT (K := K)) (pv 0) pe_int (fun _ _ => rfl)) pa_nil)) (pe_callTy call_list_of rfl T.m_list PyProof.Rows.boot_list (pa_cons (pe_ix (ixT (K := K)) (pv 0) pe_int (fun _ _ => rfl)) pa_nil))))
      (pss_cons (ps_setLc (i := 4) sc_law_first_sure.nd rfl rfl rfl (sc0 := defScope s_law_first_sure) (XN := ["_law_wood_here", "_law_yes", "_law_no", "_law_ties", "_law_some"]) (N' := ["_law_t", "_law_yes", "_law_no", "_law_ties"]) (n := 1) (kp := [1, 2, 3]) rfl (pi_range1 rfl T.m_range (pa_cons (pe_callB (lenS (K := K)) rfl T.m_len PySem.boot_len (pa_cons (pv 3) pa_nil)) pa_nil)) rfl rfl (by decide +kernel) (fun _ _ _ _ _ => (pg_name (i := 0) (by show List.Nodup (["_law_t", "_law_yes", "_law_no", "_law_ties"] : List Str); decide +kernel) rfl (Or.inl rfl))) (fun _ _ _ _ _ => (pts_one (pt_val (pe_callD G_sure_broken hr.lv rfl T.K_sure_broken (pa_cons (pe_ix (ixL (K := K)) (pv 3) (pv 0) (fun _ _ => rfl)) (pa_cons (pv 1) (pa_cons (pv 2) pa_nil))))))) (fun _ _ _ _ _ => (pv 0)))
      (pss_cons (ps_if (pt_cmpR op_eq (pe_callB (lenS (K := K)) rfl T.m_len PySem.boot_len (pa_cons (pv 4) pa_nil)) pe_int (nomark _)) (pss_one (ps_ret pe_non)) pss_nil)
      (pss_one (ps_ret (pe_ix (ixL (K := K)) (pv 4) pe_int (fun _ _ => rfl))))))), ?_⟩
  refine ⟨_, rfl, wd, _, _, _, rfl, rfl, sqT hw, at1, tb, _, rfl, .inr (sqT hb), fun l1 hl1 => ?_⟩
  have s1 := same_new hl1 (.lst xs)
  refine ⟨_, rfl, wd, _, _, _, rfl, rfl, sqT (s1 _ _ hw), at2, tc, _, rfl, .inr (sqT (s1 _ _ hc)), fun l2 hl2 => ?_⟩
  have s2 := same_new hl2 (.lst ys)
  refine ⟨l1, l2, xs, ys, rfl, rfl, s2 _ _ upd_same, upd_same, small (by omega), fun l3 hl3 => ?_⟩
  have s3 := (s1.trans s2).trans (same_new hl3 (.lst (xs ++ ys)))
  have g3 : L2.upd (L2.upd (L2.upd H l1 (.lst xs)) l2 (.lst ys)) l3 (.lst (xs ++ ys)) l3 = some (.lst (xs ++ ys)) := upd_same
  generalize L2.upd (L2.upd (L2.upd H l1 (.lst xs)) l2 (.lst ys)) l3 (.lst (xs ++ ys)) = H3 at s3 g3 ⊢
  have lx : (xs ++ ys).length = ts.length := by rw [List.length_append]; omega
  refine ⟨_, rfl, l3, _, rfl, .inl (SqL.of g3), _, rfl, by rw [p62, lx]; omega, by rw [p62, lx]; omega, ?_⟩
  rw [lx, Int.toNat_natCast]
  refine lc_rfiltS (n := ts.length) (fun t => sbAt ts t y n) rfl (by omega) (fun t ht H4 s4 R hR => ?_) (fun H4 lf s4 nlf => ?_)
  · obtain ⟨x, hx⟩ : ∃ x, (xs ++ ys)[t]? = some x := ⟨_, List.getElem?_eq_getElem (by omega)⟩
    obtain ⟨t0, ht0, hd⟩ := dn_tie (DnL.same (s3.trans s4) _ _ dn) hx
    refine ⟨_, rfl, _, rfl, l3, _, _, x, rfl, rfl, SqL.of (s4 _ _ g3), atI_nat hx, _, rfl, _, rfl, t0, m, y, n, x, rfl, hd, W.ok t0 (List.mem_of_getElem? ht0), by omega, fun H5 s5 => ?_⟩
    have e : sbAt ts t y n = t0.sb y n := by unfold sbAt; rw [ht0]
    have := hR H5 (s4.trans s5)
    rw [e] at this
    exact ⟨_, rfl, this⟩
  have s5 := s4.trans (same_new nlf (.lst (natsL ((List.range ts.length).filter fun t => sbAt ts t y n))))
  have g5 : L2.upd H4 lf (.lst (natsL ((List.range ts.length).filter fun t => sbAt ts t y n))) lf = some (.lst (natsL ((List.range ts.length).filter fun t => sbAt ts t y n))) := upd_same
  generalize L2.upd H4 lf (.lst (natsL ((List.range ts.length).filter fun t => sbAt ts t y n))) = H5 at s5 g5 ⊢
  have e : firstSB ts (allT ts) y n = ((List.range ts.length).filter fun t => sbAt ts t y n).head? := by
    unfold firstSB allT
    rw [List.head?_filter]
  refine ⟨_, rfl, lf, _, rfl, .inl (SqL.of g5), rfl, _, rfl, ?_⟩
  rw [dec_cnt0, List.length_map]
  have q5 := q H5 (s3.trans s5)
  rw [e] at q5
  generalize (List.range ts.length).filter (fun t => sbAt ts t y n) = L at g5 q5 ⊢
  cases L with
  | nil =>
    refine iteD rfl ?_
    exact q5
  | cons t r =>
    refine iteDN (by simp) ?_
    exact ⟨_, rfl, lf, _, _, _, rfl, rfl, SqL.of g5, at0, q5⟩

end
section
variable {P : Program} {w : World} {K : PySem.W.Frag} {mg : Str → Option Value} {base : Heap} {a : Adr} {d : Fds}
theorem ok_law_told_bounds (T : Txt K mg a d) : FnOk P w K mg base CX0 6 a.f_law_told_bounds d.f_law_told_bounds ["_law_wood_here", "_law_prices_here", "_law_price_here", "_law_tree"] spToldB := by
  have G_law_first_sure := ok_law_first_sure (P := P) (w := w) (base := base) T
  have G_law_has := ok_law_has (P := P) (w := w) (base := base) T
  have G_law_price := ok_law_price (P := P) (w := w) (base := base) T
  refine T.K_law_told_bounds.ok sc_law_told_bounds (fun vs H Q E h => ?_) (fun cdv A outer s H vs Q E hr h => ?_)
  · obtain ⟨wd, lp, m, ts, ps, p, v, rfl, _⟩ := h
    rfl
  obtain ⟨wd, lp, m, ts, ps, p, v, rfl, W, m1, m9, hlp, lm, dn, ⟨R, r0, rs, re⟩, q⟩ := h
  have p62 : (2 : Int) ^ 62 = 4611686018427387904 := by decide
  have TW := told_W (dear_leaf_word (m := m) (ts := ts) (ps := ps) (p := p)) rs re
  have of := open_few m 1 0
  refine ⟨_, (pss_cons (ps_set (i := 4) sc_law_told_bounds.nd rfl (Or.inl rfl) (pe_lst (pa_cons (pe_tup (pa_cons pe_int (pa_cons pe_int (pa_cons (pv 3) pa_nil)))) pa_nil)))
      (pss_cons (ps_while PassesOwn.never (pt_cmpR op_gt (pe_callB (lenS (K := K)) rfl T.m_len PySem.boot_len (pa_cons (pv 4) pa_nil)) pe_int (nomark _)) (pss_cons (ps_asg (pe_bm0K (K := K) PySem.F.plainAttrs_list PySem.F.slot_list_pop PySem.F.type_list_pop mt_pop (pv 4)) (pgT (K := K) (n := 3) rfl (pgs_cons (pg_name (i := 5) sc_law_told_bounds.nd rfl (Or.inr rfl)) (pgs_cons (pg_name (i := 6) sc_law_told_bounds.nd rfl (Or.inr rfl)) (pgs_cons (pg_name (i := 7) sc_law_told_bounds.nd rfl (Or.inl rfl)) pgs_nil)))))
      (pss_cons (ps_set (i := 8) sc_law_told_bounds.nd rfl (Or.inl rfl) (pe_callD G_law_first_sure hr.lv rfl T.K_law_first_sure (pa_cons (pv 0) (pa_cons (pv 5) (pa_cons (pv 6) pa_nil)))))
      (pss_cons (ps_setLc (i := 9) sc_law_told_bounds.nd rfl rfl rfl (sc0 := defScope s_law_told_bounds) (XN := ["_law_wood_here", "_law_prices_here", "_law_price_here", "_law_tree", "_law_waiting", "_law_yes", "_law_no", "_law_node", "_law_t", "_law_free", "_law_lower"]) (N' := ["_law_k", "_law_yes", "_law_no"]) (n := 1) (kp := [5, 6]) rfl (pi_range1 rfl T.m_range (pa_cons (pe_ix (ixT (K := K)) (pv 0) pe_int (fun _ _ => rfl)) pa_nil)) rfl rfl (by decide +kernel) (fun _ _ _ _ _ => (pg_name (i := 0) (by show List.Nodup (["_law_k", "_law_yes", "_law_no"] : List Str); decide +kernel) rfl (Or.inl rfl))) (fun _ _ _ _ _ => (pts_one (pt_not (pt_val (pe_callD G_law_has hr.lv rfl T.K_law_has (pa_cons (pe_op op_or (pv 1) (pv 2)) (pa_cons (pv 0) pa_nil))))))) (fun _ _ _ _ _ => (pv 0)))
      (pss_cons (ps_set (i := 10) sc_law_told_bounds.nd rfl (Or.inl rfl) (pe_op op_add (pe_callD G_law_price hr.lv rfl T.K_law_price (pa_cons (pv 1) (pa_cons (pv 5) pa_nil))) (pe_callB (call_sum_ints rfl) rfl T.m_sum PyProof.Rows.boot_sum (pa_cons (pe_lc (sc0 := defScope s_law_told_bounds) (XN := ["_law_wood_here", "_law_prices_here", "_law_price_here", "_law_tree", "_law_waiting", "_law_yes", "_law_no", "_law_node", "_law_t", "_law_free", "_law_lower"]) (N' := ["_law_k", "_law_prices_here"]) (n := 1) (kp := [1]) rfl (piL (K := K) (pv 9)) rfl rfl (by decide +kernel) (fun _ _ _ _ _ => (pg_name (i := 0) (by show List.Nodup (["_law_k", "_law_prices_here"] : List Str); decide +kernel) rfl (Or.inl rfl))) (fun _ _ _ _ _ => pts_nil) (fun _ _ _ _ _ => (pe_callB (call_min2 rfl) rfl T.m_min PyProof.Rows.boot_min (pa_cons pe_int (pa_cons (pe_ix (ixL (K := K)) (pv 1) (pv 0) (fun _ _ => rfl)) pa_nil))))) pa_nil))))
      (pss_one (ps_if (pt_cmpR op_notN (pv 8) pe_non (nomark _)) (pss_one (ps_if (PW.pt (pw_or (pt_cmpR (op_ne_data hr.units) (pv 7) (pe_tup (pa_cons pe_str (pa_cons (pv 8) pa_nil))) (nomark _)) (pw_or1 (pt_val (pe_callB (isiK (K := K)) rfl T.m_isinstance PyProof.Rows.boot_isinstance (pa_cons (pe_ix (ixT (K := K)) (pv 7) pe_int (fun _ _ => rfl)) (pa_cons (pe_bltn (v := .ty "bool") rfl T.m_bool PyProof.Rows.boot_bool rfl) pa_nil))))))) (pss_one (ps_ret pe_bl)) pss_nil)) (pss_one (ps_if (pt_cmpR op_ge (pv 10) (pv 2) (nomark _)) (pss_one (ps_if (pt_cmpR (op_ne_data hr.units) (pv 7) (pe_tup (pa_cons pe_str pa_nil)) (nomark _)) (pss_one (ps_ret pe_bl)) pss_nil)) (pss_cons (ps_if (PW.pt (pw_or (pt_not (pt_val (pe_callB (isiK (K := K)) rfl T.m_isinstance PyProof.Rows.boot_isinstance (pa_cons (pv 7) (pa_cons (pe_bltn (v := .ty "tuple") rfl T.m_tuple PyProof.Rows.boot_tuple rfl) pa_nil))))) (pw_or (pt_cmpR op_ne (pe_callB (lenS (K := K)) rfl T.m_len PySem.boot_len (pa_cons (pv 7) pa_nil)) pe_int (nomark _)) (pw_or1 (pt_cmpR (op_ne_data hr.units) (pe_slice sl_tupA (pv 7) po_none (po_some pe_int)) (pe_tup (pa_cons pe_str (pa_cons (pe_ix (ixL (K := K)) (pv 9) pe_int (fun _ _ => rfl)) pa_nil))) (nomark _)))))) (pss_one (ps_ret pe_bl)) pss_nil)
      (pss_cons (ps_expr (pe_bmK (K := K) PySem.F.plainAttrs_list PySem.F.slot_list_append PySem.F.type_list_append mt_append (pv 4) (pa_cons (pe_tup (pa_cons (pe_op op_or (pv 5) (pe_op op_shl pe_int (pe_ix (ixL (K := K)) (pv 9) pe_int (fun _ _ => rfl)))) (pa_cons (pv 6) (pa_cons (pe_ix (ixT (K := K)) (pv 7) pe_int (fun _ _ => rfl)) pa_nil)))) pa_nil)))
      (pss_one (ps_expr (pe_bmK (K := K) PySem.F.plainAttrs_list PySem.F.slot_list_append PySem.F.type_list_append mt_append (pv 4) (pa_cons (pe_tup (pa_cons (pv 5) (pa_cons (pe_op op_or (pv 6) (pe_op op_shl pe_int (pe_ix (ixL (K := K)) (pv 9) pe_int (fun _ _ => rfl)))) (pa_cons (pe_ix (ixT (K := K)) (pv 7) pe_int (fun _ _ => rfl)) pa_nil)))) pa_nil)))))))))))))))
      (pss_one (ps_ret pe_bl)))), ?_⟩
  refine ⟨_, rfl, small (by show 3 ≤ 1000; decide), fun q0 nq0 => ?_⟩
  have s1 := same_new nq0 (.tup [.int 1, .int 0, v])
  have g1 : L2.upd H q0 (.tup [.int 1, .int 0, v]) q0 = some (.tup [.int 1, .int 0, v]) := upd_same
  generalize L2.upd H q0 (.tup [.int 1, .int 0, v]) = H1 at s1 g1 ⊢
  refine ⟨small (by show 1 ≤ 1000; decide), fun wl nwl => ?_⟩
  have s2 := same_new nwl (.lst [.ref q0])
  have g2 : L2.upd H1 wl (.lst [.ref q0]) wl = some (.lst [.ref q0]) := upd_same
  have nw : H wl = none := s1.free nwl
  generalize L2.upd H1 wl (.lst [.ref q0]) = H2 at s2 g2 ⊢
  obtain ⟨t0, e0, _, _, _, st0⟩ := TW 9 1 0 (by omega) r0
  have lpw : lp ≠ wl := fun z => by rw [z, nw] at hlp; cases hlp
  have s12 := s1.trans s2
  have wait0 : wait m [(1, 0)] ≤ 20000 := by
    have h : 3 ^ (openL m 1 0).length ≤ 3 ^ 9 := Nat.pow_le_pow_right (by decide) (by omega)
    show 3 ^ (openL m 1 0).length + 0 ≤ 20000
    have : (3 : Nat) ^ 9 = 19683 := by decide
    omega
  refine ⟨fun μ σ Hx => ∃ (xs : List V) (S : List (Nat × Nat)) (o5 o6 o7 o8 o9 o10 : Option V), σ = [some (.ref wd), some (.ref lp), some (.int p), some v, some (.ref wl), o5, o6, o7, o8, o9, o10] ∧ SameX wl H2 Hx ∧ Hx wl = some (.lst xs) ∧ EntL (ToldB m ts ps p R) Hx xs.reverse S ∧ μ = wait m S ∧ μ ≤ 20000, ⟨_, [.ref q0], [(1, 0)], none, none, none, none, none, none, rfl, SameX.refl _ _, g2, ⟨⟨q0, v, rfl, s2 _ _ g1, 9, t0, e0, st0, by rw [e0]; exact Dn.same s12 _ _ dn, (by show (openL m 1 0).length ≤ 9; omega), Nat.le_refl _, r0, stand1 m1⟩, trivial⟩, rfl, wait0⟩, ?_⟩
  rintro μ σ Hx ⟨xs, S, o5, o6, o7, o8, o9, o10, rfl, sx, hwl, en, rfl, w20⟩
  refine ⟨_, rfl, wl, _, rfl, .inl (SqL.of hwl), _, _, rfl, rfl, _, rfl, ?_⟩
  cases S with
  | nil =>
    have ex : xs = [] := List.reverse_eq_nil_iff.mp en.nil
    subst ex
    refine iteCN rfl ?_
    exact q _ (SameX.fresh s12 nw g2 sx)
  | cons e S =>
    obtain ⟨y, n⟩ := e
    obtain ⟨x, r, ex, ⟨q1, v1, rfl, hq1, tb⟩, en'⟩ := en.top
    obtain ⟨lst, drp, xl⟩ := rev_last ex
    have sl := wait_len (m := m) ((y, n) :: S)
    have rl := en'.len
    rw [List.length_cons] at sl
    refine iteC (decide_eq_true (by show (0 : Int) < (xs.length : Int); omega)) ?_
    refine ⟨fun σ' H' => ∃ m', m' < wait m ((y, n) :: S) ∧ ∃ (xs : List V) (S : List (Nat × Nat)) (o5 o6 o7 o8 o9 o10 : Option V), σ' = [some (.ref wd), some (.ref lp), some (.int p), some v, some (.ref wl), o5, o6, o7, o8, o9, o10] ∧ SameX wl H2 H' ∧ H' wl = some (.lst xs) ∧ EntL (ToldB m ts ps p R) H' xs.reverse S ∧ m' = wait m S ∧ m' ≤ 20000, fun σ' H' h => h, ?_⟩
    refine ⟨_, rfl, .inl ⟨rfl, _, SqL.of hwl⟩, wl, xs, _, rfl, rfl, hwl, lst, ?_⟩
    have x3 := sameX_pen (pen := wl) (H := Hx) (.lst xs.dropLast)
    have g3 : L2.upd Hx wl (.lst xs.dropLast) wl = some (.lst xs.dropLast) := upd_same
    generalize L2.upd Hx wl (.lst xs.dropLast) = H3 at x3 g3 ⊢
    have t3 := SameX.tup hwl x3
    have sx3 := sx.trans x3
    have hq3 := t3 _ _ hq1
    have tb3 := ToldB.to t3 y n v1 tb
    have en3 := en'.to t3 (fun y n v => ToldB.to t3 y n v)
    refine ⟨q1, _, rfl, sqT hq3, rfl, _, _, rfl, _, _, rfl, _, _, rfl, rfl, ?_⟩
    have sH3 := SameX.fresh s12 nw g2 sx3
    have W3 := W.same sH3
    refine ⟨_, rfl, _, rfl, _, rfl, wd, m, ts, y, n, rfl, W3, fun H4 s4 => ?_⟩
    obtain ⟨tb1, tc1, hw4⟩ : ∃ tb1 tc1, H4 wd = some (.tup [.int (m : Int), tb1, tc1]) := by
      obtain ⟨_, _, ⟨tb, tc, hw, _, _⟩, _⟩ := (W3.same s4).ex
      exact ⟨_, _, hw⟩
    refine ⟨_, rfl, wd, _, _, _, rfl, rfl, sqT hw4, at0, _, rfl, by rw [p62]; omega, by rw [p62]; omega, ?_⟩
    rw [Int.toNat_natCast]
    refine lc_rfilt (n := m) (fun k => !(y ||| n).testBit k) rfl (by omega) (fun k hk R' hR' => ⟨_, rfl, _, rfl, _, _, rfl, rfl, _, rfl, y ||| n, k, by show [V.int (Builtin.bitOr (y : Int) (n : Int)), V.int (k : Int)] = _; rw [lor_nat], by omega, _, rfl, hR'⟩) (fun lf nlf => ?_)
    have s5 := same_new nlf (.lst (natsL (openL m y n)))
    have g5 : L2.upd H4 lf (.lst (natsL (openL m y n))) lf = some (.lst (natsL (openL m y n))) := upd_same
    generalize hH5 : L2.upd H4 lf (.lst (natsL (openL m y n))) = H5 at s5 g5
    have hH5' : L2.upd H4 lf (.lst (natsL ((List.range m).filter fun k => !(y ||| n).testBit k))) = H5 := hH5
    rw [hH5']
    have s45 := s4.trans s5
    have hlp5 : H5 lp = some (.lst (ps.map V.int)) := s45 _ _ (sH3 _ _ hlp)
    obtain ⟨f, t, et, st, dt, of', f9, ry, Sy⟩ := tb3
    refine ⟨_, rfl, _, rfl, lp, ps, y, rfl, hlp5, by omega, fun H6 s6 => ?_⟩
    have ol : (openL m y n).length ≤ 9 := by omega
    refine ⟨_, rfl, lf, rfl, ⟨_, SqL.of (s6 _ _ g5)⟩, ?_⟩
    refine lc_list (K := K) (a := lf) (xs := natsL (openL m y n)) (fun j ys σ H7 => (∃ v, σ = [v, some (.ref lp)]) ∧ H7 = H6 ∧ ys = (((openL m y n).take j).map fun k => min 0 (ps.getD k 0)).map V.int) ⟨⟨none, rfl⟩, rfl, rfl⟩ (fun j ys σ H7 hj pv => ?_) (fun j ys σ H7 hj pv => ?_) (fun j x ys σ H7 hx pv => ?_) (fun ys σ H7 pv lg nlg => ?_)
    · obtain ⟨_, _, rfl⟩ := pv
      rw [List.length_map, List.length_map, List.length_take]
      exact small (by omega)
    · rw [pv.2.1]
      exact SqL.of (s6 _ _ g5)
    · obtain ⟨⟨v0, rfl⟩, rfl, rfl⟩ := pv
      rw [List.getElem?_map] at hx
      obtain ⟨k, hk, rfl⟩ := Option.map_eq_some_iff.mp hx
      have km := (mem_open.mp (List.mem_of_getElem? hk)).1
      have pk : ps[k]? = some ps[k] := List.getElem?_eq_getElem (by omega)
      refine ⟨_, rfl, _, rfl, lp, _, _, .int ps[k], rfl, rfl, SqL.of (s6 _ _ hlp5), atI_nat (by rw [List.getElem?_map, pk]; rfl), 0, ps[k], rfl, ⟨_, rfl⟩, rfl, ?_⟩
      rw [take_map_succ hk, List.map_append]
      show _ = _ ++ [V.int (min 0 (ps.getD k 0))]
      rw [List.getD_eq_getElem?_getD, pk]
      show _ ++ [V.int (if ps[k] < 0 then ps[k] else 0)] = _ ++ [V.int (min 0 ps[k])]
      rw [show (if ps[k] < 0 then ps[k] else 0) = min 0 ps[k] by split <;> omega]
    obtain ⟨_, rfl, rfl⟩ := pv
    rw [show (natsL (openL m y n)).length = (openL m y n).length from List.length_map _, List.take_length]
    have s7 := same_new nlg (.lst (((openL m y n).map fun k => min 0 (ps.getD k 0)).map V.int))
    have g7 : L2.upd H7 lg (.lst (((openL m y n).map fun k => min 0 (ps.getD k 0)).map V.int)) lg = some (.lst (((openL m y n).map fun k => min 0 (ps.getD k 0)).map V.int)) := upd_same
    generalize L2.upd H7 lg (.lst (((openL m y n).map fun k => min 0 (ps.getD k 0)).map V.int)) = H8 at s7 g7 ⊢
    refine ⟨lg, _, rfl, SqL.of g7, _, _, rfl, rfl, ?_⟩
    dsimp only
    rw [lower_sum Sy lm]
    have s38 := (s45.trans s6).trans s7
    have hq8 := s38 _ _ hq3
    have d8 := Dn.same s38 _ _ dt
    have g8 : H8 wl = some (.lst xs.dropLast) := s38 _ _ g3
    have sx8 := sx3.trans (Same.x (pen := wl) s38)
    have en8 := en3.to (Same.tup s38) (fun y n v => ToldB.to (Same.tup s38) y n v)
    have g58 : H8 lf = some (.lst (natsL (openL m y n))) := (s6.trans s7) _ _ g5
    rw [et] at d8
    have w1 := wait_pop (m := m) (e := (y, n)) (S := S)
    have low := of'
    cases hb : firstSB ts (allT ts) y n with
    | some i =>
      rw [toldD_broken hb] at d8
      refine ⟨_, rfl, rfl, _, rfl, ?_⟩
      refine iteNN (fun z => nomatch z) ?_
      refine ⟨_, rfl, _, rfl, small (by show 2 ≤ 1000; decide), fun tq ntq => ?_⟩
      have s9 := same_new ntq (.tup [.str ("broken" : Str), .int (i : Int)])
      have d9 := Dn.same s9 _ _ d8
      refine ⟨brD i, brD i, d9, ⟨tq, _, rfl, upd_same, _, _, rfl, rfl, _, _, rfl, rfl, rfl⟩, shaped_brD _, shaped_brD _, _, rfl, ?_⟩
      refine iteCN (by rw [eqv_brD]; rfl) ?_
      obtain ⟨a1, zs, rfl, ha1, x0, r0', rfl, h0, x1, r1, rfl, h1, hn⟩ := dn_tup d9
      cases (show r1 = [] from hn)
      cases (show x1 = .int (i : Int) from h1)
      refine ⟨_, rfl, a1, _, _, _, rfl, rfl, sqT ha1, at1, .int (i : Int), "int", "bool", false, rfl, .int _, rfl, _, rfl, ?_⟩
      refine iteCN rfl ?_
      refine ⟨_, w1, xs.dropLast, S, _, _, _, _, _, _, rfl, sx8.trans (Same.x (pen := wl) s9), s9 _ _ g8, ?_, rfl, by omega⟩
      rw [drp]
      exact en8.to (Same.tup s9) (fun y n v => ToldB.to (Same.tup s9) y n v)
    | none =>
      refine ⟨_, rfl, rfl, _, rfl, ?_⟩
      refine iteNS rfl ?_
      refine ⟨_, rfl, _, rfl, _, _, rfl, rfl, _, rfl, ?_⟩
      by_cases c : dearB ps p y n = true
      · refine iteC c ?_
        rw [toldD_leaf hb (by unfold dearLeaf; rw [if_pos c])] at d8
        refine ⟨_, rfl, small (by show 1 ≤ 1000; decide), fun tq ntq => ?_⟩
        have s9 := same_new ntq (.tup [.str ("dear" : Str)])
        refine ⟨dearD, dearD, Dn.same s9 _ _ d8, ⟨tq, _, rfl, upd_same, _, _, rfl, rfl, rfl⟩, shaped_dearD, shaped_dearD, _, rfl, ?_⟩
        refine iteCN (by rw [eqv_dearD]; rfl) ?_
        refine ⟨_, w1, xs.dropLast, S, _, _, _, _, _, _, rfl, sx8.trans (Same.x (pen := wl) s9), s9 _ _ g8, ?_, rfl, by omega⟩
        rw [drp]
        exact en8.to (Same.tup s9) (fun y n v => ToldB.to (Same.tup s9) y n v)
      · refine iteCN (Bool.eq_false_iff.mpr c) ?_
        have hl : dearLeaf ps p y n = none := by unfold dearLeaf; rw [if_neg c]
        obtain ⟨k, rk, ho⟩ : ∃ k rk, openL m y n = k :: rk := by
          cases ho : openL m y n with
          | nil => exact absurd hl (re y n ry hb ho)
          | cons k rk => exact ⟨k, rk, rfl⟩
        have hk : k ∈ openL m y n := by rw [ho]; exact List.mem_cons_self
        have km := (mem_open.mp hk).1
        obtain ⟨f', rfl⟩ : ∃ f', f = f' + 1 := ⟨f - 1, by rw [ho, List.length_cons] at of'; omega⟩
        rw [toldD_split hb hl ho] at d8
        obtain ⟨a1, zs, rfl, ha1, x0, r0', rfl, h0, x1, r1, rfl, h1, va, r2, rfl, da, vb, r3, rfl, db, hn⟩ := dn_tup d8
        cases (show r3 = [] from hn)
        cases (show x1 = .int (k : Int) from h1)
        cases (show x0 = .str ("split" : Str) from h0)
        have l1 := open_less1 hk
        have l2 := open_less2 hk
        obtain ⟨ta, ea, _, _, _, sta⟩ := TW f' (y ||| 2 ^ k) n (by omega) (rs y n k ry hk).1
        obtain ⟨tb', eb, _, _, _, stb⟩ := TW f' y (n ||| 2 ^ k) (by omega) (rs y n k ry hk).2
        refine ⟨_, rfl, _, "tuple", "tuple", true, rfl, .tup ha1, rfl, _, rfl, ?_⟩
        refine iteCN rfl ?_
        refine ⟨_, rfl, a1, _, rfl, .inr (sqT ha1), rfl, _, rfl, ?_⟩
        refine iteNS rfl ?_
        refine ⟨_, rfl, _, rfl, a1, _, rfl, ha1, fun tc H9 s9 htc => ?_⟩
        refine ⟨_, rfl, lf, _, _, .int (k : Int), rfl, rfl, SqL.of (s9 _ _ g58), (by rw [ho]; exact at0), small (by show 2 ≤ 1000; decide), fun tq ntq => ?_⟩
        have s10 := same_new ntq (.tup [.str ("split" : Str), .int (k : Int)])
        refine ⟨splD k, splD k, ⟨tc, _, rfl, s10 _ _ htc, _, _, rfl, rfl, _, _, rfl, rfl, rfl⟩, ⟨tq, _, rfl, upd_same, _, _, rfl, rfl, _, _, rfl, rfl, rfl⟩, shaped_splD _, shaped_splD _, _, rfl, ?_⟩
        refine iteCN (by rw [eqv_splD]; rfl) ?_
        have s810 := s9.trans s10
        generalize L2.upd H9 tq (.tup [.str ("split" : Str), .int (k : Int)]) = H10 at s810 ⊢
        have s710 := s810
        have hd10 : H10 a1 = some (.tup [.str ("split" : Str), .int (k : Int), va, vb]) := s810 _ _ ha1
        have g10 : H10 wl = some (.lst xs.dropLast) := s810 _ _ g8
        have gf10 : H10 lf = some (.lst (natsL (openL m y n))) := s810 _ _ g58
        have xdl : xs.dropLast.length = r.length := by rw [← drp, List.length_reverse]
        have shk : (1 : Int) * 2 ^ ((k : Nat) : Int).toNat = ((2 ^ k : Nat) : Int) := shl1 k
        refine ⟨_, rfl, .inl ⟨rfl, _, SqL.of g10⟩, ?_⟩
        refine ⟨_, rfl, _, rfl, lf, _, _, .int (k : Int), rfl, rfl, SqL.of gf10, (by rw [ho]; exact at0), _, _, rfl, rfl, ⟨by omega, by omega, by decide⟩, _, _, rfl, rfl, _, rfl, _, rfl, a1, _, _, _, rfl, rfl, sqT hd10, at2, small (by show 3 ≤ 1000; decide), fun p1 np1 => ?_⟩
        have eor : ∀ z : Nat, Builtin.bitOr (z : Int) (1 * 2 ^ ((k : Nat) : Int).toNat) = ((z ||| 2 ^ k : Nat) : Int) := fun z => by rw [shk, lor_nat]
        dsimp only at np1 ⊢
        rw [eor y]
        have s11 := same_new np1 (.tup [.int ((y ||| 2 ^ k : Nat) : Int), .int (n : Int), va])
        have g11 : L2.upd H10 p1 (.tup [.int ((y ||| 2 ^ k : Nat) : Int), .int (n : Int), va]) p1 = some (.tup [.int ((y ||| 2 ^ k : Nat) : Int), .int (n : Int), va]) := upd_same
        generalize L2.upd H10 p1 (.tup [.int ((y ||| 2 ^ k : Nat) : Int), .int (n : Int), va]) = H11 at s11 g11 ⊢
        refine ⟨wl, _, _, rfl, rfl, s11 _ _ g10, line20 (by omega), ?_⟩
        have g11w : H11 wl = some (.lst xs.dropLast) := s11 _ _ g10
        have x12 := sameX_pen (pen := wl) (H := H11) (.lst (xs.dropLast ++ [.ref p1]))
        have g12 : L2.upd H11 wl (.lst (xs.dropLast ++ [.ref p1])) wl = some (.lst (xs.dropLast ++ [.ref p1])) := upd_same
        have t12 := SameX.tup g11w x12
        generalize L2.upd H11 wl (.lst (xs.dropLast ++ [.ref p1])) = H12 at x12 g12 t12 ⊢
        have lfw : lf ≠ wl := fun z => by
          have g4 : H4 wl = some (.lst xs.dropLast) := s4 _ _ g3
          rw [z, g4] at nlf
          cases nlf
        have gf12 : H12 lf = some (.lst (natsL (openL m y n))) := x12 _ _ lfw (s11 _ _ gf10)
        have hd12 := t12 _ _ (s11 _ _ hd10)
        refine ⟨_, rfl, .inl ⟨rfl, _, SqL.of g12⟩, ?_⟩
        refine ⟨_, rfl, _, rfl, _, rfl, lf, _, _, .int (k : Int), rfl, rfl, SqL.of gf12, (by rw [ho]; exact at0), _, _, rfl, rfl, ⟨by omega, by omega, by decide⟩, _, _, rfl, rfl, _, rfl, a1, _, _, _, rfl, rfl, sqT hd12, at3, small (by show 3 ≤ 1000; decide), fun p2 np2 => ?_⟩
        dsimp only at np2 ⊢
        rw [eor n]
        have s13 := same_new np2 (.tup [.int (y : Int), .int ((n ||| 2 ^ k : Nat) : Int), vb])
        have g13 : L2.upd H12 p2 (.tup [.int (y : Int), .int ((n ||| 2 ^ k : Nat) : Int), vb]) p2 = some (.tup [.int (y : Int), .int ((n ||| 2 ^ k : Nat) : Int), vb]) := upd_same
        generalize L2.upd H12 p2 (.tup [.int (y : Int), .int ((n ||| 2 ^ k : Nat) : Int), vb]) = H13 at s13 g13 ⊢
        have g13w : H13 wl = some (.lst (xs.dropLast ++ [.ref p1])) := s13 _ _ g12
        refine ⟨wl, _, _, rfl, rfl, g13w, line20 (by rw [List.length_append, List.length_singleton]; omega), ?_⟩
        have x14 := sameX_pen (pen := wl) (H := H13) (.lst (xs.dropLast ++ [.ref p1] ++ [.ref p2]))
        have g14 : L2.upd H13 wl (.lst (xs.dropLast ++ [.ref p1] ++ [.ref p2])) wl = some (.lst (xs.dropLast ++ [.ref p1] ++ [.ref p2])) := upd_same
        have t14 := SameX.tup g13w x14
        generalize L2.upd H13 wl (.lst (xs.dropLast ++ [.ref p1] ++ [.ref p2])) = H14 at x14 g14 t14 ⊢
        have t1114 := tupS_trans t12 (tupS_trans (Same.tup s13) t14)
        have t814 := tupS_trans (Same.tup (s810.trans s11)) t1114
        have w2 := wait_two (S := S) hk
        refine ⟨_, w2, _, (y, n ||| 2 ^ k) :: (y ||| 2 ^ k, n) :: S, _, _, _, _, _, _, rfl, (sx8.trans (Same.x (pen := wl) (s810.trans s11))).trans ((x12.trans (Same.x (pen := wl) s13)).trans x14), g14, ?_, rfl, by omega⟩
        rw [List.reverse_append, List.reverse_append, drp]
        refine ⟨⟨p2, vb, rfl, t14 _ _ g13, f', tb', eb, stb, WT.tupA t814 stb (by rw [eb]; exact db), (by show (openL m y (n ||| 2 ^ k)).length ≤ f'; omega), by omega, (rs y n k ry hk).2, Sy.other hk⟩, ⟨p1, va, rfl, t1114 _ _ g11, f', ta, ea, sta, WT.tupA t814 sta (by rw [ea]; exact da), (by show (openL m (y ||| 2 ^ k) n).length ≤ f'; omega), by omega, (rs y n k ry hk).1, Sy.one hk⟩, en8.to t814 (fun y n v => ToldB.to t814 y n v)⟩

end
section
variable {P : Program} {w : World} {K : PySem.W.Frag} {mg : Str → Option Value} {base : Heap} {a : Adr} {d : Fds}
theorem ok_law_first_best (T : Txt K mg a d) : FnOk P w K mg base CX0 3 a.f_law_first_best d.f_law_first_best ["_law_some", "_law_prices_here"] spFirstBest := by
  have G_law_price := ok_law_price (P := P) (w := w) (base := base) T
  refine T.K_law_first_best.ok sc_law_first_best (fun vs H Q E h => ?_) (fun cdv A outer s H vs Q E hr h => ?_)
  · obtain ⟨ls, lp, m, ts, ps, rfl, _⟩ := h
    rfl
  obtain ⟨ls, lp, m, ts, ps, rfl, hls, ne, hlp, lm, m9, q⟩ := h
  have lw : 0 < (wareL m ts).length := List.length_pos_iff.mpr ne
  obtain ⟨x0, hx0⟩ : ∃ x, (wareL m ts)[0]? = some x := ⟨_, List.getElem?_eq_getElem lw⟩
  have pr : ∀ {j v : Nat}, (wareL m ts)[j]? = some v → sumP (enumP ps) (fun p => v.testBit p.1) = priceS ps ((wareL m ts).getD j 0) := fun {j v} h => by
    rw [List.getD_eq_getElem?_getD, h]
    exact (price_sum (by rw [lm]; exact (mem_wareL.mp (List.mem_of_getElem? h)).1)).symm
  refine ⟨_, (pss_cons (ps_set (i := 2) sc_law_first_best.nd rfl (Or.inl rfl) (pe_ix (ixL (K := K)) (pv 0) pe_int (fun _ _ => rfl)))
      (pss_cons (ps_for PassesOwn.never rfl (piL (K := K) (pv 0)) (pg_name (i := 3) sc_law_first_best.nd rfl (Or.inl rfl)) (pss_one (ps_if (pt_cmpR op_lt (pe_callD G_law_price hr.lv rfl T.K_law_price (pa_cons (pv 1) (pa_cons (pv 3) pa_nil))) (pe_callD G_law_price hr.lv rfl T.K_law_price (pa_cons (pv 1) (pa_cons (pv 2) pa_nil))) (nomark _)) (pss_one (ps_set (i := 2) sc_law_first_best.nd rfl (Or.inl rfl) (pv 3))) pss_nil)))
      (pss_one (ps_ret (pv 2))))), ?_⟩
  refine ⟨_, rfl, ls, _, _, .int (x0 : Int), rfl, rfl, SqL.of hls, atI_nat (j := 0) (by rw [List.getElem?_map, hx0]; rfl), ?_⟩
  refine ⟨_, rfl, ls, rfl, ⟨_, SqL.of hls⟩, ?_⟩
  refine for_list (K := K) (a := ls) (xs := natsL (wareL m ts)) (fun i σ H2 => ∃ (w0 j : Nat) (v : Option V), σ = [some (.ref ls), some (.ref lp), some (.int (w0 : Int)), v] ∧ Same H H2 ∧ (wareL m ts)[j]? = some w0 ∧ j ≤ i ∧ ∀ j', j' < i → priceS ps ((wareL m ts).getD j 0) ≤ priceS ps ((wareL m ts).getD j' 0) ∧ (j' < j → priceS ps ((wareL m ts).getD j 0) < priceS ps ((wareL m ts).getD j' 0))) ⟨x0, 0, none, rfl, Same.refl _, hx0, Nat.le_refl _, fun j' h => absurd h (Nat.not_lt_zero _)⟩ (fun i σ H2 hi pv => ?_) (fun i x σ H2 hx pv => ?_) (fun σ H2 pv => ?_)
  · obtain ⟨_, _, _, _, s2, _⟩ := pv
    exact SqL.of (s2 _ _ hls)
  · obtain ⟨w0, j, v, rfl, s2, hj, ji, best⟩ := pv
    rw [List.getElem?_map] at hx
    obtain ⟨x, hxi, rfl⟩ := Option.map_eq_some_iff.mp hx
    refine ⟨_, rfl, _, rfl, lp, ps, x, rfl, s2 _ _ hlp, by omega, fun H3 s3 => ?_⟩
    refine ⟨_, rfl, _, rfl, lp, ps, w0, rfl, s3 _ _ (s2 _ _ hlp), by omega, fun H4 s4 => ?_⟩
    rw [pr hxi, pr hj]
    refine ⟨_, _, rfl, rfl, _, rfl, ?_⟩
    have s5 := (s2.trans s3).trans s4
    refine ite2 (fun c => ?_) (fun c => ?_)
    · have c := of_decide_eq_true c
      refine ⟨_, rfl, x, i, _, rfl, s5, hxi, Nat.le_succ _, fun j' h => ?_⟩
      by_cases z : j' = i
      · subst z
        exact ⟨Int.le_refl _, fun z => absurd z (Nat.lt_irrefl _)⟩
      · have := (best j' (by omega)).1
        exact ⟨by omega, fun _ => by omega⟩
    · have c : ¬ _ := fun z => c (decide_eq_true z)
      refine ⟨w0, j, _, rfl, s5, hj, Nat.le_succ_of_le ji, fun j' h => ?_⟩
      by_cases z : j' = i
      · subst z
        exact ⟨by omega, fun z => by omega⟩
      · exact best j' (by omega)
  obtain ⟨w0, j, v, rfl, s2, hj, ji, best⟩ := pv
  exact ⟨_, rfl, q w0 H2 (best_at hj best) s2⟩

end
section
variable {P : Program} {w : World} {K : PySem.W.Frag} {mg : Str → Option Value} {base : Heap} {a : Adr} {d : Fds}
theorem ok_law (T : Txt K mg a d) (LBc : LamB mg base a.c_cases_of a.t_cases_of) (LBk : LamB mg base a.c_are_cases a.t_are_cases) (LB : LamB mg base a.c_best a.t_best) (LBa : LamB mg base a.c_are_bounds a.t_are_bounds) : FnOk P w K mg base CX0 26 a.f_law d.f_law ["_law_script"] (spT a.t_cases_of (spT a.t_are_cases (spT a.t_best (spT a.t_are_bounds (spLaw K))))) := by
  have G_law_wood := ok_law_wood (P := P) (w := w) (base := base) T
  have G_law_prices := ok_law_prices (P := P) (w := w) (base := base) T
  have G_law_take := ok_law_take (P := P) (w := w) (base := base) T
  have G_law_price := ok_law_price (P := P) (w := w) (base := base) T
  have G_law_whole := ok_law_whole (P := P) (w := w) (base := base) T
  have G_law_first_best := ok_law_first_best (P := P) (w := w) (base := base) T
  have G_law_told_bounds := ok_law_told_bounds (P := P) (w := w) (base := base) T
  have G_best := ok_best (P := P) (w := w) (base := base) T LBc LB
  have G_wares := ok_wares (P := P) (w := w) (base := base) T LBc
  have G_cases := ok_cases (P := P) (w := w) (base := base) T LBc
  have G_are_cases := ok_are_cases (P := P) (w := w) (base := base) T LBk 11
  have G_price_of := ok_price_of (P := P) (w := w) (base := base) T
  have G_are_bounds := ok_are_bounds (P := P) (w := w) (base := base) T LBa 11
  refine T.K_law.ok sc_law (fun vs H Q E h => ?_) (fun cdv A outer s H vs Q E hr h => ?_)
  · obtain ⟨_, _, _, _, p, ns, rfl, _⟩ := h
    rfl
  obtain ⟨ta, tak, tab, tas, sp, ns, rfl, hS, hl, q⟩ := h
  have p62 : (2 : Int) ^ 62 = 4611686018427387904 := by decide
  refine ⟨_, (pss_cons (ps_set (i := 1) sc_law.nd rfl (Or.inr rfl) (pe_lst (pa_cons (pv 0) (pa_cons pe_int pa_nil))))
      (pss_cons (ps_set (i := 2) sc_law.nd rfl (Or.inr rfl) (pe_callD G_law_wood hr.lv rfl T.K_law_wood (pa_cons (pv 1) pa_nil)))
      (pss_cons (ps_set (i := 3) sc_law.nd rfl (Or.inl rfl) (pe_callD G_law_prices hr.lv rfl T.K_law_prices (pa_cons (pv 1) (pa_cons (pe_ix (ixT (K := K)) (pv 2) pe_int (fun _ _ => rfl)) pa_nil))))
      (pss_cons (ps_set (i := 4) sc_law.nd rfl (Or.inl rfl) (pe_callTy call_list_of rfl T.m_list PyProof.Rows.boot_list (pa_cons (pv 3) pa_nil)))
      (pss_cons (ps_for PassesOwn.never rfl (piL (K := K) (pe_op op_cat (pe_lst (pa_cons pe_int (pa_cons (pe_op op_sub (pe_op op_shl pe_int (pe_ix (ixT (K := K)) (pv 2) pe_int (fun _ _ => rfl))) pe_int) pa_nil))) (pe_lc (sc0 := defScope s_law) (XN := ["_law_script", "_law_state", "_law_wood_here", "_law_prices_here", "_law_handed", "_law_some", "_law_found", "_law_ware"]) (N' := ["_law_k", "_law_state", "_law_wood_here"]) (n := 1) (kp := [1, 2]) rfl (pi_range1 rfl T.m_range (pa_cons pe_int pa_nil)) rfl rfl (by decide +kernel) (fun _ _ _ _ _ => (pg_name (i := 0) (by show List.Nodup (["_law_k", "_law_state", "_law_wood_here"] : List Str); decide +kernel) rfl (Or.inl rfl))) (fun _ _ _ _ _ => pts_nil) (fun _ _ _ _ _ => (pe_callD G_law_take hr.lv rfl T.K_law_take (pa_cons (pv 1) (pa_cons (pe_op op_shl pe_int (pe_ix (ixT (K := K)) (pv 2) pe_int (fun _ _ => rfl))) pa_nil))))))) (pg_name (i := 5) sc_law.nd rfl (Or.inl rfl)) (pss_cons (ps_set (i := 6) sc_law.nd rfl (Or.inl rfl) (pe_callD G_price_of hr.lv rfl T.K_price_of (pa_cons (pv 4) (pa_cons (pv 5) pa_nil))))
      (pss_one (ps_if (PW.pt (pw_or (pt_not (pt_val (pe_callD G_law_whole hr.lv rfl T.K_law_whole (pa_cons (pv 6) pa_nil)))) (pw_or1 (pt_cmpR op_ne (pv 6) (pe_callD G_law_price hr.lv rfl T.K_law_price (pa_cons (pv 3) (pa_cons (pv 5) pa_nil))) (nomark _))))) (pss_one (ps_ret pe_bl)) pss_nil))))
      (pss_cons (ps_set (i := 6) sc_law.nd rfl (Or.inl rfl) (pe_callD G_best hr.lv rfl T.K_best (pa_cons (pv 2) (pa_cons (pv 4) pa_nil))))
      (pss_cons (ps_set (i := 5) sc_law.nd rfl (Or.inl rfl) (pe_callD G_wares hr.lv rfl T.K_wares (pa_cons (pv 2) pa_nil)))
      (pss_cons (ps_if (PW.pt (pw_or (pt_not (pt_val (pe_callB (isiK (K := K)) rfl T.m_isinstance PyProof.Rows.boot_isinstance (pa_cons (pv 6) (pa_cons (pe_bltn (v := .ty "tuple") rfl T.m_tuple PyProof.Rows.boot_tuple rfl) pa_nil))))) (pw_or1 (pt_cmpR (op_ne_ints hr.units) (pv 4) (pv 3) (nomark _))))) (pss_one (ps_ret pe_bl)) pss_nil)
      (pss_cons (ps_if (pt_cmpR (op_eq_ints hr.units) (pv 5) (pe_lst pa_nil) (nomark _)) (pss_one (ps_ret (pe_and (pe_cmpR (op_eq_data hr.units) (pv 6) (pe_tup (pa_cons pe_str (pa_cons (pe_callD G_cases hr.lv rfl T.K_cases (pa_cons (pv 2) (pa_cons pe_int (pa_cons pe_int pa_nil)))) pa_nil))) (nomark _)) (pe_one (pe_cmpR op_is_bl (pe_callD G_are_cases hr.lv rfl T.K_are_cases (pa_cons (pv 2) (pa_cons pe_int (pa_cons pe_int (pa_cons (pe_ix (ixT (K := K)) (pv 6) pe_int (fun _ _ => rfl)) pa_nil))))) pe_bl (nomark _)))))) pss_nil)
      (pss_cons (ps_set (i := 7) sc_law.nd rfl (Or.inl rfl) (pe_callD G_law_first_best hr.lv rfl T.K_law_first_best (pa_cons (pv 5) (pa_cons (pv 3) pa_nil))))
      (pss_cons (ps_if (PW.pt (pw_or (pt_cmpR op_ne (pe_callB (lenS (K := K)) rfl T.m_len PySem.boot_len (pa_cons (pv 6) pa_nil)) pe_int (nomark _)) (pw_or (pt_cmpR op_ne (pe_ix (ixT (K := K)) (pv 6) pe_int (fun _ _ => rfl)) pe_str (nomark _)) (pw_or (pt_not (pt_val (pe_callD G_law_whole hr.lv rfl T.K_law_whole (pa_cons (pe_ix (ixT (K := K)) (pv 6) pe_int (fun _ _ => rfl)) pa_nil)))) (pw_or1 (pt_not (pt_val (pe_callD G_law_whole hr.lv rfl T.K_law_whole (pa_cons (pe_ix (ixT (K := K)) (pv 6) pe_int (fun _ _ => rfl)) pa_nil))))))))) (pss_one (ps_ret pe_bl)) pss_nil)
      (pss_cons (ps_if (pt_cmpR (op_ne_data hr.units) (pe_tup (pa_cons (pe_ix (ixT (K := K)) (pv 6) pe_int (fun _ _ => rfl)) (pa_cons (pe_ix (ixT (K := K)) (pv 6) pe_int (fun _ _ => rfl)) pa_nil))) (pe_tup (pa_cons (pv 7) (pa_cons (pe_callD G_law_price hr.lv rfl T.K_law_price (pa_cons (pv 3) (pa_cons (pv 7) pa_nil))) pa_nil))) (nomark _)) (pss_one (ps_ret pe_bl)) pss_nil)
      (pss_cons (ps_if (pt_not (pt_val (pe_callD G_law_told_bounds hr.lv rfl T.K_law_told_bounds (pa_cons (pv 2) (pa_cons (pv 3) (pa_cons (pe_ix (ixT (K := K)) (pv 6) pe_int (fun _ _ => rfl)) (pa_cons (pe_ix (ixT (K := K)) (pv 6) pe_int (fun _ _ => rfl)) pa_nil))))))) (pss_one (ps_ret pe_bl)) pss_nil)
      (pss_one (ps_ret (pe_and (pe_cmpR op_is_bl (pe_callD G_are_bounds hr.lv rfl T.K_are_bounds (pa_cons (pv 2) (pa_cons (pv 4) (pa_cons (pe_ix (ixT (K := K)) (pv 6) pe_int (fun _ _ => rfl)) (pa_cons (pe_ix (ixT (K := K)) (pv 6) pe_int (fun _ _ => rfl)) pa_nil))))) pe_bl (nomark _)) (pe_one (pe_cmpR (op_eq_ints hr.units) (pv 4) (pv 3) (nomark _))))))))))))))))))), ?_⟩
  refine ⟨_, rfl, small (by show 2 ≤ 1000; decide), fun pen hpen => ?_⟩
  have pn := pen_new hS hl hpen
  have s1 := same_new hpen (.lst [.ref sp, .int 0])
  generalize L2.upd H pen (.lst [.ref sp, .int 0]) = H1 at pn s1 ⊢
  refine ⟨_, rfl, pen, sp, ns, 0, rfl, pn, by decide, by decide, fun wd m bs cs k2 H2 x2 hp2 k20 k21 m1 m9 WX lc2 => ?_⟩
  obtain ⟨ts, _, ok, tl29, hW⟩ := WX.ties
  have W2 := hW H2 (tupS_refl _)
  obtain ⟨_, _, ⟨tb, tc, hw, _, _⟩, _⟩ := W2.ex
  refine ⟨_, rfl, _, rfl, wd, _, _, _, rfl, rfl, sqT hw, at0, pen, sp, ns, m, k2, rfl, pn.to x2 hp2, by omega, by omega, m9, fun lp ps k3 H3 x3 hp3 k30 k31 nlp hlp lm => ?_⟩
  have lpp : lp ≠ pen := fun z => by rw [z, hp2] at nlp; cases nlp
  refine ⟨_, rfl, lp, _, rfl, .inl (SqL.of hlp), fun lh nlh => ?_⟩
  have s4 := same_new nlh (.lst (ps.map V.int))
  have g4 : L2.upd H3 lh (.lst (ps.map V.int)) lh = some (.lst (ps.map V.int)) := upd_same
  have lhp : lh ≠ pen := fun z => by rw [z, hp3] at nlh; cases nlh
  generalize L2.upd H3 lh (.lst (ps.map V.int)) = H4 at s4 g4 ⊢
  have hp4 : H4 pen = some (.lst [.ref sp, .int k3]) := s4 _ _ hp3
  have t24 := SameX.tup hp2 (x3.trans (Same.x (pen := pen) s4))
  have hw4 := t24 _ _ hw
  have x14 := (x2.trans x3).trans (Same.x (pen := pen) s4)
  have pw : 2 ^ m ≤ 512 := pow_le m9
  have p1 := pow_pos2 m
  refine ⟨_, rfl, wd, _, _, _, rfl, rfl, sqT hw4, at0, _, _, rfl, rfl, ⟨by omega, by omega, by decide⟩, _, _, rfl, rfl, small (by show 2 ≤ 1000; decide), fun l5 nl5 => ?_⟩
  have e5 : (V.int (1 * (2 : Int) ^ ((m : Nat) : Int).toNat - 1)) = V.int ((2 ^ m - 1 : Nat) : Int) := by
    rw [shl1]
    exact congrArg V.int (by omega)
  have s5 := same_new nl5 (.lst [.int 0, V.int (1 * (2 : Int) ^ ((m : Nat) : Int).toNat - 1)])
  have g5 : L2.upd H4 l5 (.lst [.int 0, V.int (1 * (2 : Int) ^ ((m : Nat) : Int).toNat - 1)]) l5 = some (.lst [.int 0, V.int (1 * (2 : Int) ^ ((m : Nat) : Int).toNat - 1)]) := upd_same
  generalize hH5 : L2.upd H4 l5 (.lst [.int 0, V.int (1 * (2 : Int) ^ ((m : Nat) : Int).toNat - 1)]) = H5 at s5 g5
  have hp5 : H5 pen = some (.lst [.ref sp, .int k3]) := s5 _ _ hp4
  have l5p : l5 ≠ pen := fun z => by rw [z, hp4] at nl5; cases nl5
  have x15 := x14.trans (Same.x (pen := pen) s5)
  have hw5 := s5 _ _ hw4
  refine ⟨_, rfl, by rw [p62]; omega, by rw [p62]; omega, ?_⟩
  refine lc_range0 (k := 6) (fun i ys σ H6 => (∃ v, σ = [v, some (.ref pen), some (.ref wd)]) ∧ SameX pen H5 H6 ∧ ∃ (kc : Int) (ms : List Nat), H6 pen = some (.lst [.ref sp, .int kc]) ∧ k3 ≤ kc ∧ kc ≤ k3 + i ∧ ys = natsL ms ∧ ms.length = i ∧ ∀ x ∈ ms, x < 2 ^ m) ⟨⟨none, rfl⟩, by rw [← hH5]; exact SameX.refl _ _, k3, [], by first | exact hp5 | (rw [← hH5] at hp5; exact hp5), by omega, by omega, rfl, rfl, fun _ z => nomatch z⟩ (fun i ys σ H6 hi pv => ?_) (fun i ys σ H6 hi pv => ?_) (fun ys σ H6 pv lm6 nlm6 => ?_)
  · obtain ⟨_, _, kc, ms, _, _, _, rfl, ln, _⟩ := pv
    rw [show (natsL ms).length = ms.length from List.length_map _, ln]
    exact small (by omega)
  · obtain ⟨⟨v, rfl⟩, x6, kc, ms, hpc, kc0, kc1, rfl, ln, lt⟩ := pv
    have hw6 := SameX.tup hp5 x6 _ _ hw5
    refine ⟨_, rfl, _, rfl, wd, _, _, _, rfl, rfl, sqT hw6, at0, _, _, rfl, rfl, ⟨by omega, by omega, by decide⟩, pen, sp, ns, ((2 ^ m : Nat) : Int), kc, ?_, pn.to (x15.trans x6) hpc, by omega, by omega, by omega, fun y y0 y1 => ?_⟩
    · show [V.ref pen, V.int (1 * (2 : Int) ^ ((m : Nat) : Int).toNat)] = _
      rw [shl1]
    · refine ⟨⟨_, rfl⟩, x6.trans (sameX_pen (pen := pen) (H := H6) (.lst [.ref sp, .int (kc + 1)])), kc + 1, ms ++ [y.toNat], upd_same, by omega, by push_cast; omega, ?_, by rw [List.length_append, ln]; rfl, fun x hx => ?_⟩
      · show natsL ms ++ [V.int y] = natsL (ms ++ [y.toNat])
        unfold natsL
        rw [List.map_append]
        show _ = _ ++ [V.int ((y.toNat : Nat) : Int)]
        rw [Int.toNat_of_nonneg y0]
      · rcases List.mem_append.mp hx with z | z
        · exact lt x z
        · rw [List.mem_singleton.mp z]
          omega
  obtain ⟨_, x6, kc, ms, hpc, kc0, kc1, rfl, ln, lt⟩ := pv
  have s7 := same_new nlm6 (.lst (natsL ms))
  have g7 : L2.upd H6 lm6 (.lst (natsL ms)) lm6 = some (.lst (natsL ms)) := upd_same
  generalize L2.upd H6 lm6 (.lst (natsL ms)) = H7 at s7 g7 ⊢
  have x57 := x6.trans (Same.x (pen := pen) s7)
  have g57 := x57 _ _ l5p g5
  refine ⟨l5, lm6, _, _, rfl, rfl, g57, g7, by rw [show (natsL ms).length = ms.length from List.length_map _, ln]; exact small (by show 2 + 6 ≤ 1000; decide), fun l8 nl8 => ?_⟩
  obtain ⟨L, hL, ltL⟩ : ∃ L : List Nat, [V.int 0, V.int (1 * (2 : Int) ^ ((m : Nat) : Int).toNat - 1)] ++ natsL ms = natsL L ∧ ∀ x ∈ L, x < 2 ^ m := by
    refine ⟨0 :: (2 ^ m - 1) :: ms, by rw [e5]; rfl, fun x hx => ?_⟩
    rcases List.mem_cons.mp hx with z | hx
    · omega
    · rcases List.mem_cons.mp hx with z | hx
      · omega
      · exact lt x hx
  have s8 := same_new nl8 (.lst (natsL L))
  have g8 : L2.upd H7 l8 (.lst (natsL L)) l8 = some (.lst (natsL L)) := upd_same
  rw [hL]
  generalize L2.upd H7 l8 (.lst (natsL L)) = H8 at s8 g8 ⊢
  have x58 := x57.trans (Same.x (pen := pen) s8)
  have x48 := (Same.x (pen := pen) s5).trans x58
  have x18 := x14.trans x48
  have hp8 : H8 pen = some (.lst [.ref sp, .int kc]) := s8 _ _ (s7 _ _ hpc)
  have hlp8 : H8 lp = some (.lst (ps.map V.int)) := x48 _ _ lpp (s4 _ _ hlp)
  have hlh8 : H8 lh = some (.lst (ps.map V.int)) := x48 _ _ lhp g4
  have W8 := hW H8 (tupS_trans t24 (SameX.tup hp4 x48))
  have ta8 := x18.tab pn.at_ (s1.tab ta)
  have tak8 := x18.tab pn.at_ (s1.tab tak)
  have tab8 := x18.tab pn.at_ (s1.tab tab)
  have tas8 := x18.tab pn.at_ (s1.tab tas)
  refine ⟨l8, rfl, ⟨_, SqL.of g8⟩, ?_⟩
  refine for_list (K := K) (a := l8) (xs := natsL L) (fun i σ H9 => (∃ o5 o6, σ = [some (.ref sp), some (.ref pen), some (.ref wd), some (.ref lp), some (.ref lh), o5, o6, none]) ∧ Same H8 H9) ⟨⟨none, none, rfl⟩, Same.refl _⟩ (fun i σ H9 hi pv => SqL.of (pv.2 _ _ g8)) (fun i x σ H9 hx pv => ?_) (fun σ H9 pv => ?_)
  · obtain ⟨⟨o5, o6, rfl⟩, s9⟩ := pv
    rw [List.getElem?_map] at hx
    obtain ⟨x, hxi, rfl⟩ := Option.map_eq_some_iff.mp hx
    have xl := ltL x (List.mem_of_getElem? hxi)
    refine ⟨_, rfl, _, rfl, lh, ps, x, rfl, s9 _ _ hlh8, by omega, by rw [lm]; exact xl, fun H10 s10 => ?_⟩
    refine ⟨_, rfl, .int (priceS ps x), _, rfl, rfl, _, rfl, ?_⟩
    refine iteCN rfl ?_
    refine ⟨_, rfl, _, rfl, _, rfl, lp, ps, x, rfl, s10 _ _ (s9 _ _ hlp8), by omega, fun H11 s11 => ?_⟩
    rw [← price_sum (by rw [lm]; exact xl)]
    refine ⟨rfl, _, rfl, ?_⟩
    refine iteNS rfl ?_
    exact ⟨⟨_, _, rfl⟩, (s9.trans s10).trans s11⟩
  obtain ⟨⟨o5, o6, rfl⟩, s9⟩ := pv
  refine ⟨_, rfl, _, rfl, s9.tab ta8, s9.tab tab8, wd, lh, m, ts, ps, rfl, W8.same s9, m1, m9, s9 _ _ hlh8, lm, fun c0 v H10 s10 dv => ?_, fun w0 v H10 B s10 dv => ?_⟩
  · obtain ⟨fn, v1, rfl, hf, d1⟩ := dn_none dv
    have s810 := s9.trans s10
    refine ⟨_, rfl, s810.tab ta8, wd, m, ts, rfl, W8.same s810, m1, m9, fun ls H11 s11 nls hls => ?_⟩
    rw [c0] at hls
    have s811 := s810.trans s11
    refine ⟨_, rfl, _, "tuple", "tuple", true, rfl, .tup (s11 _ _ hf), rfl, _, rfl, ?_⟩
    refine iteCN rfl ?_
    refine ⟨_, rfl, _, rfl, lh, lp, ps, ps, rfl, rfl, SqL.of (s811 _ _ hlh8), SqL.of (s811 _ _ hlp8), _, rfl, ?_⟩
    refine iteNS rfl ?_
    refine ⟨_, rfl, small (by show 0 ≤ 1000; decide), fun lz nlz => ?_⟩
    have s12 := same_new nlz (.lst [])
    refine ⟨ls, lz, [], [], rfl, rfl, SqL.of (s12 _ _ hls), SqL.of upd_same, _, rfl, ?_⟩
    refine iteC rfl ?_
    have s812 := s811.trans s12
    refine ⟨_, rfl, _, rfl, s812.tab ta8, wd, m, ts, 1, 0, rfl, W8.same s812, m9, fun vc H13 s13 dc => ?_⟩
    refine ⟨small (by show 2 ≤ 1000; decide), fun tq ntq => ?_⟩
    have s14 := same_new ntq (.tup [.str ("none" : Str), vc])
    have s1014 := ((s11.trans s12).trans s13).trans s14
    refine ⟨noneD m ts, noneD m ts, Dn.same s1014 _ _ dv, ⟨tq, _, rfl, upd_same, _, _, rfl, rfl, _, _, rfl, Dn.same s14 _ _ dc, rfl⟩, shaped_none _ _, shaped_none _ _, _, rfl, ?_⟩
    refine iteC (eqv_none m ts) ?_
    have s814 := s810.trans s1014
    have dp : (casesF ts (allT ts) m 9 1 0).toW.depth ≤ 9 := by rw [toW_depth]; exact casesF_depth 9 1 0
    rw [← toW_D] at d1
    have of := open_few m 1 0
    refine ⟨_, rfl, _, rfl, fn, _, _, _, rfl, rfl, sqT (s1014 _ _ hf), at1, s814.tab tak8, wd, m, ts, 1, 0, _, _, rfl, W8.same s814, Dn.same s1014 _ _ d1, wares_good _ (toW_wares _), by omega, fun H15 s15 => ?_⟩
    rw [cases_right ok 9 1 0 (by omega) (stand1 m1) rfl]
    exact ⟨_, _, rfl, rfl, q _⟩
  obtain ⟨fn, v3, rfl, hf, d3⟩ := dn_best dv
  have s810 := s9.trans s10
  refine ⟨_, rfl, s810.tab ta8, wd, m, ts, rfl, W8.same s810, m1, m9, fun ls H11 s11 nls hls => ?_⟩
  have s811 := s810.trans s11
  have hf11 : H11 fn = some (.tup [.str ("best" : Str), .int (w0 : Int), .int (priceS ps w0), v3]) := s11 _ _ hf
  refine ⟨_, rfl, _, "tuple", "tuple", true, rfl, .tup hf11, rfl, _, rfl, ?_⟩
  refine iteCN rfl ?_
  refine ⟨_, rfl, _, rfl, lh, lp, ps, ps, rfl, rfl, SqL.of (s811 _ _ hlh8), SqL.of (s811 _ _ hlp8), _, rfl, ?_⟩
  refine iteNS rfl ?_
  refine ⟨_, rfl, small (by show 0 ≤ 1000; decide), fun lz nlz => ?_⟩
  have s12 := same_new nlz (.lst [])
  have g12 : L2.upd H11 lz (.lst []) lz = some (.lst []) := upd_same
  generalize L2.upd H11 lz (.lst []) = H12 at s12 g12 ⊢
  have wne : ¬ (wareL m ts).map (fun k : Nat => (k : Int)) = [] := fun z => B.no (List.map_eq_nil_iff.mp z)
  refine ⟨ls, lz, (wareL m ts).map (fun k : Nat => (k : Int)), [], rfl, rfl, SqL.of (by rw [natsV]; exact s12 _ _ hls), SqL.of g12, _, rfl, ?_⟩
  refine iteCN (decide_eq_false wne) ?_
  have s812 := s811.trans s12
  refine ⟨_, rfl, _, rfl, ls, lp, m, ts, ps, rfl, s12 _ _ hls, (fun z => B.no z), s812 _ _ hlp8, lm, m9, fun w' H13 B' s13 => ?_⟩
  obtain rfl := B.unique B'
  have hf13 : H13 fn = some (.tup [.str ("best" : Str), .int (w0 : Int), .int (priceS ps w0), v3]) := (s12.trans s13) _ _ hf11
  refine ⟨_, rfl, fn, _, rfl, .inr (sqT hf13), rfl, _, rfl, ?_⟩
  refine iteNS rfl ?_
  refine ⟨_, rfl, fn, _, _, _, rfl, rfl, sqT hf13, at0, rfl, _, rfl, ?_⟩
  refine iteNS rfl ?_
  refine ⟨_, rfl, fn, _, _, _, rfl, rfl, sqT hf13, at1, .int (w0 : Int), _, rfl, rfl, _, rfl, ?_⟩
  refine iteCN rfl ?_
  refine ⟨_, rfl, fn, _, _, _, rfl, rfl, sqT hf13, at2, .int (priceS ps w0), _, rfl, rfl, _, rfl, ?_⟩
  refine iteCN rfl ?_
  refine ⟨_, rfl, fn, _, _, _, rfl, rfl, sqT hf13, at1, _, rfl, fn, _, _, _, rfl, rfl, sqT hf13, at2, small (by show 2 ≤ 1000; decide), fun t14 nt14 => ?_⟩
  have s14 := same_new nt14 (.tup [.int (w0 : Int), .int (priceS ps w0)])
  have g14 : L2.upd H13 t14 (.tup [.int (w0 : Int), .int (priceS ps w0)]) t14 = some (.tup [.int (w0 : Int), .int (priceS ps w0)]) := upd_same
  generalize L2.upd H13 t14 (.tup [.int (w0 : Int), .int (priceS ps w0)]) = H14 at s14 g14 ⊢
  have s814 := (s812.trans s13).trans s14
  have wm := (mem_wareL.mp B.ware).1
  refine ⟨_, rfl, _, rfl, _, rfl, lp, ps, w0, rfl, s814 _ _ hlp8, by omega, fun H15 s15 => ?_⟩
  rw [← price_sum (by rw [lm]; exact wm)]
  refine ⟨small (by show 2 ≤ 1000; decide), fun t16 nt16 => ?_⟩
  have s16 := same_new nt16 (.tup [.int (w0 : Int), .int (priceS ps w0)])
  refine ⟨twoD _ _, twoD _ _, dn_two (s16 _ _ (s15 _ _ g14)), dn_two upd_same, shaped_two _ _, shaped_two _ _, _, rfl, ?_⟩
  refine iteCN (by rw [eqv_two]; rfl) ?_
  generalize L2.upd H15 t16 (.tup [.int (w0 : Int), .int (priceS ps w0)]) = H16 at s16 ⊢
  have s1016 := ((((s11.trans s12).trans s13).trans s14).trans s15).trans s16
  have s816 := s810.trans s1016
  have hf16 : H16 fn = some (.tup [.str ("best" : Str), .int (w0 : Int), .int (priceS ps w0), v3]) := s1016 _ _ hf
  have be := best_ends ok m1 lm B
  refine ⟨_, rfl, _, rfl, _, rfl, fn, _, _, _, rfl, rfl, sqT hf16, at2, _, rfl, fn, _, _, _, rfl, rfl, sqT hf16, at3, wd, lp, m, ts, ps, _, _, rfl, W8.same s816, m1, m9, s816 _ _ hlp8, lm, Dn.same s1016 _ _ d3, be, fun H17 s17 => ?_⟩
  refine ⟨_, rfl, ?_⟩
  refine iteCN rfl ?_
  have s1017 := s1016.trans s17
  have s817 := s810.trans s1017
  have of := open_few m 1 0
  obtain ⟨R, rr, rs, re⟩ := be
  obtain ⟨t1, e1, gd1, dp1, is1, st1⟩ := told_W (dear_leaf_word (m := m) (ts := ts) (ps := ps) (p := priceS ps w0)) rs re 9 1 0 (by omega) rr
  rw [← e1] at d3
  refine ⟨_, rfl, _, rfl, _, rfl, fn, _, _, _, rfl, rfl, sqT (s17 _ _ hf16), at2, _, rfl, fn, _, _, _, rfl, rfl, sqT (s17 _ _ hf16), at3, s817.tab tas8, wd, lh, m, ts, ps, _, t1, v3, rfl, W8.same s817, m1, m9, s817 _ _ hlh8, lm, Dn.same s1017 _ _ d3, gd1, by omega, fun H18 s18 => ?_⟩
  rw [is1]
  refine ⟨_, _, rfl, rfl, _, rfl, ?_⟩
  refine iteC rfl ?_
  have s818 := s817.trans s18
  refine ⟨_, rfl, _, rfl, lh, lp, ps, ps, rfl, rfl, SqL.of (s818 _ _ hlh8), SqL.of (s818 _ _ hlp8), ?_⟩
  rw [decide_eq_true rfl]
  exact q _

end

-- FOOT
theorem all_mk {l : PySem.W.OpenLaw} {w : World} {K : PySem.W.Frag} {h : Heap} {mg : Str → Option Value} {fa f1 f2 f3 f4 f5 f6 f7 f8 f9 f10 f11 f12 f13 f14 f15 f16 f17 f18 f19 f20 f21 f22 f23 f24 f25 f26 f27 f28 f29 f30 f31 f32 f33 f34 f35 f36 f37 f38 f39 f40 f41 f42 f43 f44 f45 f46 cc18 tt18 cc20 tt20 cc28 tt28 cc29 tt29 : Addr} (X : K.In h) (G : h.Ns mainGlobals mg) (hfa : mg "law" = some (.ref fa))
    {d1 d2 d3 d4 d5 d6 d7 d8 d9 d10 d11 d12 d13 d14 d15 d16 d17 d18 d19 d20 d21 d22 d23 d24 d25 d26 d27 d28 d29 d30 d31 d32 d33 d34 d35 d36 d37 d38 d39 d40 d41 d42 d43 d44 d45 d46 : FuncData}
    {coc18 : Value} {cod18 : Option Addr} {cvs18 : Array Value} {csl18 : Array (Option Value)}
    {coc20 : Value} {cod20 : Option Addr} {cvs20 : Array Value} {csl20 : Array (Option Value)}
    {coc28 : Value} {cod28 : Option Addr} {cvs28 : Array Value} {csl28 : Array (Option Value)}
    {coc29 : Value} {cod29 : Option Addr} {cvs29 : Array Value} {csl29 : Array (Option Value)}
    (a1 : Dk K "has" s_has f1 d1)
    (a2 : Dk K "options_of" s_options_of f2 d2)
    (a3 : Dk K "with_option" s_with_option f3 d3)
    (a4 : Dk K "open_options" s_open_options f4 d4)
    (a5 : Dk K "many_ties" s_many_ties f5 d5)
    (a6 : Dk K "tie_at" s_tie_at f6 d6)
    (a7 : Dk K "keeps" s_keeps f7 d7)
    (a8 : Dk K "keeps_bough" s_keeps_bough f8 d8)
    (a9 : Dk K "count_in" s_count_in f9 d9)
    (a10 : Dk K "every_tie" s_every_tie f10 d10)
    (a11 : Dk K "first_broken" s_first_broken f11 d11)
    (a12 : Dk K "is_ware" s_is_ware f12 d12)
    (a13 : Dk K "sure_broken" s_sure_broken f13 d13)
    (a14 : Dk K "least_sum" s_least_sum f14 d14)
    (a15 : Dk K "sure_broken_bough" s_sure_broken_bough f15 d15)
    (a16 : Dk K "first_sure_broken" s_first_sure_broken f16 d16)
    (a17 : Dk K "cases" s_cases f17 d17)
    (a18 : Dk K "cases_of" s_cases_of f18 d18)
    (e18 : d18.code = .ref cc18) (m18 : K.lookup cc18 = some ⟨coc18, cod18, .fields cvs18, csl18⟩) (n18 : (cvs18[11]? : Option Value) = some (.ref tt18))
    (a19 : Dk K "ware_leaf" s_ware_leaf f19 d19)
    (a20 : Dk K "are_cases" s_are_cases f20 d20)
    (e20 : d20.code = .ref cc20) (m20 : K.lookup cc20 = some ⟨coc20, cod20, .fields cvs20, csl20⟩) (n20 : (cvs20[11]? : Option Value) = some (.ref tt20))
    (a21 : Dk K "is_ware_leaf" s_is_ware_leaf f21 d21)
    (a22 : Dk K "told_tree" s_told_tree f22 d22)
    (a23 : Dk K "is_tree" s_is_tree f23 d23)
    (a24 : Dk K "is_broken_leaf" s_is_broken_leaf f24 d24)
    (a25 : Dk K "wares_in" s_wares_in f25 d25)
    (a26 : Dk K "wares" s_wares f26 d26)
    (a27 : Dk K "price_of" s_price_of f27 d27)
    (a28 : Dk K "best" s_best f28 d28)
    (e28 : d28.code = .ref cc28) (m28 : K.lookup cc28 = some ⟨coc28, cod28, .fields cvs28, csl28⟩) (n28 : (cvs28[11]? : Option Value) = some (.ref tt28))
    (a29 : Dk K "are_bounds" s_are_bounds f29 d29)
    (e29 : d29.code = .ref cc29) (m29 : K.lookup cc29 = some ⟨coc29, cod29, .fields cvs29, csl29⟩) (n29 : (cvs29[11]? : Option Value) = some (.ref tt29))
    (a30 : Dk K "is_dear" s_is_dear f30 d30)
    (a31 : Dk K "dear_leaf" s_dear_leaf f31 d31)
    (a32 : Dk K "is_bound_leaf" s_is_bound_leaf f32 d32)
    (a33 : Dk K "_law_take" s_law_take f33 d33)
    (a34 : Dk K "_law_bough" s_law_bough f34 d34)
    (a35 : Dk K "_law_boughs" s_law_boughs f35 d35)
    (a36 : Dk K "_law_most" s_law_most f36 d36)
    (a37 : Dk K "_law_cross" s_law_cross f37 d37)
    (a38 : Dk K "_law_wood" s_law_wood f38 d38)
    (a39 : Dk K "_law_has" s_law_has f39 d39)
    (a40 : Dk K "_law_prices" s_law_prices f40 d40)
    (a41 : Dk K "_law_price" s_law_price f41 d41)
    (a42 : Dk K "_law_whole" s_law_whole f42 d42)
    (a43 : Dk K "_law_first_sure" s_law_first_sure f43 d43)
    (a44 : Dk K "_law_told_bounds" s_law_told_bounds f44 d44)
    (a45 : Dk K "_law_first_best" s_law_first_best f45 d45)
    (a46 : Dk K "law" s_law f46 d46)
    (z1 : PySem.W.nsIn K mainGlobals "range" = some none)
    (z2 : PySem.W.nsIn K mainGlobals "len" = some none)
    (z3 : PySem.W.nsIn K mainGlobals "isinstance" = some none)
    (z4 : PySem.W.nsIn K mainGlobals "min" = some none)
    (z5 : PySem.W.nsIn K mainGlobals "int" = some none)
    (z6 : PySem.W.nsIn K mainGlobals "bool" = some none)
    (z7 : PySem.W.nsIn K mainGlobals "list" = some none)
    (z8 : PySem.W.nsIn K mainGlobals "tuple" = some none)
    (z9 : PySem.W.nsIn K mainGlobals "sorted" = some none)
    (z10 : PySem.W.nsIn K mainGlobals "enumerate" = some none)
    (z11 : PySem.W.nsIn K mainGlobals "sum" = some none)
    : (∃ fd : FuncData, (∀ (s : Shared) (v : Value), BindsTo s fd ⟨[v], []⟩ [("_law_script", v)]) ∧ ∀ base : Heap, K.In base → base.Ns mainGlobals mg → (∀ p ∈ ([(cc18, tt18), (cc20, tt20), (cc28, tt28), (cc29, tt29)] : List (Addr × Addr)), LamB mg base p.1 p.2) → FnOk l.prog w K mg base CX0 26 fa fd ["_law_script"] (spT tt18 (spT tt20 (spT tt28 (spT tt29 (spLaw K)))))) := by
  have e := hfa.symm.trans (PySem.W.mg_of X G a46.1)
  cases e
  have T : Txt K mg ⟨f1, f2, f3, f4, f5, f6, f7, f8, f9, f10, f11, f12, f13, f14, f15, f16, f17, f18, f19, f20, f21, f22, f23, f24, f25, f26, f27, f28, f29, f30, f31, f32, f33, f34, f35, f36, f37, f38, f39, f40, f41, f42, f43, f44, f45, fa, cc18, tt18, cc20, tt20, cc28, tt28, cc29, tt29⟩ ⟨d1, d2, d3, d4, d5, d6, d7, d8, d9, d10, d11, d12, d13, d14, d15, d16, d17, d18, d19, d20, d21, d22, d23, d24, d25, d26, d27, d28, d29, d30, d31, d32, d33, d34, d35, d36, d37, d38, d39, d40, d41, d42, d43, d44, d45, d46⟩ := ⟨PySem.W.mg_none_of X G z1, PySem.W.mg_none_of X G z2, PySem.W.mg_none_of X G z3, PySem.W.mg_none_of X G z4, PySem.W.mg_none_of X G z5, PySem.W.mg_none_of X G z6, PySem.W.mg_none_of X G z7, PySem.W.mg_none_of X G z8, PySem.W.mg_none_of X G z9, PySem.W.mg_none_of X G z10, PySem.W.mg_none_of X G z11, a1.df X G (bd2 fun _ _ _ _ _ _ _ _ => rfl), a2.df X G (bd1 fun _ _ _ _ _ _ _ => rfl), a3.df X G (bd2 fun _ _ _ _ _ _ _ _ => rfl), a4.df X G (bd3 fun _ _ _ _ _ _ _ _ _ => rfl), a5.df X G (bd1 fun _ _ _ _ _ _ _ => rfl), a6.df X G (bd2 fun _ _ _ _ _ _ _ _ => rfl), a7.df X G (bd2 fun _ _ _ _ _ _ _ _ => rfl), a8.df X G (bd2 fun _ _ _ _ _ _ _ _ => rfl), a9.df X G (bd2 fun _ _ _ _ _ _ _ _ => rfl), a10.df X G (bd1 fun _ _ _ _ _ _ _ => rfl), a11.df X G (bd2 fun _ _ _ _ _ _ _ _ => rfl), a12.df X G (bd2 fun _ _ _ _ _ _ _ _ => rfl), a13.df X G (bd3 fun _ _ _ _ _ _ _ _ _ => rfl), a14.df X G (bd3 fun _ _ _ _ _ _ _ _ _ => rfl), a15.df X G (bd3 fun _ _ _ _ _ _ _ _ _ => rfl), a16.df X G (bd4 fun _ _ _ _ _ _ _ _ _ _ => rfl), a17.df X G (bd3 fun _ _ _ _ _ _ _ _ _ => rfl), a18.df X G (bd4 fun _ _ _ _ _ _ _ _ _ _ => rfl), a19.df X G (bd3 fun _ _ _ _ _ _ _ _ _ => rfl), a20.df X G (bd4 fun _ _ _ _ _ _ _ _ _ _ => rfl), a21.df X G (bd4 fun _ _ _ _ _ _ _ _ _ _ => rfl), a22.df X G (bd5 fun _ _ _ _ _ _ _ _ _ _ _ => rfl), a23.df X G (bd5 fun _ _ _ _ _ _ _ _ _ _ _ => rfl), a24.df X G (bd4 fun _ _ _ _ _ _ _ _ _ _ => rfl), a25.df X G (bd2 fun _ _ _ _ _ _ _ _ => rfl), a26.df X G (bd1 fun _ _ _ _ _ _ _ => rfl), a27.df X G (bd2 fun _ _ _ _ _ _ _ _ => rfl), a28.df X G (bd2 fun _ _ _ _ _ _ _ _ => rfl), a29.df X G (bd4 fun _ _ _ _ _ _ _ _ _ _ => rfl), a30.df X G (bd4 fun _ _ _ _ _ _ _ _ _ _ => rfl), a31.df X G (bd4 fun _ _ _ _ _ _ _ _ _ _ => rfl), a32.df X G (bd6 fun _ _ _ _ _ _ _ _ _ _ _ _ => rfl), a33.df X G (bd2 fun _ _ _ _ _ _ _ _ => rfl), a34.df X G (bd3 fun _ _ _ _ _ _ _ _ _ => rfl), a35.df X G (bd2 fun _ _ _ _ _ _ _ _ => rfl), a36.df X G (bd2 fun _ _ _ _ _ _ _ _ => rfl), a37.df X G (bd2 fun _ _ _ _ _ _ _ _ => rfl), a38.df X G (bd1 fun _ _ _ _ _ _ _ => rfl), a39.df X G (bd2 fun _ _ _ _ _ _ _ _ => rfl), a40.df X G (bd2 fun _ _ _ _ _ _ _ _ => rfl), a41.df X G (bd2 fun _ _ _ _ _ _ _ _ => rfl), a42.df X G (bd1 fun _ _ _ _ _ _ _ => rfl), a43.df X G (bd3 fun _ _ _ _ _ _ _ _ _ => rfl), a44.df X G (bd4 fun _ _ _ _ _ _ _ _ _ _ => rfl), a45.df X G (bd2 fun _ _ _ _ _ _ _ _ => rfl), a46.df X G (bd1 fun _ _ _ _ _ _ _ => rfl), e18, e20, e28, e29⟩
  exact ⟨d46, law_b a46.2 fun _ _ _ _ _ _ _ => rfl, fun base _ _ LL => ok_law T (LL _ List.mem_cons_self) (LL _ (List.mem_cons_of_mem _ List.mem_cons_self)) (LL _ (List.mem_cons_of_mem _ (List.mem_cons_of_mem _ List.mem_cons_self))) (LL _ (List.mem_cons_of_mem _ (List.mem_cons_of_mem _ (List.mem_cons_of_mem _ List.mem_cons_self))))⟩
theorem walk {l : PySem.W.OpenLaw} {q : Program} {loose : List Str} {XP : (Str → Option Value) → Heap → Prop} {YP : World → Heap → Prop} {d : DefRec} {K : Params → PySem.W.Frag} {c18 P18 c20 P20 c28 P28 c29 P29 : Addr} (hn : l.most = some 63) (hdf : d.params.defaults = [])
    (hY : ∀ (w : World) (h : Heap), YP w h → (K w.params).In h)
    (hK0 : ∀ w : World, PySem.W.noTabs (K w.params) = true) (hT : ∀ (w : World) (h : Heap), YP w h → PySem.W.TabsAt [(c18, P18), (c20, P20), (c28, P28), (c29, P29)] h)
(F : ∀ (w : World) (mg : Str → Option Value) (fa : Addr) (h : Heap), (K w.params).In h → h.Ns mainGlobals mg → mg d.name = some (.ref fa) →
      ∃ fd : FuncData, (∀ (s : Shared) (u : Value), BindsTo s fd ⟨[u], []⟩ [("_law_script", u)]) ∧ ∀ base : Heap, (K w.params).In base → base.Ns mainGlobals mg → (∀ p ∈ ([(c18, P18), (c20, P20), (c28, P28), (c29, P29)] : List (Addr × Addr)), LamB mg base p.1 p.2) → FnOk l.prog w (K w.params) mg base CX0 26 fa fd ["_law_script"] (spT P18 (spT P20 (spT P28 (spT P29 (spLaw (K w.params))))))) :
    PySem.W.WalkO q loose XP YP l.row.toRowW d [] (fun f vs => PySem.call f vs) :=
  
  L2.walk_ofT (n := 63) (k := 26) (x := "_law_script") (tabs := fun _ => [(c18, P18), (c20, P20), (c28, P28), (c29, P29)]) (sp := fun w => (spT P18 (spT P20 (spT P28 (spT P29 (spLaw (K w.params))))))) hn (by decide) hdf ⟨rfl, by decide, by decide⟩ hY hK0 hT F (fun _ _ a ns hl hT hS => ⟨hT _ List.mem_cons_self, hT _ (List.mem_cons_of_mem _ List.mem_cons_self), hT _ (List.mem_cons_of_mem _ (List.mem_cons_of_mem _ List.mem_cons_self)), hT _ (List.mem_cons_of_mem _ (List.mem_cons_of_mem _ (List.mem_cons_of_mem _ List.mem_cons_self))), a, ns, rfl, hS, hl, fun _ => rfl⟩)
end Ow
set_option genSizeOf false
inductive PySem.W.Fast
  | tw4192163456376292248
  | tw4759201831552231623
  | tw10921288449414549044
  | tw16269435033732149831
  | tw324367129816964303
  | tw15897505815118389564
  | tw11519835958792073939
  | tw1530603828023753625
  | tw18348880708741326056
  | tw14428572455882943849
  | tw10685899573482565667
  | tw1025807346966530661
  | tw158640042427893307
  | tw8637254875354861259
  | tw12294078441163899965
  | tw8732125946415168261
  | tw15671307267212579899
  | tw394088810509225770
  | tw17919623668335697037
  | tw5959581768526167587
  | tw13174629081569863926
  | tw9592183075154554353
  | tw17427876809124796735
  | tw11128816238073447052
  | tw15674449286265714537
  | tw3540414330339146225
  | tw15338476974254841730
  | tw5846219822601647908
  | tw15228449944856109951
  | tw12891652226396098827
  | tw10888221243936961434
  | tw14600249481858117009
  | tw12126277574306340501
  | tw1420698630978398132
  | tw15645703629959211366
  | tw10449626852116536990
  | tw10781277394681971175
  | tw10298666445659118225
  | tw7204683090101029259
  | tw17544015023760867394
  | tw1706286357638500019
  | tw6368268593718247889
  | tw1590883102005304784
  | tw17233278888487444333
  | tw803148986867661364
  | tw12242544887379829990
  | tw4616153475778800210
  | tw15959720603777082617
  | tw6061235717029757298
  | tw1882426945333552404
  | tw3075476403743411648
  | tw18382439922455198657
  | tw5337643164421412262
  | tw8013626393888809072
  | tw5859784126087144877
  | tw18151989533948617032
  | tw12079543231438878383
  | tw963263404440278872
  | tw1267690619955640484
  | tw759387792045595802
  | tw17285276403077136612
  | tw17470413499285232972
  | tw7760271413163309933
  | tw16418808588973192842
  | tw354611641221210225
  | tw10375997582409884983
  | tw5221214895427947029
  | tw8252283371517703151
  | tw13977803124579689965
  | tw11943258218432957954
  | tw13775324399606645354
  | tw8613698816207929214
  | tw14750026113380784265
  | tw6346214394686415562
  | tw3940947572414015561
  | tw8139312676277828425
  | tw9635049522034665215
  | tw3801017117439111086
  | tw15131560727586875024
  | tw4249156254285794617
  | tw2325840815801724254
  | tw14087485647856628532
  | tw15398748111583231740
  | tw9550790031916897182
  | tw11079258064988200563
  | tw11969631600588909423
  | tw2620068894824867283
  | tw985064848039648610
  | tw13433610977777898047
  | tw13237828725221617077
  | tw12382620302081385831
  | tw13626069852265819177
  | tw10722685911655096810
  | tw15924121057979406868
  | tw12269136214314803391
  | tw15370940820758703947
  | tw12515641505482781236
  | tw2973854237547912802
  | tw1023538350008339179
  | tw5672559208494615629
  | tw1892787093289660011
  | tw15407434205795147866
  | tw14352237840321088337
  | tw6926968838708635569
  | tw7874497883645936196
  | tw12247406059367951375
  | tw12112850152444363376
  | tw11383406204266341885
  | tw12051631836813695434
  | tw16966505506842663889
  | tw11424828941757524210
  | tw6818705443286341584
  | tw7088344838767856826
  | tw553680965636435319
  | tw7189876050314415573
  | tw1048573945307276424
  | tw10413245771856505489
  | tw5377043531808731963
  | tw10167817000090631953
  | tw9578091310541841229
  | tw13811501938993709752
  | tw1156343483043567806
  | tw3074801821894683006
  | tw4910547487817389214
  | tw10932405183595306947
  | tw14407427588037777459
  | tw1867444144588724674
  | tw10349003296020355934
  | tw1029735552659791230
  | tw13207914904180078794
  | tw4162153898716660681
  | tw1403912885853874722
  | tw4372786466783534347
  | tw18039957419029087044
  | tw5189881055529106160
  | tw8128378265743944959
  | tw10830167851455665870
  | tw14101347086245212101
  | tw2784422801566334150
  | tw4242593913793026292
  | tw10154231355292792343
  | tw16173129418140860796
  | tw4075743453578315768
  | tw3961387537626100074
  | tw17061321784354470330
  | tw7980573342127184379
  | tw10363686195333939748
  | tw5061878965581671
  | tw4152947267324254075
  | tw18049988712694077559
  | tw14872023452413173006
  | tw1137534250758955525
  | tw336707473771115485
  | tw2759711581375478760
  | tw10920641871949574984
  | tw12192254586741120639
  | tw779043930256685507
  | tw9633877111984406264
  | tw12216958001945534916
  | tw7064014832020044267
  | tw11793821716665174180
  | tw7336750126478776555
  | tw13571380457928675151
  | tw12329971455303631289
  | tw9595526976605254621
  | tw11703020322568312839
  | tw1579913370976316106
  | tw2784147975168600950
  | tw137191232222106259
  | tw17500427568559189989
  | tw644556684106462610
  | tw8255448832556695785
  | tw3802327355889473872
  | tw5803037750274346762
  | tw17494573793906104597
  | tw6151369564703030634
  | tw9456132843042107236
  | tw4769232325358134835
  | tw14891843082890885279
  | tw13073024601114486371
  | tw9132991703057919331
  | tw17684331704120875765
  | tw15730008639685924514
  | tw9741535755645200513
  | tw1904298271047944307
  | tw6735281132958475064
  | tw9070479417472462675
  | tw4531169839623789045
  | tw10230711755567578495
  | tw18102858876009639251
  | tw15072351506611466089
  | tw2524126215516496822
  | tw4029528503165236714
  | tw11570406525786673272
  | tw9128677209237280832
  | tw14497864952892158892
  | tw1176579232309868809
  | tw12031178805945391887
  | tw5212573245683012876
  | tw4451874250098031644
  | tw12333038534133323250
  | tw12369234112168610099
  | tw12666762670352752638
  | tw3405519795586569947
  | tw7869322255122464964
  | tw5989907630372161487
  | tw18099858351005627108
  | tw14764494621364398049
  | tw6320946492408915293
  | tw5929660108892449799
  | tw14421333895517258136
  | tw16945397757911651160
  | tw2473228397490231664
  | tw11346491809730388350
  | tw3787629075258690715
  | tw5472322096539839083
  | tw11522802253610486162
  | tw7661347382435536468
  | tw3437251456076736200
  | tw7439855713563800683
  | tw6426941638032020072
  | tw16098459772054949409
  | tw16738741640067179039
  | tw15526129754545537090
  | tw9408992770958136088
  | tw6065456931356791030
  | tw11015457831870501576
  | tw4737973223447342090
  | tw11135089319943843587
  | tw8144435028197461545
  | tw13924650076595494313
  | tw10810109627898527011
  | tw9517372204680396211
  | tw11044041095699915181
  | tw6546811562108209045
  | tw10052877205482195235
  | tw14948412002622378418
  | tw84838070083358575
  | tw6718255565742530556
  | tw13991782693317816426
  | tw1194917315592816567
  | tw4281876427000023200
  | tw1780377848371148633
  | tw17881516259599028539
  | tw16269195297811866927
  | tw16979330235704508068
  | tw11074939524419807025
  | tw5377217135171567867
  | tw2425897719932948551
  | tw9530965719713087178
  | tw17143856245510224799
  | tw17241098393643930032
  | tw18173377984590404698
  | tw5866368713881108335
  | tw16146803278966467026
  | tw15841169676850495037
  | tw7228003026833129612
  | tw5677615791931933989
  | tw8999913122489948716
  | tw15951064159915103137
  | tw6716236389595547433
  | tw18442792450516429667
  | tw2729240807122032396
  | tw1760735907479476088
  | tw2364720308627920859
  | tw7438935907815629885
  | tw14914729792996629664
  | tw14403929888813028622
  | tw8479891279034816100
  | tw1072692909801618199
  | tw6329861484757995940
  | tw7956397681314463644
  | tw15992205808068325476
namespace Ow
end Ow
open PySem PySem.W PyProof.Rows
set_option maxRecDepth 100000 in
set_option maxHeartbeats 0 in
theorem PySem.Challenge.cw_optionwood_k60_the_best_buy_holds : PySem.Challenge.rw_optionwood_k60_the_best_buy.Holds := by
  w_on; o_law; k_head; (case hw => w_witness2)
  k_fill
  refine' Ow.walk (l := PySem.Challenge.rw_optionwood_k60_the_best_buy) (c18 := _) (P18 := _) (c20 := _) (P20 := _) (c28 := _) (P28 := _) (c29 := _) (P29 := _) rfl rfl (fun w h Y => PySem.W.km_in_of Y) ?K0 ?hT ?F
  case F =>
    intro w mg fa h KX G hmg
    refine' Ow.all_mk KX G hmg ?a1 ?a2 ?a3 ?a4 ?a5 ?a6 ?a7 ?a8 ?a9 ?a10 ?a11 ?a12 ?a13 ?a14 ?a15 ?a16 ?a17 ?a18 ?e18 ?m18 ?n18 ?a19 ?a20 ?e20 ?m20 ?n20 ?a21 ?a22 ?a23 ?a24 ?a25 ?a26 ?a27 ?a28 ?e28 ?m28 ?n28 ?a29 ?e29 ?m29 ?n29 ?a30 ?a31 ?a32 ?a33 ?a34 ?a35 ?a36 ?a37 ?a38 ?a39 ?a40 ?a41 ?a42 ?a43 ?a44 ?a45 ?a46 ?z1 ?z2 ?z3 ?z4 ?z5 ?z6 ?z7 ?z8 ?z9 ?z10 ?z11
    all_goals try (refine' L2.dk ?a ?l ?c ?k; (case a => k_is); (case l => k_is); (case c => k_is); (case k => k_is))
    (case e18 => exact rfl)
    (case m18 => k_is)
    (case n18 => exact rfl)
    (case e20 => exact rfl)
    (case m20 => k_is)
    (case n20 => exact rfl)
    (case e28 => exact rfl)
    (case m28 => k_is)
    (case n28 => exact rfl)
    (case e29 => exact rfl)
    (case m29 => k_is)
    (case n29 => exact rfl)
    (case z1 => k_is)
    (case z2 => k_is)
    (case z3 => k_is)
    (case z4 => k_is)
    (case z5 => k_is)
    (case z6 => k_is)
    (case z7 => k_is)
    (case z8 => k_is)
    (case z9 => k_is)
    (case z10 => k_is)
    (case z11 => k_is)
  case K0 => intro w; kernel_rfl
  case hT =>
    intro w h Y q hq
    simp only [List.mem_cons, List.not_mem_nil, or_false] at hq
    rcases hq with rfl | rfl | rfl | rfl
    · exact ⟨PySem.W.codeHd_of_K (PySem.W.km_in_of Y) (by kernel_rfl), PySem.W.km_tabs_of Y _ (by decide)⟩
    · exact ⟨PySem.W.codeHd_of_K (PySem.W.km_in_of Y) (by kernel_rfl), PySem.W.km_tabs_of Y _ (by decide)⟩
    · exact ⟨PySem.W.codeHd_of_K (PySem.W.km_in_of Y) (by kernel_rfl), PySem.W.km_tabs_of Y _ (by decide)⟩
    · exact ⟨PySem.W.codeHd_of_K (PySem.W.km_in_of Y) (by kernel_rfl), PySem.W.km_tabs_of Y _ (by decide)⟩
#print axioms PySem.Challenge.cw_optionwood_k60_the_best_buy_holds
