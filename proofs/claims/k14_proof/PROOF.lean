import PyProof.Rows.All
import Wide.All
import OpenK.AllK
import Wide.FinOn
import Lean
import PyProof.EqAt
import PyProof.EqKinds
import PyProof.TupleCall
import PySem.Challenge.RW_optionwood_k14_whole_woods_renumbered

set_option Elab.async false
set_option linter.all false
set_option maxRecDepth 100000
/-! THE HAND LAYER, for ints, bools, texts, own classes, LISTS and tuples (index, slices, in, append, pop ..), calls, loops. Paste it whole ahead of your own text; what your proof does not reach may be deleted. -/
namespace L2
open PySem PySem.Spec PyProof.Rows

/-- a key: an int or a str -/
abbrev Key := Sum Int Str
def keyIs : Key → Value → Bool
  | .inl k, v => Value.isInt k v
  | .inr x, v => Value.isStrOf x v
def keyH (w : World) : Key → Int
  | .inl k => hashInt k
  | .inr x => hashStr w x
theorem keyIs_shape : ∀ {k : Key} {v : Value}, keyIs k v = true → (∃ i t, k = Sum.inl i ∧ v = Value.int i t) ∨ (∃ x t, k = Sum.inr x ∧ v = Value.str x t)
  | .inl i, v, h => by
    obtain ⟨t, e⟩ := Value.isInt_shape (k := i) (v := v) h
    exact .inl ⟨i, t, rfl, e⟩
  | .inr x, v, h => by
    obtain ⟨t, e⟩ := Value.isStrOf_shape (x := x) (v := v) h
    exact .inr ⟨x, t, rfl, e⟩
theorem keyIs_int (i : Int) (t : Tok) : keyIs (.inl i) (.int i t) = true := by simp [keyIs, Value.isInt]
theorem keyIs_str (x : Str) (t : Tok) : keyIs (.inr x) (.str x t) = true := by simp [keyIs, Value.isStrOf]
theorem key_ll (a b : Int) : decide ((Sum.inl a : Key) = Sum.inl b) = (a == b) := by
  by_cases e : a = b
  · subst e; simp
  · have h : ¬ (Sum.inl a : Key) = Sum.inl b := fun q => e (Sum.inl.inj q)
    rw [decide_eq_false h]
    exact (beq_eq_false_iff_ne.mpr e).symm
theorem key_rr (a b : Str) : decide ((Sum.inr a : Key) = Sum.inr b) = decide (a = b) := by
  by_cases e : a = b
  · subst e; simp
  · have h : ¬ (Sum.inr a : Key) = Sum.inr b := fun q => e (Sum.inr.inj q)
    rw [decide_eq_false h, decide_eq_false e]
theorem key_lr (a : Int) (b : Str) : decide ((Sum.inl a : Key) = Sum.inr b) = false := decide_eq_false (fun q => nomatch q)
theorem key_rl (a : Str) (b : Int) : decide ((Sum.inr a : Key) = Sum.inl b) = false := decide_eq_false (fun q => nomatch q)

def mixKind (prog : Program) (w : World) : PySem.KeyKind prog w Key where
  is := keyIs
  hash := keyH w
  inj := fun v a b ha hb => by
    rcases keyIs_shape ha with ⟨i, t, rfl, rfl⟩ | ⟨x, t, rfl, rfl⟩
    · rcases keyIs_shape hb with ⟨j, u, rfl, e⟩ | ⟨y, u, rfl, e⟩
      · injection e with e1 _; rw [e1]
      · exact nomatch e
    · rcases keyIs_shape hb with ⟨j, u, rfl, e⟩ | ⟨y, u, rfl, e⟩
      · exact nomatch e
      · injection e with e1 _; rw [e1]
  byValue := fun k v h => by
    rcases keyIs_shape h with ⟨i, t, rfl, rfl⟩ | ⟨x, t, rfl, rfl⟩ <;> rfl
  pyHash := fun hv h => by
    rcases keyIs_shape hv with ⟨i, t, rfl, rfl⟩ | ⟨x, t, rfl, rfl⟩
    · exact wpAny_pyHash_int h
    · exact wpAny_pyHash_str h
  eqBool := fun hu hv h => by
    rcases keyIs_shape hu with ⟨i, t, rfl, rfl⟩ | ⟨x, t, rfl, rfl⟩
    · rcases keyIs_shape hv with ⟨j, u, rfl, rfl⟩ | ⟨y, u, rfl, rfl⟩
      · rw [key_ll] at h; exact wpAny_eqBool_int h
      · rw [key_lr] at h; exact SeqAt.EqAt.int_str i t y u _ _ _ _ h
    · rcases keyIs_shape hv with ⟨j, u, rfl, rfl⟩ | ⟨y, u, rfl, rfl⟩
      · rw [key_rl] at h; exact SeqAt.EqAt.str_int x t j u _ _ _ _ h
      · rw [key_rr] at h; exact wpAny_eqBool_str h
  «strs» := fun k x t v h => by
    rcases keyIs_shape h with ⟨i, u, rfl, e⟩ | ⟨y, u, rfl, e⟩
    · exact nomatch e
    · injection e with e1 _
      subst e1
      cases v <;> rfl

theorem mixKind_int (prog : Program) (w : World) (i : Int) (t : Tok) : (mixKind prog w).is (.inl i) (.int i t) = true := keyIs_int i t
theorem mixKind_str (prog : Program) (w : World) (x : Str) (t : Tok) : (mixKind prog w).is (.inr x) (.str x t) = true := keyIs_str x t
end L2

namespace L2
open PySem PySem.Spec PyProof.Rows

/-- a value, without the heap -/
inductive V where
  | non | bl (b : Bool) | int (i : Int) | str (x : Str) | byt (b : Array UInt8) | flt (b : UInt64) | ref (a : Addr) | ty (n : String)
  deriving DecidableEq

def RelV : V → Value → Prop
  | .non, u => u = Value.none
  | .bl b, u => u = Value.bool b
  | .int i, u => ∃ t, u = Value.int i t
  | .str x, u => ∃ t, u = Value.str x t
  | .byt b, u => ∃ t, u = Value.bytes b t
  | .flt b, u => ∃ t, u = Value.float b t
  | .ref a, u => u = Value.ref a
  | .ty n, u => u = Value.type n

abbrev Vals : List V → List Value → Prop := Paired RelV
theorem Vals.length {xs : List V} {us : List Value} (r : Vals xs us) : xs.length = us.length := Paired.length r
theorem Vals.get : ∀ {xs : List V} {us : List Value} {i : Nat} {x : V}, Vals xs us → xs[i]? = some x → ∃ u, us[i]? = some u ∧ RelV x u
  | _, _, _, _, .nil, e => by simp at e
  | _, _, 0, _, .cons r _, e => by simp at e; subst e; exact ⟨_, rfl, r⟩
  | _, _, i + 1, x, .cons _ t, e => by
    obtain ⟨u, h1, h2⟩ := Vals.get (i := i) (x := x) t (by simpa using e)
    exact ⟨u, by simpa using h1, h2⟩
theorem Vals.append : ∀ {xs ys : List V} {us ws : List Value}, Vals xs us → Vals ys ws → Vals (xs ++ ys) (us ++ ws)
  | _, _, _, _, .nil, s => s
  | _, _, _, _, .cons r t, s => .cons r (Vals.append t s)
theorem Vals.take : ∀ {xs : List V} {us : List Value} (n : Nat), Vals xs us → Vals (xs.take n) (us.take n)
  | _, _, 0, _ => .nil
  | _, _, _ + 1, .nil => .nil
  | _, _, n + 1, .cons r t => .cons r (Vals.take n t)
theorem Vals.drop : ∀ {xs : List V} {us : List Value} (n : Nat), Vals xs us → Vals (xs.drop n) (us.drop n)
  | _, _, 0, r => r
  | _, _, _ + 1, .nil => .nil
  | _, _, n + 1, .cons _ t => Vals.drop n t
def RelO : Option V → Option Value → Prop
  | some v, some u => RelV v u
  | none, none => True
  | _, _ => False
def KV {κ : Type} : List (κ × V) → List (κ × Value) → Prop := Paired fun (p : κ × V) (q : κ × Value) => p.1 = q.1 ∧ RelV p.2 q.2

/-- a key of a dict (00_mix): an int or a text -/
def kV : Key → V
  | .inl i => .int i
  | .inr x => .str x

/-- what stands at a tracked address -/
inductive HO where
  /-- a list -/
  | lst (xs : List V)
  /-- a tuple (never changes) -/
  | tup (xs : List V)
  /-- a dict whose keys are ints and texts; one whose keys are tuples of ints and texts (the empty one is both) -/
  | dK (kvs : List (Key × V)) | dT (kvs : List (List Key × V))
  /-- a set of ints: its members, its size -/
  | set (S : Int → Bool) (n : Nat)
  /-- an instance of the class at C, its dict at dx, its attributes -/
  | ins (C dx : Addr) (fs : List (Str × V))
  /-- the dict of the instance at x -/
  | own (x : Addr)
  /-- the dict of an exception -/
  | xd (fs : List (Str × V))
  /-- a bound method, f of x -/
  | met (f x : Addr)
  /-- a range object lo, lo + 1, .. below hi -/
  | rng (lo hi : Int)
  /-- a thing that is known to the object (the script; a dict while a loop walks it): read, never written while it is so -/
  | frz (o : Obj) (u : HO)
  /-- a code object's table -/
  | tbl (ps : Array Value)
  /-- any other thing, by what is true of its one object (a def of one's own: SetO a S n := HO.ext fun h => ..) -/
  | ext (φ : Heap → Prop)

abbrev Hp := Addr → Option HO
def upd (H : Hp) (a : Addr) (o : HO) : Hp := fun b => if b = a then some o else H b
theorem upd_same {H : Hp} {a : Addr} {o : HO} : upd H a o a = some o := by unfold upd; rw [if_pos rfl]
theorem upd_ne {H : Hp} {a b : Addr} {o : HO} (h : b ≠ a) : upd H a o b = H b := by unfold upd; rw [if_neg h]
/-- two objects of different content stand apart -/
theorem ne_of {H : Hp} {a b : Addr} {o u : HO} (h : H a = some o) (h' : H b = some u) (d : o ≠ u) : a ≠ b := by
  intro e; subst e; rw [h] at h'; exact d (Option.some.inj h')
theorem ne_of_none {H : Hp} {a b : Addr} {o : HO} (h : H a = some o) (h' : H b = none) : a ≠ b := by
  intro e; subst e; rw [h] at h'; cases h'

section
variable (P : Program) (w : World)
def ObjOk (H : Hp) (h : Heap) (a : Addr) : HO → Prop
  | .lst xs => xs.length ≤ sizeLine ∧ ∃ (its : List Value) (n : Nat), Vals xs its ∧ h.get? a = some { cls := .type "list", data := .seq its.toArray n }
  | .tup xs => xs.length ≤ sizeLine ∧ ∃ its : List Value, Vals xs its ∧ IsTup h a its.toArray
  | .dK kvs => kvs.length ≤ sizeLine ∧ (a == sysModules) = false ∧ ∃ vs, KV kvs vs ∧ h.DictOf (mixKind P w) a vs
  | .dT kvs => kvs.length ≤ sizeLine ∧ (a == sysModules) = false ∧ ∃ xs : List (List Key × Addr × Value),
      Paired (fun (p : List Key × V) (q : List Key × Addr × Value) => p.1 = q.1 ∧ H q.2.1 = some (.tup (p.1.map kV)) ∧ RelV p.2 q.2.2) kvs xs ∧
      ∃ o es ep, h.get? a = some o ∧ o.ExactDict ∧ o.data = .dict es ep ∧ es.toList = xs.map (entryOfKey (tupleKind (mixKind P w))) ∧ (xs.map (·.1)).Nodup
  | .set S n => h.SetOf (intKind P w) a S n
  | .ins C dx fs => H dx = some (.own a) ∧ fs.length ≤ 1000 ∧ dx ≠ a ∧ h.get? a = some (PySem.W.instObj C dx) ∧
      ∃ mA, h.Ns1 dx mA ∧ (∀ f, RelO (fs.lookup f) (mA f)) ∧ PySem.Within mA (fs.map (·.1))
  | .own _ => ∃ o, h.get? a = some o
  | .xd fs => ∃ mA, h.Ns1 a mA ∧ ∀ f, RelO (fs.lookup f) (mA f)
  | .rng lo hi => ∃ t u v, h.get? a = some { cls := .type "range", data := .fields #[.int lo t, .int hi u, .int 1 v] }
  | .frz o u => h.get? a = some o ∧ ObjOk H h a u
  | .tbl ps => h.get? a = some { cls := .none, data := .fields ps }
  | .met f x => h.get? a = some (PySem.W.methodObj (.ref f) (.ref x))
  | .ext φ => φ h ∧ (∃ o, h.get? a = some o) ∧ ∀ h1 h2 : Heap, φ h1 → (∀ o, h1.get? a = some o → h2.get? a = some o) → φ h2
/-- the abstract heap is held -/
def HOk (H : Hp) (h : Heap) : Prop := ∀ a o, H a = some o → ObjOk P w H h a o
end

section
variable {P : Program} {w : World} {H H' : Hp} {h h' : Heap} {a : Addr} {o : HO}
theorem ObjOk.lt (x : ObjOk P w H h a o) : a < h.objs.size := by
  cases o with
  | lst xs => obtain ⟨_, _, _, _, e⟩ := x; exact Heap.lt_size e
  | tup xs => obtain ⟨_, _, _, p⟩ := x; exact p.lt
  | dK kvs => obtain ⟨_, _, _, _, o, _, _, e, _⟩ := x; exact Heap.lt_size e
  | dT kvs => obtain ⟨_, _, _, _, o, _, _, e, _⟩ := x; exact Heap.lt_size e
  | set S n => obtain ⟨o, _, _, _, e, _⟩ := x; exact Heap.lt_size e
  | ins C dx fs => obtain ⟨_, _, _, e, _⟩ := x; exact Heap.lt_size e
  | own y => obtain ⟨_, e⟩ := x; exact Heap.lt_size e
  | xd fs => obtain ⟨_, ⟨_, _, _, e, _⟩, _⟩ := x; exact Heap.lt_size e
  | rng lo hi => obtain ⟨_, _, _, e⟩ := x; exact Heap.lt_size e
  | frz ob u => obtain ⟨e, _⟩ := x; exact Heap.lt_size e
  | tbl ps => exact Heap.lt_size (show h.get? a = some _ from x)
  | met f y => exact Heap.lt_size (show h.get? a = some _ from x)
  | ext φ => obtain ⟨_, ⟨_, e⟩, _⟩ := x; exact Heap.lt_size e
theorem Paired.mapP {α β : Type} {F G : α → β → Prop} : ∀ {l₁ : List α} {l₂ : List β}, Paired F l₁ l₂ → (∀ a b, F a b → G a b) → Paired G l₁ l₂
  | _, _, .nil, _ => .nil
  | _, _, .cons r t, f => .cons (f _ _ r) (Paired.mapP t f)
/-- what an object's description leans on: its own object, its own dict, the tuples -/
theorem ObjOk.stay (x : ObjOk P w H h a o) (k : ∀ b u, (b = a ∨ H b = some (.own a)) → h.get? b = some u → h'.get? b = some u)
    (ho : ∀ b, H b = some (.own a) → H' b = some (.own a)) (ht : ∀ b xs, H b = some (.tup xs) → H' b = some (.tup xs)) : ObjOk P w H' h' a o := by
  induction o with
  | lst xs => obtain ⟨z, its, n, r, e⟩ := x; exact ⟨z, its, n, r, k _ _ (.inl rfl) e⟩
  | tup xs => obtain ⟨z, its, r, ob, e, c⟩ := x; exact ⟨z, its, r, ob, k _ _ (.inl rfl) e, c⟩
  | dK kvs => obtain ⟨z, y, vs, r, ob, es, ep, e, c⟩ := x; exact ⟨z, y, vs, r, ob, es, ep, k _ _ (.inl rfl) e, c⟩
  | dT kvs =>
    obtain ⟨z, y, xs, r, ob, es, ep, e, c⟩ := x
    exact ⟨z, y, xs, Paired.mapP r fun p q z => ⟨z.1, ht _ _ z.2.1, z.2.2⟩, ob, es, ep, k _ _ (.inl rfl) e, c⟩
  | set S n => obtain ⟨ob, es, ep, t, e, c⟩ := x; exact ⟨ob, es, ep, t, k _ _ (.inl rfl) e, c⟩
  | ins C dx fs =>
    obtain ⟨d, z, ne, e, mA, ⟨od, es, ep, e2, c⟩, r⟩ := x
    exact ⟨ho _ d, z, ne, k _ _ (.inl rfl) e, mA, ⟨od, es, ep, k _ _ (.inr d) e2, c⟩, r⟩
  | own y => obtain ⟨ob, e⟩ := x; exact ⟨ob, k _ _ (.inl rfl) e⟩
  | xd fs => obtain ⟨mA, ⟨od, es, ep, e, c⟩, r⟩ := x; exact ⟨mA, ⟨od, es, ep, k _ _ (.inl rfl) e, c⟩, r⟩
  | rng lo hi => obtain ⟨t, u, v, e⟩ := x; exact ⟨t, u, v, k _ _ (.inl rfl) e⟩
  | frz ob u ih => obtain ⟨e, q⟩ := x; exact ⟨k _ _ (.inl rfl) e, ih q⟩
  | tbl ps =>
    have e : h.get? a = some { cls := .none, data := .fields ps } := x
    show h'.get? a = some { cls := .none, data := .fields ps }
    exact k a _ (.inl rfl) e
  | met f y =>
    have e : h.get? a = some (PySem.W.methodObj (.ref f) (.ref y)) := x
    show h'.get? a = some (PySem.W.methodObj (.ref f) (.ref y))
    exact k a _ (.inl rfl) e
  | ext φ => obtain ⟨p, ⟨o, e⟩, st⟩ := x; exact ⟨st _ _ p fun o q => k _ _ (.inl rfl) q, ⟨o, k _ _ (.inl rfl) e⟩, st⟩
theorem HOk.lt (x : HOk P w H h) (e : H a = some o) : a < h.objs.size := (x a o e).lt
theorem HOk.fresh (x : HOk P w H h) (e : h.objs.size ≤ a) : H a = none := by
  cases q : H a with
  | none => rfl
  | some u => exact absurd (Nat.lt_of_lt_of_le (x.lt q) e) (Nat.lt_irrefl _)
/-- every object of the heap is kept -/
theorem HOk.kept (x : HOk P w H h) (k : ∀ b u, h.get? b = some u → h'.get? b = some u) : HOk P w H h' := fun a o e =>
  (x a o e).stay (fun b u _ q => k b u q) (fun _ q => q) fun _ _ q => q
/-- a new object is laid and tracked -/
theorem HOk.laid (x : HOk P w H h) (k : ∀ b u, h.get? b = some u → h'.get? b = some u) (hp : h.objs.size ≤ a) (new : ObjOk P w (upd H a o) h' a o) : HOk P w (upd H a o) h' := fun b u e => by
  have hn := x.fresh hp
  by_cases hb : b = a
  · subst hb; rw [upd_same] at e; cases e; exact new
  · rw [upd_ne hb] at e
    exact (x b u e).stay (fun c v _ q => k c v q) (fun c q => by rw [upd_ne (ne_of_none q hn)]; exact q) fun c xs q => by rw [upd_ne (ne_of_none q hn)]; exact q
end

/-- what may be read as u: it is u, or a known u -/
def Rd (H : Hp) (a : Addr) (u : HO) : Prop := H a = some u ∨ ∃ o, H a = some (.frz o u)
theorem Rd.ok {P : Program} {w : World} {H : Hp} {h : Heap} {a : Addr} {u : HO} (r : Rd H a u) (x : HOk P w H h) : ObjOk P w H h a u := by
  rcases r with r | ⟨o, r⟩
  · exact x a u r
  · obtain ⟨_, q⟩ := x a _ r
    exact q
/-- what may be written -/
def Mut : Option HO → Prop
  | some (.lst _) => True
  | some (.dK _) => True
  | some (.dT _) => True
  | some (.set _ _) => True
  | some (.ins _ _ _) => True
  | some (.ext _) => True
  | _ => False
section
variable {P : Program} {w : World} {H : Hp} {h h' : Heap} {x e : Addr} {o' : HO}
/-- the object at e is changed: x itself, or the dict of the instance x -/
theorem HOk.write (ok : HOk P w H h) (mu : Mut (H x)) (he : e = x ∨ H e = some (.own x)) (k : ∀ b u, b ≠ e → h.get? b = some u → h'.get? b = some u) (heo : ∃ u, h'.get? e = some u)
    (new : ObjOk P w (upd H x o') h' x o') : HOk P w (upd H x o') h' := fun b u q => by
  have nown : ∀ c y, H c = some (.own y) → c ≠ x := fun c y r z => by subst z; rw [r] at mu; exact mu
  have ntup : ∀ c xs, H c = some (.tup xs) → c ≠ x := fun c xs r z => by subst z; rw [r] at mu; exact mu
  by_cases hb : b = x
  · subst hb; rw [upd_same] at q; cases q; exact new
  · rw [upd_ne hb] at q
    by_cases hbe : b = e
    · have q' : H b = some (.own x) := by
        rcases he with z | z
        · exact absurd (hbe.trans z) hb
        · rw [hbe]; exact z
      rw [q] at q'; cases q'
      obtain ⟨v, hv⟩ := heo
      exact ⟨v, by rw [hbe]; exact hv⟩
    · refine (ok b u q).stay (fun c v hc r => k c v ?_ r) (fun c r => by rw [upd_ne (nown c b r)]; exact r) fun c xs r => by rw [upd_ne (ntup c xs r)]; exact r
      rcases hc with rfl | hc
      · exact hbe
      · rintro rfl
        rcases he with z | z
        · exact nown c b hc z
        · rw [hc] at z; cases z; exact hb rfl
end

/-! ### kept unless tracked; of the frames at fs (the callers') the slots may change (an exception that passes writes there); of the records at ex (iterators) nothing is said -/
structure Un (fs ex : List Addr) (H H' : Hp) (h h' : Heap) : Prop where
  keep : ∀ b o, h.get? b = some o → H b = none → b ∉ fs → b ∉ ex → h'.get? b = some o
  slot : ∀ b o, h.get? b = some o → H b = none → b ∈ fs → b ∉ ex → ∃ sl, h'.get? b = some { o with slots := sl }
  free : ∀ b o, h.get? b = some o → H b = none → b ∉ ex → H' b = none
  there : ∀ b o, h.get? b = some o → b ∉ ex → ∃ o', h'.get? b = some o'
  tups : ∀ b xs, H b = some (.tup xs) → H' b = some (.tup xs)
  frzs : ∀ b o u, H b = some (.frz o u) → H' b = some (.frz o u)
  tbls : ∀ b ps, H b = some (.tbl ps) → ∃ more, H' b = some (.tbl (ps ++ more))
section
variable {fs fs' ex ex' : List Addr} {H H1 H2 : Hp} {h h1 h2 h' : Heap} {a x e : Addr} {o : HO}
theorem Un.any (u : Un fs ex H H1 h h1) {b : Addr} {ob : Obj} (q : h.get? b = some ob) (n : H b = none) (hx : b ∉ ex) : ∃ sl, h1.get? b = some { ob with slots := sl } := by
  by_cases hb : b ∈ fs
  · exact u.slot b ob q n hb hx
  · exact ⟨ob.slots, u.keep b ob q n hb hx⟩
theorem Un.kept (k : ∀ b u, h.get? b = some u → h'.get? b = some u) : Un fs ex H H h h' :=
  ⟨fun b ob q _ _ _ => k b ob q, fun b ob q _ _ _ => ⟨ob.slots, k b ob q⟩, fun _ _ _ n _ => n, fun b ob q _ => ⟨ob, k b ob q⟩, fun _ _ q => q, fun _ _ _ q => q, fun _ ps q => ⟨#[], by rw [q]; simp⟩⟩
theorem Un.refl : Un fs ex H H h h := Un.kept fun _ _ q => q
theorem Un.laid (k : ∀ b u, h.get? b = some u → h'.get? b = some u) (hp : h.objs.size ≤ a) (hn : H a = none) : Un fs ex H (upd H a o) h h' where
  keep := fun b u q _ _ _ => k b u q
  slot := fun b u q _ _ _ => ⟨u.slots, k b u q⟩
  free := fun b u q n _ => by rw [upd_ne (Nat.ne_of_lt (Nat.lt_of_lt_of_le (Heap.lt_size q) hp))]; exact n
  there := fun b u q _ => ⟨u, k b u q⟩
  tups := fun b xs q => by rw [upd_ne (ne_of_none q hn)]; exact q
  frzs := fun b u xs q => by rw [upd_ne (ne_of_none q hn)]; exact q
  tbls := fun b ps q => ⟨#[], by rw [upd_ne (ne_of_none q hn), q]; simp⟩
theorem Un.write (mu : Mut (H x)) (he : e = x ∨ H e = some (.own x)) (k : ∀ b u, b ≠ e → h.get? b = some u → h'.get? b = some u) (heo : ∃ u, h'.get? e = some u) : Un fs ex H (upd H x o) h h' := by
  have hx : ∀ b, H b = none → b ≠ x := fun b n z => by subst z; rw [n] at mu; exact mu
  have hb : ∀ b, H b = none → b ≠ e := fun b n z => by
    subst z
    rcases he with r | r
    · exact hx b n r
    · rw [n] at r; cases r
  have hm : ∀ b u, H b = some u → ¬ Mut (some u) → b ≠ x := fun b u q nm z => by subst z; rw [q] at mu; exact nm mu
  refine ⟨fun b u q n _ _ => k b u (hb b n) q, fun b u q n _ _ => ⟨u.slots, k b u (hb b n) q⟩, fun b u q n _ => by rw [upd_ne (hx b n)]; exact n, fun b u q _ => ?_,
    fun b xs q => by rw [upd_ne (hm b _ q fun z => z)]; exact q, fun b u xs q => by rw [upd_ne (hm b _ q fun z => z)]; exact q, fun b ps q => ⟨#[], by rw [upd_ne (hm b _ q fun z => z), q]; simp⟩⟩
  by_cases hbe : b = e
  · subst hbe; exact heo
  · exact ⟨u, k b u hbe q⟩
end

/-! ### the heap without what is tracked -/
def trk (h : Heap) (H : Hp) : List Addr := (List.range h.objs.size).filter fun a => (H a).isSome
def hidT (h : Heap) (H : Hp) : Heap := PySem.W.hideAll h (trk h H)
theorem hidT_size (h : Heap) (H : Hp) : (hidT h H).objs.size = h.objs.size := PySem.W.hideAll_size _ _
theorem hidT_get {h : Heap} {H : Hp} {b : Addr} {o : Obj} (e : h.get? b = some o) (n : H b = none) : (hidT h H).get? b = some o :=
  PySem.W.hideAll_get _ e fun hm => by
    have q : (H b).isSome = true := (List.mem_filter.mp hm).2
    rw [n] at q; simp at q
theorem of_hidT {h : Heap} {H : Hp} {b : Addr} {o : Obj} (e : (hidT h H).get? b = some o) : h.get? b = some o ∧ H b = none := by
  have e' : h.get? b = some o := PySem.W.of_hideAll (trk h H) e
  refine ⟨e', ?_⟩
  cases q : H b with
  | none => rfl
  | some x =>
    have hm : b ∈ trk h H := List.mem_filter.mpr ⟨List.mem_range.mpr (Heap.lt_size e'), by simp [q]⟩
    have z : (hidT h H).get? b = none := PySem.W.hideAll_none (trk h H) hm
    rw [z] at e; cases e

/-! ### OpenK's ledger, filled with every new object but one -/
end L2

namespace L2
open PySem PySem.Spec PyProof.Rows

/-- the module's facts, over the base: the heap at the law's entry without what is tracked there -/
structure Mod (K : PySem.W.Frag) (mg : Str → Option Value) (base : Heap) : Prop where
  kin : K.In base
  glob : base.Ns mainGlobals mg
  blt : ∃ mb, base.Ns builtinsNs mb ∧ ∀ x : Str, x ≠ "__name__" → mb x = bootBuiltins x
  nolimit : base.NoLimit

/-- the context: a def's body (or a comprehension's block) running. base: fixed through the whole law; s₀, H₀: the entry; outer: the frames whose slots others may change (a def's callers); stack: all frames that run;
   ex: iterators that were made ahead of the entry and are walked here (a comprehension's); fn: the names whose cells were made at the entry (a def: all; a comprehension's block: its own); calm: not within an except suite; pn: pins that every state bears; xe: what is wanted of an exception that leaves the code -/
structure Cx where
  prog : Program
  w : World
  K : PySem.W.Frag
  mg : Str → Option Value
  base : Heap
  A : Around
  N : List Str
  s₀ : Shared
  H₀ : Hp
  env : Env
  outer : List Env
  stack : List Env
  ex : List Addr
  fn : Str → Bool
  calm : Bool
  pn : List (Addr × Obj)
  xe : Value → Shared → Prop
/-- the callers' frames -/
def frs (l : List Env) : List Addr := l.filterMap (·.frame)
abbrev Cx.fs (X : Cx) : List Addr := frs X.outer

def Vis (sc : Scope) (x : Str) : Prop := sc.names.lookup x = some .local ∨ sc.names.lookup x = some .cell ∨ sc.names.lookup x = some .free
def Loc (sc : Scope) (x : Str) : Prop := sc.names.lookup x = some .local ∨ sc.names.lookup x = some .cell
def Look (env : Env) (h : Heap) (m : Str → Option Value) (x : Str) (u : Value) : Prop :=
  (env.kindOf x = some .local ∧ m x = some u) ∨ ((env.kindOf x = some .cell ∨ env.kindOf x = some .free) ∧ ∃ c, env.cells.lookup x = some c ∧ h.IsCell c (some u))

structure Cx.Ok (X : Cx) : Prop where
  mod : Mod X.K X.mg X.base
  kind : X.env.scope.kind = .function
  glob : X.env.globals = mainGlobals
  blt : X.env.builtins = builtinsNs
  above : X.s₀.heap.objs.size ≤ X.env.locals
  inj : ∀ x y c, X.env.cells.lookup x = some c → X.env.cells.lookup y = some c → x = y
  has : ∀ x, (X.env.kindOf x = some .cell ∨ X.env.kindOf x = some .free) → ∃ c, X.env.cells.lookup x = some c
  cab : ∀ x c, X.fn x = true → X.env.cells.lookup x = some c → X.s₀.heap.objs.size ≤ c
  hd : X.calm = true → X.A.handled = none
  frames : X.A.frames = some X.stack
  stk : X.stack = X.outer ∨ (X.stack = X.env :: X.outer ∧ X.env.frame = some X.env.locals)
  exf : ∀ b ∈ X.ex, b ≠ X.env.locals ∧ ∀ x c, X.env.cells.lookup x = some c → c ≠ b
  bs : ∀ b o, X.base.get? b = some o → X.s₀.heap.get? b = some o ∧ X.H₀ b = none
  bsz : X.base.objs.size ≤ X.s₀.heap.objs.size
  noex : ∀ b o, X.base.get? b = some o → b ∉ X.ex
  exfs : ∀ b ∈ X.ex, b ∉ X.fs
  funs : X.s₀.heap.FunFrames X.base X.outer
  frf : ∀ b ∈ X.fs, X.H₀ b = none

structure Inv (X : Cx) (pins : List (Addr × Obj)) (σ : List (Option V)) (H : Hp) (s : Shared) : Prop where
  ok : X.Ok
  os : s.os = X.s₀.os
  bare : AllBare s.gens
  base : Un X.fs X.ex X.H₀ H X.s₀.heap s.heap
  loc : ∃ m, s.heap.Ns X.env.locals m ∧ ∀ (i : Nat) (x : Str) (v : V), X.N[i]? = some x → σ[i]? = some (some v) → Vis X.env.scope x → ∃ u, RelV v u ∧ Look X.env s.heap m x u
  cell : ∀ x c, X.env.cells.lookup x = some c → ∃ v, s.heap.IsCell c v
  free : H X.env.locals = none
  freeC : ∀ x c, X.env.cells.lookup x = some c → H c = none
  pin : ∀ p ∈ X.pn ++ pins, s.heap.get? p.1 = some p.2 ∧ H p.1 = none ∧ p.1 ≠ X.env.locals ∧ p.1 ∉ X.fs ∧ ∀ v, p.2.data ≠ .cell v
  hok : HOk X.prog X.w H s.heap
  len : σ.length = X.N.length

section
variable {X : Cx} {pins : List (Addr × Obj)} {σ : List (Option V)} {H H' : Hp} {s : Shared} {h' : Heap}

theorem Cx.Ok.nofr (ok : X.Ok) {b : Addr} {o : Obj} (e : X.base.get? b = some o) : b ∉ X.fs := fun hb => by
  have := (ok.funs.mem hb).1
  rw [e] at this; cases this
theorem Inv.bs (I : Inv X pins σ H s) : ∀ b o, X.base.get? b = some o → s.heap.get? b = some o ∧ H b = none := fun b o e =>
  ⟨I.base.keep b o (I.ok.bs b o e).1 (I.ok.bs b o e).2 (I.ok.nofr e) (I.ok.noex b o e), I.base.free b o (I.ok.bs b o e).1 (I.ok.bs b o e).2 (I.ok.noex b o e)⟩
theorem Inv.bk (I : Inv X pins σ H s) : ∀ b o, X.base.get? b = some o → s.heap.get? b = some o := fun b o e => (I.bs b o e).1
theorem Inv.mod (I : Inv X pins σ H s) : Mod X.K X.mg X.base := I.ok.mod
theorem Inv.kIn (I : Inv X pins σ H s) : X.K.In s.heap := I.ok.mod.kin.keeps I.bk
theorem Inv.lt (I : Inv X pins σ H s) : X.env.locals < s.heap.objs.size := let ⟨_, hn, _⟩ := I.loc; hn.lt
theorem Inv.sz (I : Inv X pins σ H s) : X.s₀.heap.objs.size ≤ s.heap.objs.size := Nat.le_trans I.ok.above (Nat.le_of_lt I.lt)
theorem Inv.nofs (I : Inv X pins σ H s) {a : Addr} (h : s.heap.objs.size ≤ a) : a ∉ X.fs := fun hb => by
  obtain ⟨_, o, ho, _⟩ := I.ok.funs.mem hb
  exact absurd (Nat.lt_of_lt_of_le (Heap.lt_size ho) (Nat.le_trans I.sz h)) (Nat.lt_irrefl _)
theorem Inv.cne (I : Inv X pins σ H s) : ∀ x c, X.env.cells.lookup x = some c → c ≠ X.env.locals := fun x c e z => by
  obtain ⟨v, o, ho, hd⟩ := I.cell x c e
  obtain ⟨m, ⟨o', es, ep, ho', hd', _⟩, _⟩ := I.loc
  rw [z, ho'] at ho; cases ho; rw [hd'] at hd; cases hd
theorem Inv.funs (I : Inv X pins σ H s) : s.heap.FunFrames X.base X.outer := by
  have all : ∀ (l : List Env), (∀ b ∈ frs l, b ∈ X.fs) → X.s₀.heap.FunFrames X.base l → s.heap.FunFrames X.base l := by
    intro l
    induction l with
    | nil => intro _ _; trivial
    | cons env r ih =>
      intro hs hl
      obtain ⟨hk, ⟨L, o, hf, hn, ho, hd⟩, hr⟩ := hl
      have hL : L ∈ X.fs := hs L (by unfold frs; rw [List.filterMap_cons, hf]; exact List.mem_cons_self)
      obtain ⟨sl, e⟩ := I.base.slot L o ho (I.ok.frf L hL) hL fun z => I.ok.exfs L z hL
      exact ⟨hk, ⟨L, _, hf, hn, e, hd⟩, ih (fun b hb => hs b (by unfold frs; rw [List.filterMap_cons, hf]; exact List.mem_cons_of_mem _ hb)) hr⟩
  exact all X.outer (fun _ hb => hb) I.ok.funs

/-- the frames that run, for a call -/
theorem Inv.stack (I : Inv X pins σ H s) : s.heap.FunFrames X.base X.stack := by
  rcases I.ok.stk with e | ⟨e, hf⟩
  · rw [e]; exact I.funs
  · rw [e]
    obtain ⟨m, hn, _⟩ := I.loc
    refine .cons (by rw [I.ok.kind]; decide) hf hn ?_ I.funs
    exact Heap.get?_none_of_le (Nat.le_trans I.ok.bsz I.ok.above)
theorem Inv.stkSub (I : Inv X pins σ H s) : ∀ b ∈ frs X.stack, b ∈ X.env.locals :: X.fs := fun b hb => by
  rcases I.ok.stk with e | ⟨e, hf⟩
  · rw [e] at hb; exact List.mem_cons_of_mem _ hb
  · rw [e] at hb
    unfold frs at hb
    rw [List.filterMap_cons, hf] at hb
    exact hb
theorem Inv.stkFree (I : Inv X pins σ H s) : ∀ b ∈ frs X.stack, H b = none := fun b hb => by
  rcases List.mem_cons.mp (I.stkSub b hb) with e | hb
  · rw [e]; exact I.free
  · obtain ⟨_, o, ho, _⟩ := I.ok.funs.mem hb
    exact I.base.free b o ho (I.ok.frf b hb) fun z => I.ok.exfs b z hb

/-- THE STEP: the untracked objects but the frame and the records at ch are kept (the callers' frames up to slots), the frame's map is kept, the new abstract heap is held -/
theorem Inv.step {g' : Array GenState} {t' : Nat} {d' : Drawn} {ch : List Addr} (I : Inv X pins σ H s)
    (hch : ∀ b ∈ ch, (b ∈ X.ex ∨ X.s₀.heap.objs.size ≤ b) ∧ b ≠ X.env.locals ∧ (∀ x c, X.env.cells.lookup x = some c → c ≠ b) ∧ ∀ p ∈ X.pn ++ pins, p.1 ≠ b)
    (keep : ∀ b o, b ≠ X.env.locals → b ∉ X.fs → b ∉ ch → s.heap.get? b = some o → H b = none → h'.get? b = some o)
    (slot : ∀ b o, b ≠ X.env.locals → b ∈ X.fs → b ∉ ch → s.heap.get? b = some o → H b = none → ∃ sl, h'.get? b = some { o with slots := sl }) (free : ∀ b o, b ∉ ch → s.heap.get? b = some o → H b = none → H' b = none)
    (there : ∀ b o, b ∉ ch → s.heap.get? b = some o → ∃ o', h'.get? b = some o')
    (tups : ∀ b xs, H b = some (.tup xs) → H' b = some (.tup xs)) (frzs : ∀ b o u, H b = some (.frz o u) → H' b = some (.frz o u)) (tbls : ∀ b ps, H b = some (.tbl ps) → ∃ more, H' b = some (.tbl (ps ++ more)))
    (ns : ∀ m, s.heap.Ns X.env.locals m → h'.Ns X.env.locals m) (hok : HOk X.prog X.w H' h') (hg : AllBare g') :
    Inv X pins σ H' { s with heap := h', gens := g', drawn := d', toks := t' } := by
  have neL : ∀ b o, X.s₀.heap.get? b = some o → b ≠ X.env.locals := fun b o e => Nat.ne_of_lt (Nat.lt_of_lt_of_le (Heap.lt_size e) I.ok.above)
  have neC : ∀ b o, X.s₀.heap.get? b = some o → b ∉ X.ex → b ∉ ch := fun b o e hx hb => by
    rcases (hch b hb).1 with z | z
    · exact hx z
    · exact absurd (Nat.lt_of_lt_of_le (Heap.lt_size e) z) (Nat.lt_irrefl _)
  have cellK : ∀ x c, X.env.cells.lookup x = some c → ∀ v, s.heap.IsCell c v → h'.IsCell c v := fun x c e v ⟨o, ho, hd⟩ => by
    have nch : c ∉ ch := fun z => (hch c z).2.2.1 x c e rfl
    by_cases hc : c ∈ X.fs
    · obtain ⟨sl, q⟩ := slot c o (I.cne x c e) hc nch ho (I.freeC x c e)
      exact ⟨_, q, hd⟩
    · exact ⟨o, keep c o (I.cne x c e) hc nch ho (I.freeC x c e), hd⟩
  refine ⟨I.ok, I.os, hg, ⟨fun b o e n hb hx => ?_, fun b o e n hb hx => ?_, fun b o e n hx => ?_, fun b o e hx => ?_, fun b xs e => tups b xs (I.base.tups b xs e), fun b o xs e => frzs b o xs (I.base.frzs b o xs e), fun b ps e => ?_⟩, ?_, fun x c e => ?_, ?_, fun x c e => ?_, fun p hp => ?_, hok, I.len⟩
  · exact keep b o (neL b o e) hb (neC b o e hx) (I.base.keep b o e n hb hx) (I.base.free b o e n hx)
  · obtain ⟨sl, e1⟩ := I.base.slot b o e n hb hx
    obtain ⟨sl', e2⟩ := slot b _ (neL b o e) hb (neC b o e hx) e1 (I.base.free b o e n hx)
    exact ⟨sl', e2⟩
  · obtain ⟨o', e1⟩ := I.base.there b o e hx
    exact free b o' (neC b o e hx) e1 (I.base.free b o e n hx)
  · obtain ⟨o', e1⟩ := I.base.there b o e hx
    exact there b o' (neC b o e hx) e1
  · obtain ⟨m1, e1⟩ := I.base.tbls b ps e
    obtain ⟨m2, e2⟩ := tbls b _ e1
    exact ⟨m1 ++ m2, by rw [e2, Array.append_assoc]⟩
  · obtain ⟨m, hn, hl⟩ := I.loc
    refine ⟨m, ns m hn, fun i x v e1 e2 e3 => ?_⟩
    obtain ⟨u, r, l⟩ := hl i x v e1 e2 e3
    refine ⟨u, r, ?_⟩
    rcases l with l | ⟨k, c, e, z⟩
    · exact .inl l
    · exact .inr ⟨k, c, e, cellK x c e _ z⟩
  · obtain ⟨v, z⟩ := I.cell x c e
    exact ⟨v, cellK x c e v z⟩
  · obtain ⟨m, ⟨o, _, _, ho, _⟩, _⟩ := I.loc
    exact free _ o (fun z => (hch _ z).2.1 rfl) ho I.free
  · obtain ⟨v, o, ho, hd⟩ := I.cell x c e
    exact free c o (fun z => (hch c z).2.2.1 x c e rfl) ho (I.freeC x c e)
  · obtain ⟨e, n, ne, nf, d⟩ := I.pin p hp
    have nch : p.1 ∉ ch := fun z => (hch p.1 z).2.2.2 p hp rfl
    exact ⟨keep p.1 p.2 ne nf nch e n, free p.1 p.2 nch e n, ne, nf, d⟩
/-- .. where the frame's own object is kept too -/
theorem Inv.un {t' : Nat} (I : Inv X pins σ H s) (u : Un X.fs [] H H' s.heap h') (hok : HOk X.prog X.w H' h') : Inv X pins σ H' { s with heap := h', toks := t' } := by
  obtain ⟨m, ⟨o, es, ep, ho, r⟩, _⟩ := id I.loc
  obtain ⟨sl, hL⟩ := u.any ho I.free (by simp)
  exact I.step (g' := s.gens) (d' := s.drawn) (ch := []) (fun _ z => nomatch z) (fun b o _ hb _ e n => u.keep b o e n hb (by simp)) (fun b o _ hb _ e n => u.slot b o e n hb (by simp)) (fun b o _ e n => u.free b o e n (by simp)) (fun b o _ e => u.there b o e (by simp)) u.tups u.frzs u.tbls (fun m' hm => by
    obtain ⟨o', es', ep', ho', r'⟩ := hm
    rw [ho] at ho'; cases ho'
    exact ⟨_, es', ep', hL, r'⟩) hok I.bare
/-- behind a call (or a comprehension's block): the slots of this frame may have changed too, the records at ch may have turned -/
theorem Inv.call {g' : Array GenState} {t' : Nat} {d' : Drawn} {ch : List Addr} (I : Inv X pins σ H s) (u : Un (frs X.stack) ch H H' s.heap h') (hok : HOk X.prog X.w H' h') (hg : AllBare g')
    (hch : ∀ b ∈ ch, (b ∈ X.ex ∨ X.s₀.heap.objs.size ≤ b) ∧ b ≠ X.env.locals ∧ (∀ x c, X.env.cells.lookup x = some c → c ≠ b) ∧ ∀ p ∈ X.pn ++ pins, p.1 ≠ b) :
    Inv X pins σ H' { s with heap := h', gens := g', drawn := d', toks := t' } := by
  obtain ⟨m, ⟨o, es, ep, ho, r⟩, _⟩ := id I.loc
  obtain ⟨sl, hL⟩ := u.any ho I.free fun z => (hch _ z).2.1 rfl
  exact I.step (ch := ch) hch (fun b o hL hb hc e n => u.keep b o e n (fun z => (List.mem_cons.mp (I.stkSub b z)).elim hL hb) hc) (fun b o _ _ hc e n => u.any e n hc) (fun b o hc e n => u.free b o e n hc) (fun b o hc e => u.there b o e hc) u.tups u.frzs u.tbls (fun m' hm => by
    obtain ⟨o', es', ep', ho', r'⟩ := hm
    rw [ho] at ho'; cases ho'
    exact ⟨_, es', ep', hL, r'⟩) hok hg
/-- an untracked record of ours (an iterator) has turned -/
theorem Inv.turned {t' : Nat} {it : Addr} (I : Inv X pins σ H s) (k : ∀ b o, b ≠ it → s.heap.get? b = some o → h'.get? b = some o) (hn : H it = none) (hL : it ≠ X.env.locals)
    (h1 : it ∈ X.ex ∨ X.s₀.heap.objs.size ≤ it) (h2 : ∀ x c, X.env.cells.lookup x = some c → c ≠ it) (h3 : ∀ p ∈ X.pn ++ pins, p.1 ≠ it) : Inv X pins σ H { s with heap := h', toks := t' } := by
  have nit : ∀ b u, H b = some u → b ≠ it := fun b u e z => by rw [z, hn] at e; cases e
  refine I.step (g' := s.gens) (d' := s.drawn) (ch := [it]) (fun b hb => ?_) (fun b o _ _ hc e _ => k b o (fun z => hc (by simp [z])) e) (fun b o _ _ hc e _ => ⟨o.slots, k b o (fun z => hc (by simp [z])) e⟩) (fun _ _ _ _ n => n)
    (fun b o hc e => ⟨o, k b o (fun z => hc (by simp [z])) e⟩) (fun _ _ e => e) (fun _ _ _ e => e) (fun b ps e => ⟨#[], by rw [e]; simp⟩) (fun m hm => ?_) (fun b u e => ?_) I.bare
  · have e : b = it := by simpa using hb
    subst e
    exact ⟨h1, hL, h2, h3⟩
  · obtain ⟨o, es, ep, ho, r⟩ := hm
    exact ⟨o, es, ep, k _ o (Ne.symm hL) ho, r⟩
  · refine (I.hok b u e).stay (fun c v hc q => k c v ?_ q) (fun _ q => q) fun _ _ q => q
    rcases hc with z | z
    · rw [z]; exact nit b u e
    · exact nit c _ z
theorem Inv.tok (I : Inv X pins σ H s) (t : Nat) : Inv X pins σ H { s with toks := t } := I.un (h' := s.heap) (t' := t) Un.refl I.hok
/-- all objects kept -/
theorem Inv.kept {t' : Nat} (I : Inv X pins σ H s) (k : ∀ b u, s.heap.get? b = some u → h'.get? b = some u) : Inv X pins σ H { s with heap := h', toks := t' } := I.un (Un.kept k) (I.hok.kept k)
/-- a new object laid and tracked -/
theorem Inv.laid {a : Addr} {o : HO} {t' : Nat} (I : Inv X pins σ H s) (k : ∀ b u, s.heap.get? b = some u → h'.get? b = some u) (hp : s.heap.objs.size ≤ a) (new : ObjOk X.prog X.w (upd H a o) h' a o) :
    Inv X pins σ (upd H a o) { s with heap := h', toks := t' } := I.un (Un.laid k hp (I.hok.fresh hp)) (I.hok.laid k hp new)
/-- an object written -/
theorem Inv.write {x e : Addr} {o : HO} {t' : Nat} (I : Inv X pins σ H s) (mu : Mut (H x)) (he : e = x ∨ H e = some (.own x)) (k : ∀ b u, b ≠ e → s.heap.get? b = some u → h'.get? b = some u) (heo : ∃ u, h'.get? e = some u)
    (new : ObjOk X.prog X.w (upd H x o) h' x o) : Inv X pins σ (upd H x o) { s with heap := h', toks := t' } := I.un (Un.write mu he k heo) (I.hok.write mu he k heo new)
theorem Inv.pins_of {pins' : List (Addr × Obj)} (I : Inv X pins σ H s) (h : ∀ p ∈ pins', s.heap.get? p.1 = some p.2 ∧ H p.1 = none ∧ p.1 ≠ X.env.locals ∧ p.1 ∉ X.fs ∧ ∀ v, p.2.data ≠ .cell v) : Inv X pins' σ H s :=
  ⟨I.ok, I.os, I.bare, I.base, I.loc, I.cell, I.free, I.freeC, fun p hp => (List.mem_append.mp hp).elim (fun z => I.pin p (List.mem_append_left _ z)) (h p), I.hok, I.len⟩

theorem nodup_ix {N : List Str} (hN : N.Nodup) {i j : Nat} {x : Str} (a : N[i]? = some x) (b : N[j]? = some x) : i = j := by
  obtain ⟨h1, e1⟩ := List.getElem?_eq_some_iff.mp a
  obtain ⟨h2, e2⟩ := List.getElem?_eq_some_iff.mp b
  exact (List.getElem_inj hN).mp (e1.trans e2.symm)

/-- a name is stored; what changed -/
theorem store_ok2 {M : Model} {A : Around} {E : Value → Shared → Prop} {i : Nat} {x : Str} {v : V} {u : Value} {Q : Unit → Shared → Prop} (I : Inv X pins σ H s) (hN : X.N.Nodup) (hi : X.N[i]? = some x) (hx : Loc X.env.scope x) (r : RelV v u)
    (h : ∀ s', Inv X pins (σ.set i (some v)) H s' → (∃ a, Heap.SameBut a s.heap s'.heap ∧ (a = X.env.locals ∨ X.env.cells.lookup x = some a)) → Q () s') (hf : X.fn x = true ∨ X.env.scope.names.lookup x = some .local := by first | exact .inl rfl | exact .inr rfl | assumption) : wpAny M A (storeName X.env x u) Q E s := by
  obtain ⟨m, hn, hl⟩ := id I.loc
  have hcls : (X.env.scope.kind == .class || (X.env.scope.kind == .module && X.env.locals != X.env.globals)) = false := by rw [I.ok.kind]; rfl
  have hiσ : i < σ.length := by rw [I.len]; exact (List.getElem?_eq_some_iff.mp hi).1
  have cne := I.cne
  have tracked : ∀ {a : Addr} {h' : Heap}, (∃ o, s.heap.get? a = some o ∧ H a = none) → Heap.SameBut a s.heap h' → HOk X.prog X.w H h' := fun {a h'} ha hs b ob e => by
    obtain ⟨_, _, hfree⟩ := ha
    refine (I.hok b ob e).stay (fun c w' hc q => (hs.2 c ?_).trans q) (fun _ q => q) fun _ _ q => q
    rintro rfl
    rcases hc with rfl | hc
    · rw [hfree] at e; cases e
    · rw [hfree] at hc; cases hc
  rcases hx with hk | hk
  · refine wpAny_storeName_local hk hn (fun h' hn' hs => ?_) hcls
    obtain ⟨oL, _, _, hoL, _⟩ := id hn
    refine h _ ⟨I.ok, I.os, I.bare, ⟨fun b o e n hb hx => ?_, fun b o e n hb hx => ?_, I.base.free, fun b o e hx => ?_, I.base.tups, I.base.frzs, I.base.tbls⟩, ⟨_, hn', fun j y v' e1 e2 e3 => ?_⟩, fun y c e => ?_, I.free, I.freeC, fun p hp => ?_, tracked ⟨oL, hoL, I.free⟩ hs, by simpa using I.len⟩ ⟨_, hs, .inl rfl⟩
    · exact (hs.2 b (Nat.ne_of_lt (Nat.lt_of_lt_of_le (Heap.lt_size e) I.ok.above))).trans (I.base.keep b o e n hb hx)
    · obtain ⟨sl, e1⟩ := I.base.slot b o e n hb hx
      exact ⟨sl, (hs.2 b (Nat.ne_of_lt (Nat.lt_of_lt_of_le (Heap.lt_size e) I.ok.above))).trans e1⟩
    · obtain ⟨o', e1⟩ := I.base.there b o e hx
      exact ⟨o', (hs.2 b (Nat.ne_of_lt (Nat.lt_of_lt_of_le (Heap.lt_size e) I.ok.above))).trans e1⟩
    · by_cases hj : j = i
      · subst hj
        rw [hi] at e1; cases e1
        rw [List.getElem?_set_self hiσ] at e2
        cases e2
        exact ⟨u, r, .inl ⟨hk, by simp⟩⟩
      · rw [List.getElem?_set_ne (Ne.symm hj)] at e2
        obtain ⟨u', r', q⟩ := hl j y v' e1 e2 e3
        refine ⟨u', r', ?_⟩
        rcases q with ⟨k, e⟩ | ⟨k, c, e, z⟩
        · refine .inl ⟨k, ?_⟩
          have : y ≠ x := fun e => hj (nodup_ix hN e1 (e ▸ hi))
          simp [this, e]
        · exact .inr ⟨k, c, e, z.sameBut hs (cne y c e)⟩
    · obtain ⟨w', z⟩ := I.cell y c e
      exact ⟨w', z.sameBut hs (cne y c e)⟩
    · obtain ⟨e, n, ne, nf, d⟩ := I.pin p hp
      exact ⟨(hs.2 p.1 ne).trans e, n, ne, nf, d⟩
  · have hfn : X.fn x = true := by
      rcases hf with z | z
      · exact z
      · rw [z] at hk; cases hk
    obtain ⟨c, hc⟩ := I.ok.has x (.inl hk)
    obtain ⟨w', z⟩ := I.cell x c hc
    refine wpAny_storeName_cell I.ok.kind hk hc z (fun h' hc' hs => ?_)
    obtain ⟨oc, hoc, hocd⟩ := id z
    refine h { s with heap := h' } ⟨I.ok, I.os, I.bare, ⟨fun b o e n hb hx => ?_, fun b o e n hb hx => ?_, I.base.free, fun b o e hx => ?_, I.base.tups, I.base.frzs, I.base.tbls⟩, ⟨m, hn.sameBut hs (Ne.symm (cne x c hc)), fun j y v' e1 e2 e3 => ?_⟩, fun y c' e => ?_, I.free, I.freeC, fun p hp => ?_, tracked ⟨oc, hoc, I.freeC x c hc⟩ hs, by simpa using I.len⟩ ⟨c, hs, .inr hc⟩
    · exact (hs.2 b (Nat.ne_of_lt (Nat.lt_of_lt_of_le (Heap.lt_size e) (I.ok.cab x c hfn hc)))).trans (I.base.keep b o e n hb hx)
    · obtain ⟨sl, e1⟩ := I.base.slot b o e n hb hx
      exact ⟨sl, (hs.2 b (Nat.ne_of_lt (Nat.lt_of_lt_of_le (Heap.lt_size e) (I.ok.cab x c hfn hc)))).trans e1⟩
    · obtain ⟨o', e1⟩ := I.base.there b o e hx
      exact ⟨o', (hs.2 b (Nat.ne_of_lt (Nat.lt_of_lt_of_le (Heap.lt_size e) (I.ok.cab x c hfn hc)))).trans e1⟩
    · by_cases hj : j = i
      · subst hj
        rw [hi] at e1; cases e1
        rw [List.getElem?_set_self hiσ] at e2
        cases e2
        exact ⟨u, r, .inr ⟨.inl hk, c, hc, hc'⟩⟩
      · rw [List.getElem?_set_ne (Ne.symm hj)] at e2
        obtain ⟨u', r', q⟩ := hl j y v' e1 e2 e3
        refine ⟨u', r', ?_⟩
        rcases q with q | ⟨k, c', e, z'⟩
        · exact .inl q
        · refine .inr ⟨k, c', e, z'.sameBut hs ?_⟩
          rintro rfl
          exact hj (nodup_ix hN e1 (I.ok.inj _ _ _ e hc ▸ hi))
    · by_cases hcc : c' = c
      · subst hcc; exact ⟨_, hc'⟩
      · obtain ⟨w2, z2⟩ := I.cell y c' e
        exact ⟨w2, z2.sameBut hs hcc⟩
    · obtain ⟨e, n, ne, nf, d⟩ := I.pin p hp
      refine ⟨(hs.2 p.1 ?_).trans e, n, ne, nf, d⟩
      intro q
      rw [q, hoc] at e
      have q' : oc = p.2 := Option.some.inj e
      exact d w' (by rw [← q']; exact hocd)
theorem store_ok {M : Model} {A : Around} {E : Value → Shared → Prop} {i : Nat} {x : Str} {v : V} {u : Value} {Q : Unit → Shared → Prop} (I : Inv X pins σ H s) (hN : X.N.Nodup) (hi : X.N[i]? = some x) (hx : Loc X.env.scope x) (r : RelV v u)
    (h : ∀ s', Inv X pins (σ.set i (some v)) H s' → Q () s') (hf : X.fn x = true ∨ X.env.scope.names.lookup x = some .local := by first | exact .inl rfl | exact .inr rfl | assumption) : wpAny M A (storeName X.env x u) Q E s :=
  store_ok2 I hN hi hx r (fun s' I' _ => h s' I') hf
/-- behind a call or a block, the state as it is -/
theorem Inv.call' {s' : Shared} {ch : List Addr} (I : Inv X pins σ H s) (ho : s'.os = s.os) (u : Un (frs X.stack) ch H H' s.heap s'.heap) (hok : HOk X.prog X.w H' s'.heap) (hg : AllBare s'.gens)
    (hch : ∀ b ∈ ch, (b ∈ X.ex ∨ X.s₀.heap.objs.size ≤ b) ∧ b ≠ X.env.locals ∧ (∀ x c, X.env.cells.lookup x = some c → c ≠ b) ∧ ∀ p ∈ X.pn ++ pins, p.1 ≠ b) : Inv X pins σ H' s' := by
  obtain ⟨h', g', d', t', o'⟩ := s'
  have e : o' = s.os := ho
  subst e
  exact I.call (g' := g') (t' := t') (d' := d') u hok hg hch
end

/-! ### the judgements -/
/-- an exception: its class, its own dict's address (where it has one), the abstract heap behind it -/
abbrev XK := Value → Option Addr → Hp → Prop
abbrev St := List (Option V)
abbrev VK := V → Hp → Prop
/-- an expression's reading; a test's; an argument list's -/
abbrev TE := St → Hp → VK → Prop
abbrev TT := St → Hp → (Bool → Hp → Prop) → Prop
abbrev TA := St → Hp → (List V → Hp → Prop) → Prop
/-- what is wanted behind a statement -/
structure Ends where
  nx : St → Hp → Prop
  rt : VK
  bk : St → Hp → Prop := fun _ _ => False
  ct : St → Hp → Prop := fun _ _ => False
abbrev TS := Ends → St → Hp → Prop

def EP (X : Cx) (pins : List (Addr × Obj)) (σ : St) (Q : VK) (u : Value) (s' : Shared) : Prop := ∃ v H', Inv X pins σ H' s' ∧ RelV v u ∧ Q v H'
def TP (X : Cx) (pins : List (Addr × Obj)) (σ : St) (Q : Bool → Hp → Prop) (b : Bool) (s' : Shared) : Prop := ∃ H', Inv X pins σ H' s' ∧ Q b H'
def AP (X : Cx) (pins : List (Addr × Obj)) (σ : St) (Q : List V → Hp → Prop) (us : List Value) (s' : Shared) : Prop := ∃ vs H', Inv X pins σ H' s' ∧ Vals vs us ∧ Q vs H'
def SP (X : Cx) (pins : List (Addr × Obj)) (D : Ends) (f : Flow) (s' : Shared) : Prop :=
  match f with
  | .next => ∃ σ' H', Inv X pins σ' H' s' ∧ D.nx σ' H'
  | .brk => ∃ σ' H', Inv X pins σ' H' s' ∧ D.bk σ' H'
  | .cont => ∃ σ' H', Inv X pins σ' H' s' ∧ D.ct σ' H'
  | .ret u => ∃ v σ' H', Inv X pins σ' H' s' ∧ RelV v u ∧ D.rt v H'

def PE (X : Cx) (e : Expr) (t : TE) : Prop :=
  ∀ (pins : List (Addr × Obj)) (s : Shared) (σ : St) (H : Hp) (Q : VK), Inv X pins σ H s → t σ H Q → wpAny (model X.prog X.w) X.A (eval e X.env) (EP X pins σ Q) X.xe s
def PT (X : Cx) (e : Expr) (t : TT) : Prop :=
  ∀ (pins : List (Addr × Obj)) (s : Shared) (σ : St) (H : Hp) (Q : Bool → Hp → Prop), Inv X pins σ H s → t σ H Q → wpAny (model X.prog X.w) X.A (isTrue e X.env (eval e X.env)) (TP X pins σ Q) X.xe s
/-- a test whatever its 'whole' is (and, or) -/
def PW (X : Cx) (e : Expr) (t : TT) : Prop :=
  ∀ (whole : Sem Value) (pins : List (Addr × Obj)) (s : Shared) (σ : St) (H : Hp) (Q : Bool → Hp → Prop), Inv X pins σ H s → t σ H Q → wpAny (model X.prog X.w) X.A (isTrue e X.env whole) (TP X pins σ Q) X.xe s
theorem PW.pt {X : Cx} {e : Expr} {t : TT} (h : PW X e t) : PT X e t := h _
/-- an argument list (no star), from the left -/
def PA (X : Cx) (es : List Expr) (t : TA) : Prop :=
  ∀ (pos : Pos) (pins : List (Addr × Obj)) (s : Shared) (σ : St) (H : Hp) (Q : List V → Hp → Prop), Inv X pins σ H s → t σ H Q → wpAny (model X.prog X.w) X.A (spliced (backTo pos (starEach es X.env))) (AP X pins σ Q) X.xe s
def PS (X : Cx) (st : Stmt) (t : TS) : Prop :=
  ∀ (pins : List (Addr × Obj)) (s : Shared) (σ : St) (H : Hp) (D : Ends), Inv X pins σ H s → t D σ H → wpAny (model X.prog X.w) X.A (exec st X.env) (SP X pins D) X.xe s
def PSs (X : Cx) (st : List Stmt) (t : TS) : Prop :=
  ∀ (pins : List (Addr × Obj)) (s : Shared) (σ : St) (H : Hp) (D : Ends), Inv X pins σ H s → t D σ H → wpAny (model X.prog X.w) X.A (execs st X.env) (SP X pins D) X.xe s
/-- weaken the end -/
theorem thn {α : Type} {t : Sem α} {Q Q' : α → Shared → Prop} {M : Model} {A : Around} {E : Value → Shared → Prop} {s : Shared} (h : wpAny M A t Q E s) (hQ : ∀ a s, Q a s → Q' a s) : wpAny M A t Q' E s := wpAny_mono h hQ fun _ _ x => x
end L2

namespace L2
open PySem PySem.Spec PyProof.Rows
section
variable {X : Cx}

/-! ### names and constants -/
def tVar (i : Nat) : TE := fun σ H Q => ∃ v, σ[i]? = some (some v) ∧ Q v H
def tC (v : V) : TE := fun _ H Q => Q v H
theorem pe_var {i : Nat} {x : Str} {pos : Pos} (hN : X.N[i]? = some x) (hv : Vis X.env.scope x) (hd : (x == ("__debug__" : Str)) = false := by decide) (hcd : (x == ("__classdict__" : Str)) = false := by decide) : PE X (.Name x pos) (tVar i) := by
  intro pins s σ H Q I h
  obtain ⟨v, e, h⟩ := h
  obtain ⟨m, hn, hl⟩ := I.loc
  obtain ⟨u, r, l⟩ := hl i x v hN e hv
  have fin : EP X pins σ Q u s := ⟨v, H, I, r, h⟩
  rcases l with ⟨hk, hm⟩ | ⟨hk, c, hc, hcell⟩
  · exact wpAny_Name (wpAny_loadName_local I.ok.kind hk hn hm fin) hd
  · rcases hk with hk | hk
    · exact wpAny_Name (wpAny_loadName_cell I.ok.kind hk hc hcell fin) hd
    · exact wpAny_Name (wpAny_loadName_free I.ok.kind hk hc hcell fin hcd) hd
theorem pe_int {i j pos} : PE X (.Constant (.int i) j pos) (tC (.int i)) := fun _ _ _ H _ I h => wpAny_Constant_int ⟨.int i, H, I.tok _, ⟨_, rfl⟩, h⟩
theorem pe_bl {b j pos} : PE X (.Constant (.bool b) j pos) (tC (.bl b)) := fun _ _ _ H _ I h => Constant_bool ⟨.bl b, H, I, rfl, h⟩
theorem pe_non {j pos} : PE X (.Constant .none j pos) (tC .non) := fun _ _ _ H _ I h => Constant_none ⟨.non, H, I, rfl, h⟩
theorem pe_str {x j pos} : PE X (.Constant (.str x) j pos) (tC (.str x)) := fun _ _ _ H _ I h => Calls.Constant_str ⟨.str x, H, I.tok _, ⟨_, rfl⟩, h⟩

/-- a global name of the def -/
def Gl (X : Cx) (x : Str) : Prop := X.env.kindOf x = some .globalImplicit
theorem ld_glob {E : Value → Shared → Prop} {pins : List (Addr × Obj)} {s : Shared} {σ : St} {H : Hp} {x : Str} {u : Value} {pos : Pos} {Q : Value → Shared → Prop} (I : Inv X pins σ H s) (hg : Gl X x) (hm : X.mg x = some u) (h : Q u s)
    (hd : (x == ("__debug__" : Str)) = false := by decide) : wpAny (model X.prog X.w) X.A (eval (.Name x pos) X.env) Q E s :=
  Calls.Name_function_global I.ok.kind hg (Calls.loadGlobal_global (by rw [I.ok.glob]; exact I.mod.glob.keeps I.bk) hm h) hd
theorem ld_blt {E : Value → Shared → Prop} {pins : List (Addr × Obj)} {s : Shared} {σ : St} {H : Hp} {x : Str} {u : Value} {pos : Pos} {Q : Value → Shared → Prop} (I : Inv X pins σ H s) (hg : Gl X x) (hm : X.mg x = none) (hv : bootBuiltins x = some u) (h : Q u s)
    (hn : x ≠ "__name__" := by decide) (hd : (x == ("__debug__" : Str)) = false := by decide) : wpAny (model X.prog X.w) X.A (eval (.Name x pos) X.env) Q E s := by
  obtain ⟨mb, h1, h2⟩ := I.mod.blt
  exact Calls.Name_function_global I.ok.kind hg (Calls.loadGlobal_builtin (by rw [I.ok.glob]; exact I.mod.glob.keeps I.bk) hm (by rw [I.ok.blt]; exact h1.keeps I.bk) ((h2 x hn).trans hv) h) hd
/-- a module's constant, a class, a function, as a value -/
theorem pe_glob {x : Str} {v : V} {u : Value} {pos : Pos} (hg : Gl X x) (hm : X.mg x = some u) (r : RelV v u) (hd : (x == ("__debug__" : Str)) = false := by decide) : PE X (.Name x pos) (tC v) :=
  fun _ _ _ H _ I h => ld_glob I hg hm ⟨v, H, I, r, h⟩ hd
theorem pe_bltn {x : Str} {v : V} {u : Value} {pos : Pos} (hg : Gl X x) (hm : X.mg x = none) (hv : bootBuiltins x = some u) (r : RelV v u) (hn : x ≠ "__name__" := by decide) (hd : (x == ("__debug__" : Str)) = false := by decide) : PE X (.Name x pos) (tC v) :=
  fun _ _ _ H _ I h => ld_blt I hg hm hv ⟨v, H, I, r, h⟩ hn hd

/-! ### arithmetic -/
variable {a b : Expr} {ta tb : TE} {pos : Pos}
/-! ### comparisons -/
/-- a comparison as a value, as a test -/
def tB (t : TE) : TT := fun σ H Q => t σ H fun x H1 => ∃ c, x = .bl c ∧ Q c H1
/-- an expression whose value is a bool, as a test -/
theorem pt_val {e : Expr} {t : TE} (h : PE X e t) (he : ∀ whole, isTrue e X.env whole = (do let v ← whole; standAt e.pos; holding [v] (truthy v)) := by intro _; rfl) : PT X e (tB t) := by
  intro pins s σ H Q I hw
  refine isTrue_plain (thn (h pins s σ H _ I hw) fun v s1 ⟨x, H1, I1, r1, q1⟩ => ?_) (he _)
  obtain ⟨d, rfl, q⟩ := q1
  cases r1
  exact wpAny_truthy_bool ⟨H1, I1, q⟩

/-! ### and, or, not -/
variable {tA tB' : TT} {rest : List Expr}
def tAnd (t u : TT) : TT := fun σ H Q => t σ H fun c H1 => if c = true then u σ H1 Q else Q false H1
def tOr (t u : TT) : TT := fun σ H Q => t σ H fun c H1 => if c = true then Q true H1 else u σ H1 Q
def tNot (t : TT) : TT := fun σ H Q => t σ H fun c H1 => Q (!c) H1
theorem pw_and1 (ha : PT X a tA) : PW X (.BoolOp .And [a] pos) tA := by
  intro wh pins s σ H Q I h
  refine isTrue_and (thn (ha pins s σ H Q I h) fun c s1 e => ?_)
  cases c with
  | true => exact isTrue_and_nil e
  | false => exact e
theorem pw_or1 (ha : PT X a tA) : PW X (.BoolOp .Or [a] pos) tA := by
  intro wh pins s σ H Q I h
  refine isTrue_or (thn (ha pins s σ H Q I h) fun c s1 e => ?_)
  cases c with
  | false => exact isTrue_or_nil e
  | true => exact e
theorem pw_and (ha : PT X a tA) (hb : PW X (.BoolOp .And (b :: rest) pos) tB') : PW X (.BoolOp .And (a :: b :: rest) pos) (tAnd tA tB') := by
  intro wh pins s σ H Q I h
  refine isTrue_and (thn (ha pins s σ H _ I h) fun c s1 ⟨H1, I1, q1⟩ => ?_)
  cases c with
  | true => exact hb wh pins s1 σ H1 Q I1 q1
  | false => exact ⟨H1, I1, q1⟩
theorem pw_or (ha : PT X a tA) (hb : PW X (.BoolOp .Or (b :: rest) pos) tB') : PW X (.BoolOp .Or (a :: b :: rest) pos) (tOr tA tB') := by
  intro wh pins s σ H Q I h
  refine isTrue_or (thn (ha pins s σ H _ I h) fun c s1 ⟨H1, I1, q1⟩ => ?_)
  cases c with
  | true => exact ⟨H1, I1, q1⟩
  | false => exact hb wh pins s1 σ H1 Q I1 q1
theorem pt_not (ha : PT X a tA) : PT X (.UnaryOp .Not a pos) (tNot tA) := by
  intro pins s σ H Q I h
  exact isTrue_not (ha pins s σ H (fun c H1 => Q (!c) H1) I h)
/-- .. as values (bools) -/
def tAndV (ta tb : TE) : TE := fun σ H Q => ta σ H fun x H1 => ∃ c, x = .bl c ∧ if c = true then tb σ H1 Q else Q (.bl false) H1
def tOrV (ta tb : TE) : TE := fun σ H Q => ta σ H fun x H1 => ∃ c, x = .bl c ∧ if c = true then Q (.bl true) H1 else tb σ H1 Q
def tNotV (ta : TE) : TE := fun σ H Q => ta σ H fun x H1 => ∃ c, x = .bl c ∧ Q (.bl (!c)) H1
theorem pe_one {op} {t : TE} (h : PE X a t) : PE X (.BoolOp op [a] pos) t := fun pins s σ H Q I hw => BoolOp_one (h pins s σ H Q I hw)
theorem pe_and (ha : PE X a ta) (hb : PE X (.BoolOp .And (b :: rest) pos) tb) : PE X (.BoolOp .And (a :: b :: rest) pos) (tAndV ta tb) := by
  intro pins s σ H Q I h
  refine BoolOp_and (thn (ha pins s σ H _ I h) fun v s1 ⟨x, H1, I1, r1, q1⟩ => ?_)
  obtain ⟨c, rfl, q1⟩ := q1
  cases r1
  refine wpAny_truthy_bool ?_
  cases c with
  | true => exact hb pins s1 σ H1 Q I1 q1
  | false => exact ⟨.bl false, H1, I1, rfl, q1⟩
theorem pe_or (ha : PE X a ta) (hb : PE X (.BoolOp .Or (b :: rest) pos) tb) : PE X (.BoolOp .Or (a :: b :: rest) pos) (tOrV ta tb) := by
  intro pins s σ H Q I h
  refine BoolOp_or (thn (ha pins s σ H _ I h) fun v s1 ⟨x, H1, I1, r1, q1⟩ => ?_)
  obtain ⟨c, rfl, q1⟩ := q1
  cases r1
  refine wpAny_truthy_bool ?_
  cases c with
  | false => exact hb pins s1 σ H1 Q I1 q1
  | true => exact ⟨.bl true, H1, I1, rfl, q1⟩
theorem pe_not (ha : PE X a ta) : PE X (.UnaryOp .Not a pos) (tNotV ta) := by
  intro pins s σ H Q I h
  refine UnaryOp_ (thn (ha pins s σ H _ I h) fun v s1 ⟨x, H1, I1, r1, q1⟩ => ?_)
  obtain ⟨c, rfl, q1⟩ := q1
  cases r1
  exact not_of (wpAny_truthy_bool ⟨.bl (!c), H1, I1, rfl, q1⟩)
end
end L2

namespace L2
open PySem PySem.Spec PyProof.Rows

/-! ### a list, a tuple that is read: tracked, frozen, or an object of the module -/
def SqL (K : PySem.W.Frag) (H : Hp) (a : Addr) (xs : List V) : Prop :=
  Rd H a (.lst xs) ∨
    ∃ (o : Obj) (its : Array Value) (n : Nat), K.lookup a = some o ∧ o.cls = .type "list" ∧ o.dict = none ∧ o.data = .seq its n ∧ its.size ≤ sizeLine ∧ Vals xs its.toList
def SqT (K : PySem.W.Frag) (H : Hp) (a : Addr) (xs : List V) : Prop :=
  Rd H a (.tup xs) ∨
    ∃ (o : Obj) (its : Array Value) (n : Nat), K.lookup a = some o ∧ o.cls = .type "tuple" ∧ o.data = .seq its n ∧ its.size ≤ sizeLine ∧ Vals xs its.toList
def absV : Value → Option V
  | .none => some .non
  | .bool b => some (.bl b)
  | .int i _ => some (.int i)
  | .str x _ => some (.str x)
  | .bytes b _ => some (.byt b)
  | .float b _ => some (.flt b)
  | .ref a => some (.ref a)
  | .type n => some (.ty n)
  | _ => none
theorem RelV.abs {x : V} {u : Value} (r : RelV x u) : absV u = some x := by
  cases x with
  | non => cases r; rfl
  | bl _ => cases r; rfl
  | int _ => obtain ⟨t, rfl⟩ := r; rfl
  | str _ => obtain ⟨t, rfl⟩ := r; rfl
  | byt _ => obtain ⟨t, rfl⟩ := r; rfl
  | flt _ => obtain ⟨t, rfl⟩ := r; rfl
  | ref _ => cases r; rfl
  | ty _ => cases r; rfl
theorem RelV.inj {x y : V} {u : Value} (r : RelV x u) (q : RelV y u) : x = y := Option.some.inj (r.abs.symm.trans q.abs)
theorem Vals.inj : ∀ {xs ys : List V} {us : List Value}, Vals xs us → Vals ys us → xs = ys
  | _, _, _, .nil, .nil => rfl
  | _, _, _, .cons r t, .cons r' t' => by rw [r.inj r', Vals.inj t t']
section
variable {X : Cx} {pins : List (Addr × Obj)} {σ : St} {H : Hp} {s : Shared} {a : Addr} {xs ys : List V}
theorem SqL.of {K : PySem.W.Frag} (h : H a = some (.lst xs)) : SqL K H a xs := .inl (.inl h)
theorem Inv.list (I : Inv X pins σ H s) (h : SqL X.K H a xs) : ∃ its : List Value, Vals xs its ∧ PlainL s.heap a its.toArray ∧ xs.length ≤ sizeLine := by
  rcases h with h | ⟨o, its, n, hk, hc, hd, hs, hz, r⟩
  · obtain ⟨z, its, n, r, e⟩ := h.ok I.hok
    exact ⟨its, r, ⟨_, n, e, rfl, rfl, rfl⟩, z⟩
  · refine ⟨its.toList, r, ⟨o, n, I.kIn a o hk, hc, hd, by simpa using hs⟩, ?_⟩
    have e := r.length
    simp only [Array.length_toList] at e
    omega
theorem Inv.tuple (I : Inv X pins σ H s) (h : SqT X.K H a xs) : ∃ its : List Value, Vals xs its ∧ IsTup s.heap a its.toArray ∧ xs.length ≤ sizeLine := by
  rcases h with h | ⟨o, its, n, hk, hc, hs, hz, r⟩
  · obtain ⟨z, its, r, p⟩ := h.ok I.hok
    exact ⟨its, r, p, z⟩
  · refine ⟨its.toList, r, ⟨o, I.kIn a o hk, hc, n, by simpa using hs⟩, ?_⟩
    have e := r.length
    simp only [Array.length_toList] at e
    omega
theorem Inv.list_inj (I : Inv X pins σ H s) (h : SqL X.K H a xs) (h' : SqL X.K H a ys) : xs = ys := by
  obtain ⟨its, r, ⟨o, n, e, _, _, d⟩, _⟩ := I.list h
  obtain ⟨its', r', ⟨o', n', e', _, _, d'⟩, _⟩ := I.list h'
  rw [e] at e'; cases e'
  rw [d] at d'
  injection d' with d1 _
  have : its = its' := by simpa using congrArg Array.toList d1
  subst this
  exact r.inj r'
theorem Inv.tuple_inj (I : Inv X pins σ H s) (h : SqT X.K H a xs) (h' : SqT X.K H a ys) : xs = ys := by
  obtain ⟨its, r, ⟨o, e, _, n, d⟩, _⟩ := I.tuple h
  obtain ⟨its', r', ⟨o', e', _, n', d'⟩, _⟩ := I.tuple h'
  rw [e] at e'; cases e'
  rw [d] at d'
  injection d' with d1 _
  have : its = its' := by simpa using congrArg Array.toList d1
  subst this
  exact r.inj r'
end

/-! ### another wish about exceptions -/
abbrev Cx.wish (X : Cx) (E : Value → Shared → Prop) : Cx := { X with xe := E }
/-- no exception leaves -/
abbrev Cx.nox (X : Cx) : Cx := X.wish fun _ _ => False
theorem Cx.Ok.wish {X : Cx} (ok : X.Ok) (E : Value → Shared → Prop) : (X.wish E).Ok :=
  ⟨ok.mod, ok.kind, ok.glob, ok.blt, ok.above, ok.inj, ok.has, ok.cab, ok.hd, ok.frames, ok.stk, ok.exf, ok.bs, ok.bsz, ok.noex, ok.exfs, ok.funs, ok.frf⟩
theorem Cx.Ok.unwish {X : Cx} {E : Value → Shared → Prop} (ok : (X.wish E).Ok) : X.Ok :=
  ⟨ok.mod, ok.kind, ok.glob, ok.blt, ok.above, ok.inj, ok.has, ok.cab, ok.hd, ok.frames, ok.stk, ok.exf, ok.bs, ok.bsz, ok.noex, ok.exfs, ok.funs, ok.frf⟩
section
variable {X : Cx} {pins : List (Addr × Obj)} {σ : St} {H : Hp} {s : Shared} {E : Value → Shared → Prop}
theorem Inv.wish (I : Inv X pins σ H s) (E : Value → Shared → Prop) : Inv (X.wish E) pins σ H s := ⟨I.ok.wish E, I.os, I.bare, I.base, I.loc, I.cell, I.free, I.freeC, I.pin, I.hok, I.len⟩
theorem Inv.unwish (I : Inv (X.wish E) pins σ H s) : Inv X pins σ H s := ⟨I.ok.unwish, I.os, I.bare, I.base, I.loc, I.cell, I.free, I.freeC, I.pin, I.hok, I.len⟩
theorem SP.unwish {D : Ends} {f : Flow} {s' : Shared} (h : SP (X.wish E) pins D f s') : SP X pins D f s' := by
  cases f with
  | next => obtain ⟨σ', H', I, q⟩ := h; exact ⟨σ', H', I.unwish, q⟩
  | brk => obtain ⟨σ', H', I, q⟩ := h; exact ⟨σ', H', I.unwish, q⟩
  | cont => obtain ⟨σ', H', I, q⟩ := h; exact ⟨σ', H', I.unwish, q⟩
  | ret u => obtain ⟨v, σ', H', I, r, q⟩ := h; exact ⟨v, σ', H', I.unwish, r, q⟩
theorem PSs.nox {st : List Stmt} {t : TS} (h : PSs X.nox st t) : PSs X st t := fun pins s σ H D I hw =>
  wpAny_mono (h pins s σ H D (I.wish _) hw) (fun _ _ q => q.unwish) fun _ _ z => False.elim z
end

/-! ### blocks and small statements -/
section
variable {X : Cx} {st : Stmt} {rest : List Stmt} {t u : TS} {e : Expr} {te : TE} {pos : Pos}
def tNext : TS := fun D σ H => D.nx σ H
def tSeq (t u : TS) : TS := fun D σ H => t { D with nx := u D } σ H
theorem pss_nil : PSs X [] tNext := fun _ _ σ H _ I h => wpAny_execs_nil ⟨σ, H, I, h⟩
theorem pss_cons (h1 : PS X st t) (h2 : PSs X rest u) : PSs X (st :: rest) (tSeq t u) := by
  intro pins s σ H D I h
  refine wpAny_execs_cons (thn (h1 pins s σ H { D with nx := u D } I h) fun f s1 q => ?_)
  cases f with
  | next =>
    obtain ⟨σ', H', I', q⟩ := q
    exact h2 pins s1 σ' H' D I' q
  | ret v => exact q
  | brk => exact q
  | cont => exact q
theorem pss_one (h1 : PS X st t) : PSs X [st] t := by
  intro pins s σ H D I h
  refine wpAny_execs_cons (thn (h1 pins s σ H D I h) fun f s1 q => ?_)
  cases f with
  | next => exact wpAny_execs_nil q
  | ret v => exact q
  | brk => exact q
  | cont => exact q
/-- in a def's body nothing is shown -/
theorem Inv.quiet {pins : List (Addr × Obj)} {σ : St} {H : Hp} {s : Shared} (I : Inv X pins σ H s) : interactive X.env = false := by simp [interactive, I.ok.kind]
/-- an expression whose value is dropped -/
def tDrop (te : TE) : TS := fun D σ H => te σ H fun _ H1 => D.nx σ H1
theorem ps_expr (he : PE X e te) (hs : swapsWith e none pos.line X.env = pure false := by rfl) : PS X (.Expr e pos) (tDrop te) := by
  intro pins s σ H D I h
  exact wpAny_Expr_any (thn (he pins s σ H _ I h) fun v s1 ⟨x, H1, I1, r1, q1⟩ => ⟨σ, H1, I1, q1⟩) I.quiet hs
def tRet (te : TE) : TS := fun D σ H => te σ H D.rt
theorem ps_ret (he : PE X e te) : PS X (.Return (some e) pos) (tRet te) := by
  intro pins s σ H D I h
  exact wpAny_Return_some (thn (he pins s σ H _ I h) fun v s1 ⟨x, H1, I1, r1, q1⟩ => ⟨x, σ, H1, I1, r1, q1⟩)
def tIfS (c : TT) (t u : TS) : TS := fun D σ H => c σ H fun b H1 => if b = true then t D σ H1 else u D σ H1
theorem ps_if {c : Expr} {a b : List Stmt} {tc : TT} (hc : PT X c tc) (ha : PSs X a t) (hb : PSs X b u) : PS X (.If c a b pos) (tIfS tc t u) := by
  intro pins s σ H D I h
  refine wpAny_If (thn (hc pins s σ H _ I h) fun d s1 ⟨H1, I1, q1⟩ => ?_)
  cases d with
  | true => exact ha pins s1 σ H1 D I1 q1
  | false => exact hb pins s1 σ H1 D I1 q1
/-- code that the proof never comes to -/
def tNever : TS := fun _ _ _ => False
theorem ps_never : PS X st tNever := fun _ _ _ _ _ _ h => h.elim
end

/-! ### targets -/
abbrev TG := V → St → Hp → (St → Hp → Prop) → Prop
abbrev TGs := List V → St → Hp → (St → Hp → Prop) → Prop
def PG (X : Cx) (target : Expr) (t : TG) : Prop :=
  ∀ (pins : List (Addr × Obj)) (s : Shared) (σ : St) (H : Hp) (v : V) (u : Value) (Q : St → Hp → Prop), Inv X pins σ H s → RelV v u → t v σ H Q →
    wpAny (model X.prog X.w) X.A (assign target X.env u) (fun _ s' => ∃ σ' H', Inv X pins σ' H' s' ∧ Q σ' H') X.xe s
/-- several targets, one after another -/
def PGs (X : Cx) (ts : List Expr) (t : TGs) : Prop :=
  ∀ (pins : List (Addr × Obj)) (s : Shared) (σ : St) (H : Hp) (vs : List V) (us : List Value) (Q : St → Hp → Prop), Inv X pins σ H s → Vals vs us → t vs σ H Q →
    wpAny (model X.prog X.w) X.A (assignInOrder ((assignEach ts X.env).map (·.2)) us) (fun _ s' => ∃ σ' H', Inv X pins σ' H' s' ∧ Q σ' H') X.xe s
/-- o[i] = v, by values -/
abbrev TSet := V → V → V → Hp → (Hp → Prop) → Prop
def PSet (X : Cx) (t : TSet) : Prop :=
  ∀ (pins : List (Addr × Obj)) (s : Shared) (σ : St) (H : Hp) (o i v : V) (ov iv u : Value) (Q : Hp → Prop), Inv X pins σ H s → RelV o ov → RelV i iv → RelV v u → t o i v H Q →
    wpAny (model X.prog X.w) X.A (setItem ov iv u) (fun _ s' => ∃ H', Inv X pins σ H' s' ∧ Q H') X.xe s
section
variable {X : Cx} {pos : Pos}
def gName (i : Nat) : TG := fun v σ H Q => Q (σ.set i (some v)) H
theorem pg_name {i : Nat} {x : Str} (hN : X.N.Nodup) (hi : X.N[i]? = some x) (hx : Loc X.env.scope x) (hf : X.fn x = true ∨ X.env.scope.names.lookup x = some .local := by first | exact .inl rfl | exact .inr rfl | assumption) : PG X (.Name x pos) (gName i) := by
  intro pins s σ H v u Q I r h
  exact wpAny_assign_Name (store_ok I hN hi hx r (fun s' I' => ⟨_, H, I', h⟩) hf)
def gNil : TGs := fun vs σ H Q => vs = [] ∧ Q σ H
def gCons (t : TG) (u : TGs) : TGs := fun vs σ H Q => ∃ v r, vs = v :: r ∧ t v σ H fun σ' H' => u r σ' H' Q
theorem pgs_nil : PGs X [] gNil := by
  intro pins s σ H vs us Q I r h
  obtain ⟨e, h⟩ := h
  subst e
  cases r
  exact assignInOrder_nil ⟨σ, H, I, h⟩
theorem pgs_cons {e : Expr} {es : List Expr} {t : TG} {u : TGs} (h1 : PG X e t) (h2 : PGs X es u)
    (hs : (assignEach (e :: es) X.env).map (·.2) = assign e X.env :: (assignEach es X.env).map (·.2) := by rfl) : PGs X (e :: es) (gCons t u) := by
  intro pins s σ H vs us Q I r h
  obtain ⟨v, vr, e1, h⟩ := h
  subst e1
  cases r with
  | cons r rr =>
    rw [hs]
    refine assignInOrder_cons (thn (h1 pins s σ H _ _ _ I r h) fun _ s1 ⟨σ1, H1, I1, q1⟩ => ?_)
    exact h2 pins s1 σ1 H1 _ _ Q I1 rr q1
/-- (a, b, ..) = a tuple of that length -/
def gTup (K : PySem.W.Frag) (n : Nat) (t : TGs) : TG := fun v σ H Q => ∃ a xs, v = .ref a ∧ SqT K H a xs ∧ xs.length = n ∧ t xs σ H Q
theorem pg_tup {es : List Expr} {k : Nat} {t : TGs} {n : Nat} (hc : X.calm = true) (h : PGs X es t)
    (hn : (assignEach es X.env).length = n := by rfl) (hst : (assignEach es X.env).findIdx? (·.1) = none := by rfl) : PG X (.Tuple es k pos) (gTup X.K n t) := by
  intro pins s σ H v u Q I r hw
  obtain ⟨a, xs, e1, hq, hl, hw⟩ := hw
  subst e1
  cases r
  obtain ⟨its, rv, ht, hz⟩ := I.tuple hq
  refine assign_Tuple_tuple (I.ok.hd hc) ht (by simp [hn, ← hl, rv.length]) hst fun h' hx => ?_
  have I1 : Inv X pins σ H { s with heap := h' } := I.kept (t' := s.toks) fun b o e => hx b o (Nat.ne_of_lt (Heap.lt_size e)) e
  exact h pins _ σ H xs _ Q I1 (by simpa using rv) hw
/-- o[i] = .. -/
def gSub (to ti : TE) (t : TSet) : TG := fun v σ H Q => to σ H fun o H1 => ti σ H1 fun i H2 => t o i v H2 fun H3 => Q σ H3
theorem pg_sub {o i : Expr} {to ti : TE} {t : TSet} (ho : PE X o to) (hi : PE X i ti) (hs : PSet X t)
    (ha : ∀ v, assign (.Subscript o i pos) X.env v = (do
      let ov ← holding [v] (eval o X.env)
      let iv ← holding [v, ov] (eval i X.env)
      standAt pos
      holding [v, ov, iv] (setItem ov iv v)
      release [v, ov, iv] []) := by intro _; rfl) : PG X (.Subscript o i pos) (gSub to ti t) := by
  intro pins s σ H v u Q I r h
  rw [ha]
  refine wpAny_bind (wpAny_holding (thn (ho pins s σ H _ I h) fun ov s1 ⟨x, H1, I1, r1, q1⟩ => ?_))
  refine wpAny_bind (wpAny_holding (thn (hi pins s1 σ H1 _ I1 q1) fun iv s2 ⟨y, H2, I2, r2, q2⟩ => ?_))
  refine wpAny_bind (wpAny_standAt (wpAny_bind (wpAny_holding (thn (hs pins s2 σ H2 x y v ov iv u _ I2 r1 r2 r q2) fun _ s3 ⟨H3, I3, q3⟩ => ?_))))
  exact wpAny_release ⟨σ, H3, I3, q3⟩
/-- target = value -/
def tAsg (te : TE) (g : TG) : TS := fun D σ H => te σ H fun x H1 => g x σ H1 D.nx
theorem ps_asg {tg e : Expr} {te : TE} {g : TG} (he : PE X e te) (hg : PG X tg g) (hs : swapsWithSole [tg] e pos.line X.env = pure false := by rfl) (hw : swappedStores [tg] e X.env = pure none := by rfl)
    (h1 : (assignEach [tg] X.env).map (·.2) = [assign tg X.env] := by rfl) : PS X (.Assign [tg] e pos) (tAsg te g) := by
  intro pins s σ H D I h
  refine wpAny_Assign_stores (thn (he pins s σ H _ I h) fun v s1 ⟨x, H1, I1, r1, q1⟩ => ?_) hs hw
  rw [h1]
  exact thn (hg pins s1 σ H1 x v _ I1 r1 q1) fun _ s2 q => q
/-- name = value -/
theorem ps_set {i : Nat} {x : Str} {e : Expr} {te : TE} {pos' : Pos} (hN : X.N.Nodup) (hi : X.N[i]? = some x) (hx : Loc X.env.scope x) (he : PE X e te) (hs : swapsWith e (some (.Name x pos')) pos.line X.env = pure false := by rfl) (hf : X.fn x = true ∨ X.env.scope.names.lookup x = some .local := by first | exact .inl rfl | exact .inr rfl | assumption) :
    PS X (.Assign [.Name x pos'] e pos) (tAsg te (gName i)) := by
  intro pins s σ H D I h
  refine wpAny_Assign_Name (thn (he pins s σ H _ I h) fun v s1 ⟨y, H1, I1, r1, q1⟩ => ?_) hs
  exact store_ok I1 hN hi hx r1 (fun s2 I2 => ⟨_, H1, I2, q1⟩) hf
end

/-! ### while -/
section
variable {X : Cx} {pos : Pos}
end

/-! ### what a loop or a comprehension walks -/
/-- at turn i: it yields x (the heap may grow), or it stops -/
structure It where
  go : Nat → Hp → Prop
  yld : Nat → Hp → V → Hp → Prop
  stop : Nat → Hp → Prop
/-- the iterator's own objects may turn: they are not the frame's, not pinned, younger than the entry (or a comprehension's own) -/
def FpOk (X : Cx) (pins : List (Addr × Obj)) (H : Hp) (b : Addr) : Prop :=
  H b = none ∧ b ≠ X.env.locals ∧ b ∉ X.fs ∧ (b ∈ X.ex ∨ X.s₀.heap.objs.size ≤ b) ∧ (∀ x c, X.env.cells.lookup x = some c → c ≠ b) ∧ ∀ p ∈ X.pn ++ pins, p.1 ≠ b
theorem Inv.fpOk {X : Cx} {pins : List (Addr × Obj)} {σ : St} {H H' : Hp} {s : Shared} {b : Addr} (I : Inv X pins σ H s) (hb : s.heap.objs.size ≤ b) (hn : H' b = none) : FpOk X pins H' b := by
  refine ⟨hn, Nat.ne_of_gt (Nat.lt_of_lt_of_le I.lt hb), I.nofs hb, .inr (Nat.le_trans I.sz hb), fun x c e z => ?_, fun p hp z => ?_⟩
  · obtain ⟨v, q⟩ := I.cell x c e
    exact absurd (Nat.lt_of_lt_of_le q.lt (by rw [z]; exact hb)) (Nat.lt_irrefl _)
  · exact absurd (Nat.lt_of_lt_of_le (Heap.lt_size (I.pin p hp).1) (by rw [z]; exact hb)) (Nat.lt_irrefl _)
structure Turn (P : Program) (w : World) (K : PySem.W.Frag) (tg : Expr) (J : It) (fp : List Addr) (it : Addr) (tn : Nat → Heap → Prop) : Prop where
  mem : it ∈ fp
  obj : ∀ i h, tn i h → ∀ b ∈ fp, ∃ o, h.get? b = some o ∧ ∀ v, o.data ≠ .cell v
  keep : ∀ i h h', tn i h → (∀ b ∈ fp, ∀ o, h.get? b = some o → h'.get? b = some o) → tn i h'
  item : ∀ (X : Cx), X.prog = P → X.w = w → X.K = K → X.calm = true → ∀ (i : Nat) (pins : List (Addr × Obj)) (s : Shared) (σ : St) (H : Hp) (E : Value → Shared → Prop), Inv X pins σ H s → (∀ b ∈ fp, FpOk X pins H b) → tn i s.heap → J.go i H →
    wpAny (model P w) X.A (pyNext (.ref it)) (fun r s1 => ∃ u, r = some u ∧
      wpAny (model P w) X.A (letOwnedTupleGo tg (.ref it) u) (fun _ s2 => ∃ x H', Inv X pins σ H' s2 ∧ RelV x u ∧ J.yld i H x H' ∧ tn (i + 1) s2.heap ∧ ∀ b ∈ fp, H' b = none) E s1) E s
  done : ∀ (X : Cx), X.prog = P → X.w = w → X.K = K → X.calm = true → ∀ (i : Nat) (pins : List (Addr × Obj)) (s : Shared) (σ : St) (H : Hp) (E : Value → Shared → Prop), Inv X pins σ H s → (∀ b ∈ fp, FpOk X pins H b) → tn i s.heap → J.stop i H →
    wpAny (model P w) X.A (pyNext (.ref it)) (fun r s1 => r = none ∧ Inv X pins σ H s1) E s
  self : ∀ (A : Around) (i : Nat) (s : Shared) (Q : Value → Shared → Prop) (E : Value → Shared → Prop), tn i s.heap → Q (.ref it) s → wpAny (model P w) A (pyIter (.ref it)) Q E s
abbrev TI := St → Hp → (It → Hp → Prop) → Prop
/-- an iterator has come -/
def PIE (X : Cx) (pins : List (Addr × Obj)) (σ : St) (tg : Expr) (R : It → Hp → Prop) (itv : Value) (s2 : Shared) : Prop :=
  ∃ (it : Addr) (fp : List Addr) (tn : Nat → Heap → Prop) (J : It) (H' : Hp), itv = .ref it ∧ Inv X pins σ H' s2 ∧ Turn X.prog X.w X.K tg J fp it tn ∧ tn 0 s2.heap ∧ (∀ b ∈ fp, FpOk X pins H' b) ∧ R J H'
def PI (X : Cx) (tg iter : Expr) (wi : TI) : Prop :=
  ∀ (pins : List (Addr × Obj)) (s : Shared) (σ : St) (H : Hp) (R : It → Hp → Prop), Inv X pins σ H s → wi σ H R →
    wpAny (model X.prog X.w) X.A (eval iter X.env) (fun v s1 => wpAny (model X.prog X.w) X.A (pyIter v) (PIE X pins σ tg R) X.xe s1) X.xe s

/-- the step ahead of the store is nothing for an iterator that keeps no tuple -/
theorem go_of {M : Model} {A : Around} {E : Value → Shared → Prop} {s : Shared} {tg : Expr} {it : Addr} {u : Value} {o : Obj} {n : String} {vs : Array Value} {Q : Unit → Shared → Prop} (ho : s.heap.get? it = some o) (hc : o.cls = .type n) (hd : o.data = .fields vs)
    (hn : ["enumerate", "zip", "dict_itemiterator", "dict_reverseitemiterator", "odict_iterator", "itertools.zip_longest", "itertools.pairwise"].contains n = false) (hQ : Q () s) : wpAny M A (letOwnedTupleGo tg (.ref it) u) Q E s := by
  unfold letOwnedTupleGo
  cases tg <;> first
    | exact wpAny_pure hQ
    | (cases u <;> first
        | exact wpAny_pure hQ
        | (refine wpAny_bind (wpAny_load ho ?_)
           rw [hc, hd]
           show wpAny M A (if (["enumerate", "zip", "dict_itemiterator", "dict_reverseitemiterator", "odict_iterator", "itertools.zip_longest", "itertools.pairwise"].contains n && vs[0]? == some (rawInt _)) = true then _ else _) Q E s
           rw [if_neg (by intro h; rw [hn, Bool.false_and] at h; cases h)]
           exact wpAny_pure hQ))

/-- the list at a, as it stands at each turn (a loop may append to it) -/
def Itl (K : PySem.W.Frag) (a : Addr) : It :=
  ⟨fun i H => ∃ xs x, SqL K H a xs ∧ xs[i]? = some x, fun i H x H' => H' = H ∧ ∀ xs, SqL K H a xs → xs[i]? = some x, fun i H => ∃ xs, SqL K H a xs ∧ xs.length ≤ i⟩
def Itt (K : PySem.W.Frag) (a : Addr) : It :=
  ⟨fun i H => ∃ xs x, SqT K H a xs ∧ xs[i]? = some x, fun i H x H' => H' = H ∧ ∀ xs, SqT K H a xs → xs[i]? = some x, fun i H => ∃ xs, SqT K H a xs ∧ xs.length ≤ i⟩
/-- lo, lo + 1, .. (n of them) -/
def Itr (lo : Int) (n : Nat) : It := ⟨fun i _ => i < n, fun i H x H' => H' = H ∧ x = .int (lo + i), fun i _ => n ≤ i⟩
theorem turn_list {P : Program} {w : World} {K : PySem.W.Frag} {tg : Expr} (a it : Addr) : Turn P w K tg (Itl K a) [it] it (fun i h => h.IsListIter it a i) where
  mem := by simp
  obj := fun i h st b hb => by
    have e : b = it := by simpa using hb
    subst e
    obtain ⟨o, e, c, d⟩ := st
    exact ⟨o, e, fun v z => by rw [d] at z; cases z⟩
  keep := fun i h h' st k => st.at fun o e => k it (by simp) o e
  item := by
    intro X hP hw hK hc i pins s σ H E I hf st hg
    subst hP hw hK
    obtain ⟨xs, x, hq, hx⟩ := hg
    obtain ⟨its, rv, p, hz⟩ := I.list hq
    obtain ⟨u, hu, ru⟩ := rv.get hx
    obtain ⟨f0, f1, f2, f3, f4, f5⟩ := hf it (by simp)
    refine wpAny_pyNext_list_item st p.isList (x := u) (by simpa using hu) fun h' st' sb => ?_
    have I1 : Inv X pins σ H { s with heap := h' } := I.turned (t' := s.toks) (fun b o hb e => (sb.2 b hb).trans e) f0 f1 f3 f4 f5
    obtain ⟨o, e, c, d⟩ := id st'
    exact ⟨u, rfl, go_of (s := { s with heap := h' }) e c d (by decide) ⟨x, H, I1, ru, ⟨rfl, fun ys hy => by rw [I.list_inj hy hq]; exact hx⟩, st', fun b hb => (hf b hb).1⟩⟩
  done := by
    intro X hP hw hK hc i pins s σ H E I hf st hg
    subst hP hw hK
    obtain ⟨xs, hq, hx⟩ := hg
    obtain ⟨its, rv, p, hz⟩ := I.list hq
    obtain ⟨f0, f1, f2, f3, f4, f5⟩ := hf it (by simp)
    have hl := rv.length
    exact wpAny_pyNext_list_end (I.ok.hd hc) st p.isList (by simp; omega) fun h' eb => ⟨rfl, I.turned (t' := s.toks) (fun b o hb e => eb b o hb e) f0 f1 f3 f4 f5⟩
  self := fun _ _ _ _ _ st h => wpAny_pyIter_listiter st h
theorem turn_tuple {P : Program} {w : World} {K : PySem.W.Frag} {tg : Expr} (a it : Addr) : Turn P w K tg (Itt K a) [it] it (fun i h => h.IsTupleIter it a i) where
  mem := by simp
  obj := fun i h st b hb => by
    have e : b = it := by simpa using hb
    subst e
    obtain ⟨o, e, c, d⟩ := st
    exact ⟨o, e, fun v z => by rw [d] at z; cases z⟩
  keep := fun i h h' st k => st.at fun o e => k it (by simp) o e
  item := by
    intro X hP hw hK hc i pins s σ H E I hf st hg
    subst hP hw hK
    obtain ⟨xs, x, hq, hx⟩ := hg
    obtain ⟨its, rv, p, hz⟩ := I.tuple hq
    obtain ⟨u, hu, ru⟩ := rv.get hx
    obtain ⟨f0, f1, f2, f3, f4, f5⟩ := hf it (by simp)
    refine wpAny_pyNext_tuple_item st (show s.heap.IsTuple a its.toArray from p) (x := u) (by simpa using hu) fun h' st' sb => ?_
    have I1 : Inv X pins σ H { s with heap := h' } := I.turned (t' := s.toks) (fun b o hb e => (sb.2 b hb).trans e) f0 f1 f3 f4 f5
    obtain ⟨o, e, c, d⟩ := id st'
    exact ⟨u, rfl, go_of (s := { s with heap := h' }) e c d (by decide) ⟨x, H, I1, ru, ⟨rfl, fun ys hy => by rw [I.tuple_inj hy hq]; exact hx⟩, st', fun b hb => (hf b hb).1⟩⟩
  done := by
    intro X hP hw hK hc i pins s σ H E I hf st hg
    subst hP hw hK
    obtain ⟨xs, hq, hx⟩ := hg
    obtain ⟨its, rv, p, hz⟩ := I.tuple hq
    obtain ⟨f0, f1, f2, f3, f4, f5⟩ := hf it (by simp)
    have hl := rv.length
    exact wpAny_pyNext_tuple_end (I.ok.hd hc) st (show s.heap.IsTuple a its.toArray from p) (by simp; omega) fun h' eb => ⟨rfl, I.turned (t' := s.toks) (fun b o hb e => eb b o hb e) f0 f1 f3 f4 f5⟩
  self := fun _ _ _ _ _ st h => wpAny_pyIter_tupleiter st h
theorem turn_range {P : Program} {w : World} {K : PySem.W.Frag} {tg : Expr} (it : Addr) (lo : Int) (n : Nat) : Turn P w K tg (Itr lo n) [it] it (fun i h => IsRangeIter h it (lo + (i : Nat) * 1) ((n : Int) - (i : Nat)) 1) where
  mem := by simp
  obj := fun i h st b hb => by
    have e : b = it := by simpa using hb
    subst e
    exact ⟨_, st, fun v z => by
      have z' : Data.fields _ = Data.cell v := z
      cases z'⟩
  keep := fun i h h' st k => k it (by simp) _ st
  item := by
    intro X hP hw hK hc i pins s σ H E I hf st hg
    subst hP hw hK
    obtain ⟨f0, f1, f2, f3, f4, f5⟩ := hf it (by simp)
    have W := Walks.range (prog := X.prog) (w := X.w) (I.ok.hd hc) it lo 1 n
    refine W.item i s _ _ hg st fun v h' tk hv st' kk => ?_
    obtain ⟨t, rfl⟩ := hv
    have I1 : Inv X pins σ H { s with heap := h', toks := tk } := I.turned (fun b o hb e => kk b o (by simpa using hb) e) f0 f1 f3 f4 f5
    refine ⟨_, rfl, go_of (s := { s with heap := h', toks := tk }) (n := "range_iterator") st' rfl rfl (by decide) ⟨.int (lo + i), H, I1, ⟨t, ?_⟩, ⟨rfl, rfl⟩, st', fun b hb => (hf b hb).1⟩⟩
    rw [Int.mul_one]
  done := by
    intro X hP hw hK hc i pins s σ H E I hf st hg
    subst hP hw hK
    obtain ⟨f0, f1, f2, f3, f4, f5⟩ := hf it (by simp)
    exact wpAny_pyNext_range_end (I.ok.hd hc) st (by have : n ≤ i := hg; omega) fun h' eb => ⟨rfl, I.turned (t' := s.toks) (fun b o hb e => eb b o hb e) f0 f1 f3 f4 f5⟩
  self := fun _ _ _ _ _ st h => wpAny_pyIter_rangeiter st h
end L2

namespace L2
open PySem PySem.Spec PyProof.Rows
section
variable {X : Cx} {tg : Expr}
def iList (K : PySem.W.Frag) (tl : TE) : TI := fun σ H R => tl σ H fun x H1 => ∃ a, x = .ref a ∧ (∃ xs, SqL K H1 a xs) ∧ R (Itl K a) H1
def iTup (K : PySem.W.Frag) (tl : TE) : TI := fun σ H R => tl σ H fun x H1 => ∃ a, x = .ref a ∧ (∃ xs, SqT K H1 a xs) ∧ R (Itt K a) H1
theorem pi_list {l : Expr} {tl : TE} (hl : PE X l tl) : PI X tg l (iList X.K tl) := by
  intro pins s σ H R I h
  refine thn (hl pins s σ H _ I h) fun v s1 ⟨x, H1, I1, r1, q1⟩ => ?_
  obtain ⟨a, e, ⟨xs, hq⟩, q⟩ := q1
  subst e
  cases r1
  obtain ⟨its, rv, p, hz⟩ := I1.list hq
  refine wpAny_pyIter_list p.isList ?_
  refine ⟨s1.heap.objs.size, [s1.heap.objs.size], _, _, H1, rfl, I1.kept (t' := s1.toks) fun b o e => Heap.get?_push_of_some _ e, turn_list a _, ⟨_, Heap.get?_push_size _ rfl, rfl, rfl⟩, fun b hb => ?_, q⟩
  have e : b = s1.heap.objs.size := by simpa using hb
  subst e
  exact I1.fpOk (Nat.le_refl _) (I1.hok.fresh (Nat.le_refl _))
theorem pi_tup {l : Expr} {tl : TE} (hl : PE X l tl) : PI X tg l (iTup X.K tl) := by
  intro pins s σ H R I h
  refine thn (hl pins s σ H _ I h) fun v s1 ⟨x, H1, I1, r1, q1⟩ => ?_
  obtain ⟨a, e, ⟨xs, hq⟩, q⟩ := q1
  subst e
  cases r1
  obtain ⟨its, rv, p, hz⟩ := I1.tuple hq
  refine wpAny_pyIter_tuple (show s1.heap.IsTuple a its.toArray from p) ?_
  refine ⟨s1.heap.objs.size, [s1.heap.objs.size], _, _, H1, rfl, I1.kept (t' := s1.toks) fun b o e => Heap.get?_push_of_some _ e, turn_tuple a _, ⟨_, Heap.get?_push_size _ rfl, rfl, rfl⟩, fun b hb => ?_, q⟩
  have e : b = s1.heap.objs.size := by simpa using hb
  subst e
  exact I1.fpOk (Nat.le_refl _) (I1.hok.fresh (Nat.le_refl _))
/-- a range object just made, walked -/
theorem range_it {pins : List (Addr × Obj)} {σ : St} {H : Hp} {s : Shared} {R : It → Hp → Prop} {E : Value → Shared → Prop} {lo hi : Int} {t u v : Tok} {tk : Nat} (I : Inv X pins σ H s) (h1 : -(2 ^ 62) ≤ lo) (h2 : lo < 2 ^ 62) (h3 : -(2 ^ 62) ≤ hi) (h4 : hi < 2 ^ 62)
    (q : R (Itr lo (hi - lo).toNat) H) : wpAny (model X.prog X.w) X.A (pyIter (.ref s.heap.objs.size)) (PIE X pins σ tg R) E { s with heap := s.heap.push { cls := .type "range", data := .fields #[.int lo t, .int hi u, .int 1 v] }, toks := tk } := by
  refine wpAny_pyIter_range (IsRange.new ..) (small_one h1 h2 h3 h4) ?_
  have I1 : Inv X pins σ H { s with heap := s.heap.push { cls := .type "range", data := .fields #[.int lo t, .int hi u, .int 1 v] }, toks := tk } := I.kept fun b o e => Heap.get?_push_of_some _ e
  refine ⟨(s.heap.push { cls := .type "range", data := .fields #[.int lo t, .int hi u, .int 1 v] }).objs.size, [(s.heap.push { cls := .type "range", data := .fields #[.int lo t, .int hi u, .int 1 v] }).objs.size], _, _, H, rfl,
    I1.kept (t' := tk) fun b o e => Heap.get?_push_of_some _ e, turn_range _ lo (hi - lo).toNat, ?_, fun b hb => ?_, q⟩
  · have e1 : lo + ((0 : Nat) : Int) * 1 = lo := by simp
    have e2 : (((hi - lo).toNat : Nat) : Int) - ((0 : Nat) : Int) = Builtin.Range.rangeSize lo hi 1 := by rw [rangeSize_one]; split <;> omega
    show IsRangeIter _ _ (lo + ((0 : Nat) : Int) * 1) ((((hi - lo).toNat : Nat) : Int) - ((0 : Nat) : Int)) 1
    rw [e1, e2]
    exact Heap.get?_push_size _ rfl
  · have e : b = (s.heap.push { cls := .type "range", data := .fields #[.int lo t, .int hi u, .int 1 v] }).objs.size := by simpa using hb
    subst e
    exact I1.fpOk (Nat.le_refl _) (I1.hok.fresh (Nat.le_refl _))
def iRng1 (ta : TA) : TI := fun σ H R => ta σ H fun vs H1 => ∃ j : Int, vs = [.int j] ∧ -(2 ^ 62) ≤ j ∧ j < 2 ^ 62 ∧ R (Itr 0 j.toNat) H1
def iRng2 (ta : TA) : TI := fun σ H R => ta σ H fun vs H1 => ∃ i j : Int, vs = [.int i, .int j] ∧ (-(2 ^ 62) ≤ i ∧ i < 2 ^ 62 ∧ -(2 ^ 62) ≤ j ∧ j < 2 ^ 62) ∧ R (Itr i (j - i).toNat) H1
theorem pi_range1 {a : Expr} {ta : TA} {p pos : Pos} (hg : Gl X "range") (hm : X.mg "range" = none) (ha : PA X [a] ta) (hs : starEach [a] X.env = [(false, eval a X.env)] := by rfl) : PI X tg (.Call (.Name "range" p) [a] [] pos) (iRng1 ta) := by
  intro pins s σ H R I h
  refine Call_ (ld_blt I hg hm boot_range (PyProof.Rows.callWith_type1 (thn (ha pos pins s σ H _ I h) fun us s1 ⟨vs, H1, I1, r1, q1⟩ => ?_) hs rfl))
  obtain ⟨j, e, q1, q2, q⟩ := q1
  subst e
  cases r1 with
  | cons r rr =>
    cases rr
    obtain ⟨t, rfl⟩ := r
    exact call_range_1 (range_it I1 (by omega) (by omega) q1 q2 (by simpa using q))
theorem pi_range2 {a b : Expr} {ta : TA} {p pos : Pos} (hg : Gl X "range") (hm : X.mg "range" = none) (ha : PA X [a, b] ta) (hs : starEach [a, b] X.env = [(false, eval a X.env), (false, eval b X.env)] := by rfl) (hs2 : starEach [b] X.env = [(false, eval b X.env)] := by rfl) :
    PI X tg (.Call (.Name "range" p) [a, b] [] pos) (iRng2 ta) := by
  intro pins s σ H R I h
  refine Call_ (ld_blt I hg hm boot_range (PyProof.Rows.callWith_type1 (thn (ha pos pins s σ H _ I h) fun us s1 ⟨vs, H1, I1, r1, q1⟩ => ?_) (by rw [hs, hs2]) (by rw [hs2]; rfl)))
  obtain ⟨i, j, e, ⟨q1, q2, q3, q4⟩, q⟩ := q1
  subst e
  cases r1 with
  | cons r rr =>
    cases rr with
    | cons r' rr =>
      cases rr
      obtain ⟨t, rfl⟩ := r
      obtain ⟨t', rfl⟩ := r'
      exact call_range_2 (range_it I1 q1 q2 q3 q4 q)

/-! ### for -/
/-- W: the invariant by the turn and a measure; N: what the body is to reach -/
def tFor (wi : TI) (g : TG) (tb : TS) : TS := fun D σ H => wi σ H fun J H1 => ∃ W : Nat → Nat → St → Hp → Prop, (∃ m, W 0 m σ H1) ∧ ∀ i m σ H, W i m σ H →
  (J.stop i H ∧ D.nx σ H) ∨ (J.go i H ∧ ∃ N : St → Hp → Prop, (∀ σ' H', N σ' H' → ∃ m', m' < m ∧ W (i + 1) m' σ' H') ∧ ∀ x H', J.yld i H x H' → g x σ H' fun σ2 H2 => tb { D with nx := N, ct := N, bk := D.nx } σ2 H2)
/-- the records at fp as they stand -/
def pinsAt (fp : List Addr) (h : Heap) : List (Addr × Obj) := fp.filterMap fun b => (h.get? b).map fun o => (b, o)
theorem mem_pinsAt {fp : List Addr} {h : Heap} {b : Addr} {o : Obj} (hb : b ∈ fp) (e : h.get? b = some o) : (b, o) ∈ pinsAt fp h := List.mem_filterMap.mpr ⟨b, hb, by rw [e]; rfl⟩
theorem of_pinsAt {fp : List Addr} {h : Heap} {p : Addr × Obj} (hp : p ∈ pinsAt fp h) : p.1 ∈ fp ∧ h.get? p.1 = some p.2 := by
  obtain ⟨b, hb, e⟩ := List.mem_filterMap.mp hp
  cases q : h.get? b with
  | none => rw [q] at e; cases e
  | some o =>
    rw [q] at e
    have e' : (b, o) = p := Option.some.inj e
    subst e'
    exact ⟨hb, q⟩
theorem Inv.pinned {pins : List (Addr × Obj)} {σ : St} {H : Hp} {s : Shared} {fp : List Addr} (I : Inv X pins σ H s) (hf : ∀ b ∈ fp, FpOk X pins H b) (ho : ∀ b ∈ fp, ∃ o, s.heap.get? b = some o ∧ ∀ v, o.data ≠ .cell v) : Inv X (pins ++ pinsAt fp s.heap) σ H s :=
  I.pins_of fun p hp => (List.mem_append.mp hp).elim (fun z => I.pin p (List.mem_append_right _ z)) fun z => by
    obtain ⟨hb, e⟩ := of_pinsAt z
    obtain ⟨f0, f1, f2, _⟩ := hf p.1 hb
    obtain ⟨o, e', d⟩ := ho p.1 hb
    rw [e] at e'; cases e'
    exact ⟨e, f0, f1, f2, d⟩
theorem Inv.unpinned {pins pl : List (Addr × Obj)} {σ : St} {H : Hp} {s : Shared} (I : Inv X (pins ++ pl) σ H s) : Inv X pins σ H s := I.pins_of fun p hp => I.pin p (List.mem_append_right _ (List.mem_append_left _ hp))
theorem ps_for {iter : Expr} {body : List Stmt} {wi : TI} {g : TG} {tb : TS} {pos : Pos} (hp : PassesOwn (model X.prog X.w) X.A X.env X.xe) (hc : X.calm = true) (hi : PI X tg iter wi) (hg : PG X tg g) (hb : PSs X body tb)
    (hs : ∀ x, foldedSetIterable iter X.env x = pure x := by intro _; rfl) : PS X (.For tg iter body [] pos) (tFor wi g tb) := by
  intro pins s σ H D I h
  refine wpAny_For (thn (hi pins s σ H _ I h) fun v s1 h1 => thn h1 fun itv s2 h2 => ?_) hs
  obtain ⟨it, fp, tn, J, H2, e, I2, T, st2, f2, W, ⟨m0, w0⟩, turn⟩ := h2
  subst e
  -- what stays true of the iterator's objects through the loop
  have stat : ∀ {H' : Hp}, (∀ b ∈ fp, H' b = none) → ∀ b ∈ fp, FpOk X pins H' b := fun hn b hb => ⟨hn b hb, (f2 b hb).2⟩
  refine codeAny_forLoop_any (fun n s' => ∃ i σ' H', Inv X pins σ' H' s' ∧ tn i s'.heap ∧ (∀ b ∈ fp, H' b = none) ∧ W i n σ' H') ?_ m0 ⟨0, σ, H2, I2, st2, fun b hb => (f2 b hb).1, w0⟩
  rintro n s3 ⟨i, σ3, H3, I3, st3, fr3, w3⟩
  rcases turn i n σ3 H3 w3 with ⟨stop, qn⟩ | ⟨go, N, hN, step⟩
  · refine wpAny_passesOwn hp (thn (T.done X rfl rfl rfl hc i pins s3 σ3 H3 X.xe I3 (stat fr3) st3 stop) fun r s4 ⟨hr, I4⟩ => ?_)
    subst hr
    exact wpAny_execs_nil ⟨σ3, H3, I4, qn⟩
  · refine wpAny_passesOwn hp (thn (T.item X rfl rfl rfl hc i pins s3 σ3 H3 X.xe I3 (stat fr3) st3 go) fun r s4 ⟨u, hr, h4⟩ => ?_)
    subst hr
    refine wpAny_passesOwn hp (thn h4 fun _ s5 ⟨x, H5, I5, r5, y5, st5, fr5⟩ => ?_)
    have I5' := I5.pinned (stat fr5) (T.obj _ _ st5)
    refine wpAny_passesOwn hp (thn (hg _ s5 σ3 H5 x u _ I5' r5 (step x H5 y5)) fun _ s6 ⟨σ6, H6, I6, q6⟩ => ?_)
    refine wpAny_passesOwn hp (thn (hb _ s6 σ6 H6 _ I6 q6) fun f s7 q7 => ?_)
    have again : ∀ {σ7 : St} {H7 : Hp}, Inv X (pins ++ pinsAt fp s5.heap) σ7 H7 s7 → N σ7 H7 → ∃ m, m < n ∧ ∃ i σ' H', Inv X pins σ' H' s7 ∧ tn i s7.heap ∧ (∀ b ∈ fp, H' b = none) ∧ W i m σ' H' := fun {σ7 H7} I7 n7 => by
      obtain ⟨m', hm, w7⟩ := hN σ7 H7 n7
      refine ⟨m', hm, i + 1, σ7, H7, I7.unpinned, T.keep _ _ _ st5 fun b hb o e => (I7.pin (b, o) (List.mem_append_right _ (List.mem_append_right _ (mem_pinsAt hb e)))).1, fun b hb => ?_, w7⟩
      obtain ⟨o, e, d⟩ := T.obj _ _ st5 b hb
      exact (I7.pin (b, o) (List.mem_append_right _ (List.mem_append_right _ (mem_pinsAt hb e)))).2.1
    cases f with
    | next => obtain ⟨σ7, H7, I7, n7⟩ := q7; exact again I7 n7
    | cont => obtain ⟨σ7, H7, I7, n7⟩ := q7; exact again I7 n7
    | brk => obtain ⟨σ7, H7, I7, q7⟩ := q7; exact ⟨σ7, H7, I7.unpinned, q7⟩
    | ret v => obtain ⟨x7, σ7, H7, I7, r7, q7⟩ := q7; exact ⟨x7, σ7, H7, I7.unpinned, r7, q7⟩
end

/-! ### the forms one uses -/
/-- over a list that the body leaves as it is -/
theorem for_list {K : PySem.W.Frag} {a : Addr} {xs : List V} {g : TG} {tb : TS} {D : Ends} {σ : St} {H : Hp} (Pv : Nat → St → Hp → Prop) (h0 : Pv 0 σ H) (hl : ∀ i σ H, i ≤ xs.length → Pv i σ H → SqL K H a xs)
    (hs : ∀ i x σ H, xs[i]? = some x → Pv i σ H → g x σ H fun σ2 H2 => tb { D with nx := Pv (i + 1), ct := Pv (i + 1), bk := D.nx } σ2 H2) (hd : ∀ σ H, Pv xs.length σ H → D.nx σ H) :
    ∃ W : Nat → Nat → St → Hp → Prop, (∃ m, W 0 m σ H) ∧ ∀ i m σ H, W i m σ H →
      ((Itl K a).stop i H ∧ D.nx σ H) ∨ ((Itl K a).go i H ∧ ∃ N : St → Hp → Prop, (∀ σ' H', N σ' H' → ∃ m', m' < m ∧ W (i + 1) m' σ' H') ∧ ∀ x H', (Itl K a).yld i H x H' → g x σ H' fun σ2 H2 => tb { D with nx := N, ct := N, bk := D.nx } σ2 H2) := by
  refine ⟨fun i m σ H => m = xs.length - i ∧ i ≤ xs.length ∧ Pv i σ H, ⟨xs.length, by simp, Nat.zero_le _, h0⟩, ?_⟩
  rintro i m σ H ⟨rfl, hi, p⟩
  have q := hl i σ H hi p
  by_cases hlt : i < xs.length
  · refine .inr ⟨⟨xs, xs[i], q, by simp [hlt]⟩, Pv (i + 1), fun σ' H' p' => ⟨xs.length - (i + 1), by omega, rfl, hlt, p'⟩, fun x H' y => ?_⟩
    obtain ⟨e, y⟩ := y
    subst e
    exact hs i x σ _ (y xs q) p
  · have e : i = xs.length := by omega
    subst e
    exact .inl ⟨⟨xs, q, Nat.le_refl _⟩, hd σ H p⟩
theorem for_tup {K : PySem.W.Frag} {a : Addr} {xs : List V} {g : TG} {tb : TS} {D : Ends} {σ : St} {H : Hp} (Pv : Nat → St → Hp → Prop) (h0 : Pv 0 σ H) (hl : ∀ i σ H, i ≤ xs.length → Pv i σ H → SqT K H a xs)
    (hs : ∀ i x σ H, xs[i]? = some x → Pv i σ H → g x σ H fun σ2 H2 => tb { D with nx := Pv (i + 1), ct := Pv (i + 1), bk := D.nx } σ2 H2) (hd : ∀ σ H, Pv xs.length σ H → D.nx σ H) :
    ∃ W : Nat → Nat → St → Hp → Prop, (∃ m, W 0 m σ H) ∧ ∀ i m σ H, W i m σ H →
      ((Itt K a).stop i H ∧ D.nx σ H) ∨ ((Itt K a).go i H ∧ ∃ N : St → Hp → Prop, (∀ σ' H', N σ' H' → ∃ m', m' < m ∧ W (i + 1) m' σ' H') ∧ ∀ x H', (Itt K a).yld i H x H' → g x σ H' fun σ2 H2 => tb { D with nx := N, ct := N, bk := D.nx } σ2 H2) := by
  refine ⟨fun i m σ H => m = xs.length - i ∧ i ≤ xs.length ∧ Pv i σ H, ⟨xs.length, by simp, Nat.zero_le _, h0⟩, ?_⟩
  rintro i m σ H ⟨rfl, hi, p⟩
  have q := hl i σ H hi p
  by_cases hlt : i < xs.length
  · refine .inr ⟨⟨xs, xs[i], q, by simp [hlt]⟩, Pv (i + 1), fun σ' H' p' => ⟨xs.length - (i + 1), by omega, rfl, hlt, p'⟩, fun x H' y => ?_⟩
    obtain ⟨e, y⟩ := y
    subst e
    exact hs i x σ _ (y xs q) p
  · have e : i = xs.length := by omega
    subst e
    exact .inl ⟨⟨xs, q, Nat.le_refl _⟩, hd σ H p⟩
theorem for_range {lo : Int} {n : Nat} {g : TG} {tb : TS} {D : Ends} {σ : St} {H : Hp} (Pv : Nat → St → Hp → Prop) (h0 : Pv 0 σ H)
    (hs : ∀ i σ H, i < n → Pv i σ H → g (.int (lo + i)) σ H fun σ2 H2 => tb { D with nx := Pv (i + 1), ct := Pv (i + 1), bk := D.nx } σ2 H2) (hd : ∀ σ H, Pv n σ H → D.nx σ H) :
    ∃ W : Nat → Nat → St → Hp → Prop, (∃ m, W 0 m σ H) ∧ ∀ i m σ H, W i m σ H →
      ((Itr lo n).stop i H ∧ D.nx σ H) ∨ ((Itr lo n).go i H ∧ ∃ N : St → Hp → Prop, (∀ σ' H', N σ' H' → ∃ m', m' < m ∧ W (i + 1) m' σ' H') ∧ ∀ x H', (Itr lo n).yld i H x H' → g x σ H' fun σ2 H2 => tb { D with nx := N, ct := N, bk := D.nx } σ2 H2) := by
  refine ⟨fun i m σ H => m = n - i ∧ i ≤ n ∧ Pv i σ H, ⟨n, by simp, Nat.zero_le _, h0⟩, ?_⟩
  rintro i m σ H ⟨rfl, hi, p⟩
  by_cases hlt : i < n
  · refine .inr ⟨hlt, Pv (i + 1), fun σ' H' p' => ⟨n - (i + 1), by omega, rfl, hlt, p'⟩, fun x H' y => ?_⟩
    obtain ⟨e, y⟩ := y
    subst e y
    exact hs i σ _ hlt p
  · have e : i = n := by omega
    subst e
    exact .inl ⟨Nat.le_refl _, hd σ H p⟩
end L2

namespace L2
open PySem PySem.Spec PyProof.Rows

abbrev R2 := V → V → Hp → VK → Prop
/-- a two-place operation on values: f is binaryOp op, inplaceOp op or compareOp op -/
def OpR (X : Cx) (f : Value → Value → Sem Value) (r : R2) : Prop :=
  ∀ (pins : List (Addr × Obj)) (s : Shared) (σ : St) (H : Hp) (x y : V) (v u : Value) (Q : VK), Inv X pins σ H s → RelV x v → RelV y u → r x y H Q →
    wpAny (model X.prog X.w) X.A (f v u) (EP X pins σ Q) X.xe s
/-- a one-place operation -/
def UnR (X : Cx) (f : Value → Sem Value) (r : V → Hp → VK → Prop) : Prop :=
  ∀ (pins : List (Addr × Obj)) (s : Shared) (σ : St) (H : Hp) (x : V) (v : Value) (Q : VK), Inv X pins σ H s → RelV x v → r x H Q →
    wpAny (model X.prog X.w) X.A (f v) (EP X pins σ Q) X.xe s
/-- a call of a value that is known (a builtin, a type) with values -/
def CallR (X : Cx) (f : Value) (r : List V → Hp → VK → Prop) : Prop :=
  ∀ (pins : List (Addr × Obj)) (s : Shared) (σ : St) (H : Hp) (xs : List V) (us : List Value) (Q : VK), Inv X pins σ H s → Vals xs us → r xs H Q →
    wpAny (model X.prog X.w) X.A (call f us) (EP X pins σ Q) X.xe s
def tOp (r : R2) (ta tb : TE) : TE := fun σ H Q => ta σ H fun x H1 => tb σ H1 fun y H2 => r x y H2 Q
def tUn (r : V → Hp → VK → Prop) (ta : TE) : TE := fun σ H Q => ta σ H fun x H1 => r x H1 Q
/-- ints in, under C, and a value out -/
def rI (C : Int → Int → Prop) (g : Int → Int → V) : R2 := fun x y H Q => ∃ i j, x = .int i ∧ y = .int j ∧ C i j ∧ Q (g i j) H
def rI0 (g : Int → Int → V) : R2 := fun x y H Q => ∃ i j, x = .int i ∧ y = .int j ∧ Q (g i j) H
def rU (g : Int → V) : V → Hp → VK → Prop := fun x H Q => ∃ i, x = .int i ∧ Q (g i) H

section
variable {X : Cx} {a b c : Expr} {ta tb tc : TE} {pos : Pos}

theorem binT (ha : PE X a ta) (hb : PE X b tb) {pins : List (Addr × Obj)} {s : Shared} {σ : St} {H : Hp} {R : V → V → Hp → Prop} (I : Inv X pins σ H s)
    (h : ta σ H fun x H1 => tb σ H1 fun y H2 => R x y H2) {Q : Value → Shared → Prop} {f : Value → Value → Sem Value}
    (hf : ∀ v u s2 x y H2, Inv X pins σ H2 s2 → RelV x v → RelV y u → R x y H2 → wpAny (model X.prog X.w) X.A (f v u) Q X.xe s2) :
    wpAny (model X.prog X.w) X.A (eval a X.env) (fun v s₁ => wpAny (model X.prog X.w) X.A (eval b X.env) (fun u s₂ => wpAny (model X.prog X.w) X.A (f v u) Q X.xe s₂) X.xe s₁) X.xe s := by
  refine thn (ha pins s σ H _ I h) fun v s1 ⟨x, H1, I1, r1, q1⟩ => ?_
  refine thn (hb pins s1 σ H1 _ I1 q1) fun u s2 ⟨y, H2, I2, r2, q2⟩ => ?_
  exact hf v u s2 x y H2 I2 r1 r2 q2

theorem pe_op {op : Operator} {r : R2} (ho : OpR X (binaryOp op) r) (ha : PE X a ta) (hb : PE X b tb) : PE X (.BinOp a op b pos) (tOp r ta tb) := by
  intro pins s σ H Q I h
  exact wpAny_BinOp (binT ha hb I h fun v u s2 x y H2 I2 rx ry q => ho pins s2 σ H2 x y v u Q I2 rx ry q)
theorem pe_un {op : UnaryOp} {r : V → Hp → VK → Prop} (ho : UnR X (unaryOp op) r) (ha : PE X a ta) : PE X (.UnaryOp op a pos) (tUn r ta) := by
  intro pins s σ H Q I h
  exact UnaryOp_ (thn (ha pins s σ H _ I h) fun v s1 ⟨x, H1, I1, r1, q1⟩ => ho pins s1 σ H1 x v Q I1 r1 q1)
/-! ### ints -/
theorem opI {f : Value → Value → Sem Value} {C : Int → Int → Prop} {g : Int → Int → Int}
    (rule : ∀ (i j : Int) (t u : Tok) (s : Shared) (Q : Value → Shared → Prop) (E : Value → Shared → Prop), C i j → Q (.int (g i j) s.toks) { s with toks := s.toks + 1 } → wpAny (model X.prog X.w) X.A (f (.int i t) (.int j u)) Q E s) :
    OpR X f (rI C fun i j => .int (g i j)) := by
  intro pins s σ H x y v u Q I rx ry h
  obtain ⟨i, j, rfl, rfl, hc, q⟩ := h
  obtain ⟨t, rfl⟩ := rx
  obtain ⟨t', rfl⟩ := ry
  exact rule i j t t' s _ _ hc ⟨.int (g i j), H, I.tok _, ⟨_, rfl⟩, q⟩
theorem opI0 {f : Value → Value → Sem Value} {g : Int → Int → Int}
    (rule : ∀ (i j : Int) (t u : Tok) (s : Shared) (Q : Value → Shared → Prop) (E : Value → Shared → Prop), Q (.int (g i j) s.toks) { s with toks := s.toks + 1 } → wpAny (model X.prog X.w) X.A (f (.int i t) (.int j u)) Q E s) :
    OpR X f (rI0 fun i j => .int (g i j)) := by
  intro pins s σ H x y v u Q I rx ry h
  obtain ⟨i, j, rfl, rfl, q⟩ := h
  obtain ⟨t, rfl⟩ := rx
  obtain ⟨t', rfl⟩ := ry
  exact rule i j t t' s _ _ ⟨.int (g i j), H, I.tok _, ⟨_, rfl⟩, q⟩
theorem opB0 {f : Value → Value → Sem Value} {g : Int → Int → Bool}
    (rule : ∀ (i j : Int) (t u : Tok) (s : Shared) (Q : Value → Shared → Prop) (E : Value → Shared → Prop), Q (.bool (g i j)) s → wpAny (model X.prog X.w) X.A (f (.int i t) (.int j u)) Q E s) :
    OpR X f (rI0 fun i j => .bl (g i j)) := by
  intro pins s σ H x y v u Q I rx ry h
  obtain ⟨i, j, rfl, rfl, q⟩ := h
  obtain ⟨t, rfl⟩ := rx
  obtain ⟨t', rfl⟩ := ry
  exact rule i j t t' s _ _ ⟨.bl (g i j), H, I, rfl, q⟩

def CDiv (i j : Int) : Prop := 0 < j ∧ j < 1073741824
def CPow (i j : Int) : Prop := 0 ≤ j ∧ j ≤ 1000000 ∧ i.natAbs < 2 ^ 64
def CMul (i j : Int) : Prop := (-(2 ^ 64) < i ∧ i < 2 ^ 64) ∨ (-(2 ^ 64) < j ∧ j < 2 ^ 64)
theorem CMul.ok {i j : Int} (h : CMul i j) : IntMulOk i j := by
  rcases h with ⟨h1, h2⟩ | ⟨h1, h2⟩
  · exact .of_left (intBits_le_64 h1 h2)
  · exact .of_right (intBits_le_64 h1 h2)
theorem two_pow_nn (k : Nat) : (0 : Int) ≤ 2 ^ k := by
  rw [two_pow_cast]
  exact Int.natCast_nonneg _

theorem op_add : OpR X (binaryOp .Add) (rI0 fun i j => .int (i + j)) := opI0 fun _ _ _ _ _ _ _ q => add_int q
theorem op_sub : OpR X (binaryOp .Sub) (rI0 fun i j => .int (i - j)) := opI0 fun _ _ _ _ _ _ _ q => sub_int q
theorem op_mul : OpR X (binaryOp .Mult) (rI CMul fun i j => .int (i * j)) := opI fun _ _ _ _ _ _ _ hc q => mul_int q hc.ok
/-- // by a positive divisor -/
theorem op_fdiv : OpR X (binaryOp .FloorDiv) (rI CDiv fun i j => .int (i / j)) := opI fun i j _ _ _ _ _ hc q => by
  have h1 : (0 : Int) < j := hc.1
  have h2 : j < 1073741824 := hc.2
  exact floordiv_int (by omega) (by rw [Int.fdiv_eq_ediv_of_nonneg i (by omega)]; exact q) (.inl (PyProof.noPylong_small (by omega)))
/-- % by a positive divisor of any size -/
theorem op_mod : OpR X (binaryOp .Mod) (rI (fun _ j => 0 < j) fun i j => .int (i % j)) := opI fun i j _ _ _ _ _ hc q => by
  have h1 : (0 : Int) < j := hc
  exact mod_int' (by omega) (by rw [Int.fmod_eq_emod_of_nonneg i (by omega)]; exact q)
theorem op_pow : OpR X (binaryOp .Pow) (rI CPow fun i j => .int (i ^ j.toNat)) := opI fun _ _ _ _ _ _ _ hc q => pow_int_small hc.1 hc.2.1 hc.2.2 q
theorem op_shl : OpR X (binaryOp .LShift) (rI CPow fun i j => .int (i * 2 ^ j.toNat)) := opI fun _ _ _ _ _ _ _ hc q => lshift_int_small hc.1 hc.2.1 hc.2.2 q
theorem op_shr : OpR X (binaryOp .RShift) (rI (fun _ j => 0 ≤ j) fun i j => .int (i / 2 ^ j.toNat)) := opI fun i j _ _ _ _ _ hc q =>
  rshift_int hc (by rw [Int.fdiv_eq_ediv_of_nonneg i (two_pow_nn _)]; exact q)
theorem op_and : OpR X (binaryOp .BitAnd) (rI0 fun i j => .int (Builtin.bitAnd i j)) := opI0 fun _ _ _ _ _ _ _ q => and_int q
theorem op_or : OpR X (binaryOp .BitOr) (rI0 fun i j => .int (Builtin.bitOr i j)) := opI0 fun _ _ _ _ _ _ _ q => or_int q
theorem unI {f : Value → Sem Value} {g : Int → Int}
    (rule : ∀ (i : Int) (t : Tok) (s : Shared) (Q : Value → Shared → Prop) (E : Value → Shared → Prop), Q (.int (g i) s.toks) { s with toks := s.toks + 1 } → wpAny (model X.prog X.w) X.A (f (.int i t)) Q E s) :
    UnR X f (rU fun i => .int (g i)) := by
  intro pins s σ H x v Q I rx h
  obtain ⟨i, rfl, q⟩ := h
  obtain ⟨t, rfl⟩ := rx
  exact rule i t s _ _ ⟨.int (g i), H, I.tok _, ⟨_, rfl⟩, q⟩
theorem un_neg : UnR X (unaryOp .USub) (rU fun i => .int (-i)) := unI fun _ _ _ _ _ q => neg_int q
/-! ### bools among ints: n += (a < b) -/
end

/-! ### comparisons -/
/-- the scalars that == tells apart as data does -/
def scal : V → V → Bool
  | .non, .non => true | .non, .int _ => true | .int _, .non => true | .non, .bl _ => true | .bl _, .non => true | .non, .str _ => true | .str _, .non => true
  | .int _, .int _ => true | .bl _, .bl _ => true | .str _, .str _ => true | .byt _, .byt _ => true
  | .int _, .str _ => true | .str _, .int _ => true | .bl _, .str _ => true | .str _, .bl _ => true
  | _, _ => false
def rEq : R2 := fun x y H Q => scal x y = true ∧ Q (.bl (decide (x = y))) H
def rNe : R2 := fun x y H Q => scal x y = true ∧ Q (.bl (!decide (x = y))) H

theorem dec_int {i j : Int} : decide (V.int i = V.int j) = (i == j) := by
  rw [Bool.eq_iff_iff]
  simp
theorem dec_bl {i j : Bool} : decide (V.bl i = V.bl j) = (i == j) := by
  rw [Bool.eq_iff_iff]
  simp
theorem dec_str {i j : Str} : decide (V.str i = V.str j) = (i == j) := by
  rw [Bool.eq_iff_iff]
  simp
theorem dec_byt {i j : Array UInt8} : decide (V.byt i = V.byt j) = (i.toList == j.toList) := by
  rw [Bool.eq_iff_iff]
  cases i
  cases j
  simp

section
variable {X : Cx} {a b c : Expr} {ta tb tc : TE} {pos : Pos}
theorem fin_bl {pins : List (Addr × Obj)} {σ : St} {H : Hp} {s : Shared} {Q : VK} {k k' : Bool} (I : Inv X pins σ H s) (q : Q (.bl k) H) (e : k = k') : EP X pins σ Q (.bool k') s := by
  subst e
  exact ⟨.bl k, H, I, rfl, q⟩
theorem op_eq : OpR X (compareOp .Eq) rEq := by
  intro pins s σ H x y v u Q I rx ry h
  obtain ⟨hs, q⟩ := h
  cases x with
  | non =>
    cases rx
    cases y with
    | non => cases ry; exact PySem.EqNone.eq_none_none (fin_bl I q (by simp))
    | bl j => cases ry; exact PySem.EqNone.eq_none_bool (fin_bl I q (by simp))
    | int j => obtain ⟨t', rfl⟩ := ry; exact PySem.EqNone.eq_none_int (fin_bl I q (by simp))
    | str j => obtain ⟨t', rfl⟩ := ry; exact PySem.EqNone.eq_none_str (fin_bl I q (by simp))
    | _ => exact absurd (show false = true from hs) Bool.false_ne_true
  | bl i =>
    cases rx
    cases y with
    | non => cases ry; exact PySem.EqNone.eq_bool_none (fin_bl I q (by simp))
    | bl j => cases ry; exact eq_bool (fin_bl I q dec_bl)
    | str j => obtain ⟨t', rfl⟩ := ry; exact PySem.EqMixed.eq_bool_str (fin_bl I q (by simp))
    | _ => exact absurd (show false = true from hs) Bool.false_ne_true
  | int i =>
    obtain ⟨t, rfl⟩ := rx
    cases y with
    | non => cases ry; exact PySem.EqNone.eq_int_none (fin_bl I q (by simp))
    | int j => obtain ⟨t', rfl⟩ := ry; exact eq_int (fin_bl I q dec_int)
    | str j => obtain ⟨t', rfl⟩ := ry; exact PySem.EqMixed.eq_int_str (fin_bl I q (by simp))
    | _ => exact absurd (show false = true from hs) Bool.false_ne_true
  | str i =>
    obtain ⟨t, rfl⟩ := rx
    cases y with
    | non => cases ry; exact PySem.EqNone.eq_str_none (fin_bl I q (by simp))
    | bl j => cases ry; exact PySem.EqMixed.eq_str_bool (fin_bl I q (by simp))
    | int j => obtain ⟨t', rfl⟩ := ry; exact PySem.EqMixed.eq_str_int (fin_bl I q (by simp))
    | str j => obtain ⟨t', rfl⟩ := ry; exact eq_str (fin_bl I q dec_str)
    | _ => exact absurd (show false = true from hs) Bool.false_ne_true
  | byt i =>
    obtain ⟨t, rfl⟩ := rx
    cases y with
    | byt j => obtain ⟨t', rfl⟩ := ry; exact PySem.W.eq_bytes (fin_bl I q dec_byt)
    | _ => exact absurd (show false = true from hs) Bool.false_ne_true
  | _ => cases y <;> exact absurd (show false = true from hs) Bool.false_ne_true
theorem op_ne : OpR X (compareOp .NotEq) rNe := by
  intro pins s σ H x y v u Q I rx ry h
  obtain ⟨hs, q⟩ := h
  cases x with
  | non =>
    cases rx
    cases y with
    | non => cases ry; exact PySem.EqNone.ne_none_none (fin_bl I q (by simp))
    | bl j => cases ry; exact PySem.EqNone.ne_none_bool (fin_bl I q (by simp))
    | int j => obtain ⟨t', rfl⟩ := ry; exact PySem.EqNone.ne_none_int (fin_bl I q (by simp))
    | str j => obtain ⟨t', rfl⟩ := ry; exact PySem.EqNone.ne_none_str (fin_bl I q (by simp))
    | _ => exact absurd (show false = true from hs) Bool.false_ne_true
  | bl i =>
    cases rx
    cases y with
    | non => cases ry; exact PySem.EqNone.ne_bool_none (fin_bl I q (by simp))
    | bl j => cases ry; exact ne_bool (fin_bl I q (congrArg not dec_bl))
    | str j => obtain ⟨t', rfl⟩ := ry; exact PySem.EqMixed.ne_bool_str (fin_bl I q (by simp))
    | _ => exact absurd (show false = true from hs) Bool.false_ne_true
  | int i =>
    obtain ⟨t, rfl⟩ := rx
    cases y with
    | non => cases ry; exact PySem.EqNone.ne_int_none (fin_bl I q (by simp))
    | int j => obtain ⟨t', rfl⟩ := ry; exact ne_int (fin_bl I q (congrArg not dec_int))
    | str j => obtain ⟨t', rfl⟩ := ry; exact PySem.EqMixed.ne_int_str (fin_bl I q (by simp))
    | _ => exact absurd (show false = true from hs) Bool.false_ne_true
  | str i =>
    obtain ⟨t, rfl⟩ := rx
    cases y with
    | non => cases ry; exact PySem.EqNone.ne_str_none (fin_bl I q (by simp))
    | bl j => cases ry; exact PySem.EqMixed.ne_str_bool (fin_bl I q (by simp))
    | int j => obtain ⟨t', rfl⟩ := ry; exact PySem.EqMixed.ne_str_int (fin_bl I q (by simp))
    | str j => obtain ⟨t', rfl⟩ := ry; exact ne_str (fin_bl I q (congrArg not dec_str))
    | _ => exact absurd (show false = true from hs) Bool.false_ne_true
  | byt i =>
    obtain ⟨t, rfl⟩ := rx
    cases y with
    | byt j => obtain ⟨t', rfl⟩ := ry; exact PySem.W.ne_bytes (fin_bl I q (congrArg not dec_byt))
    | _ => exact absurd (show false = true from hs) Bool.false_ne_true
  | _ => cases y <;> exact absurd (show false = true from hs) Bool.false_ne_true

theorem op_lt : OpR X (compareOp .Lt) (rI0 fun i j => .bl (decide (i < j))) := opB0 fun _ _ _ _ _ _ _ q => lt_int q
theorem op_le : OpR X (compareOp .LtE) (rI0 fun i j => .bl (decide (i ≤ j))) := opB0 fun _ _ _ _ _ _ _ q => le_int q
theorem op_gt : OpR X (compareOp .Gt) (rI0 fun i j => .bl (decide (j < i))) := opB0 fun _ _ _ _ _ _ _ q => gt_int q
theorem op_ge : OpR X (compareOp .GtE) (rI0 fun i j => .bl (decide (j ≤ i))) := opB0 fun _ _ _ _ _ _ _ q => ge_int q
/-- is None, is not None: the right side a value none -/
theorem op_isN : OpR X (compareOp .Is) (fun x y H Q => y = .non ∧ Q (.bl (decide (x = .non))) H) := by
  intro pins s σ H x y v u Q I rx ry h
  obtain ⟨rfl, q⟩ := h
  cases ry
  refine is_none_gen (fin_bl I q ?_)
  cases x <;> first
    | (cases rx; rfl)
    | (obtain ⟨t, rfl⟩ := rx; rfl)
theorem nomark (b : Expr) {op : CmpOp} (h : op ≠ .In := by decide) (h2 : op ≠ .NotIn := by decide) : behindInMarks op b = false := by
  have e1 : (op == CmpOp.In) = false := by cases op <;> first | rfl | exact absurd rfl h
  have e2 : (op == CmpOp.NotIn) = false := by cases op <;> first | rfl | exact absurd rfl h2
  cases b <;> simp [behindInMarks, e1, e2]
/-- a comparison as a value; hm: nomark b, or (for in, not in) by with_unfolding_all rfl -/
theorem pe_cmpR {op : CmpOp} {r : R2} (ho : OpR X (compareOp op) r) (ha : PE X a ta) (hb : PE X b tb) (hm : behindInMarks op b = false) : PE X (.Compare a [op] [b] pos) (tOp r ta tb) := by
  intro pins s σ H Q I h
  exact wpAny_Compare1 (binT ha hb I h fun v u s2 x y H2 I2 rx ry q => ho pins s2 σ H2 x y v u Q I2 rx ry q) hm
/-- a reading of a value as a test -/
def tTest (t : TE) : TT := fun σ H Q => t σ H fun x H' => ∃ k, x = .bl k ∧ Q k H'
theorem pt_cmpR {op : CmpOp} {r : R2} (ho : OpR X (compareOp op) r) (ha : PE X a ta) (hb : PE X b tb) (hm : behindInMarks op b = false) : PT X (.Compare a [op] [b] pos) (tTest (tOp r ta tb)) := by
  intro pins s σ H Q I h
  refine wpAny_isTrue_Compare1 (thn (ha pins s σ H _ I h) fun v s1 ⟨x, H1, I1, r1, q1⟩ => thn (hb pins s1 σ H1 _ I1 q1) fun u s2 ⟨y, H2, I2, r2, q2⟩ =>
    thn (ho pins s2 σ H2 x y v u _ I2 r1 r2 q2) fun c s3 ⟨z, H3, I3, r3, k, e, q3⟩ => ?_) hm
  subst e
  cases r3
  exact wpAny_truthy_bool ⟨H3, I3, q3⟩
/-- a op1 b op2 c -/
def tChain (r r' : R2) (ta tb tc : TE) : TE := fun σ H Q => ta σ H fun x H1 => tb σ H1 fun y H2 => r x y H2 fun z H3 => ∃ k, z = .bl k ∧
  (if k = true then tc σ H3 fun w' H4 => r' y w' H4 Q else Q (.bl false) H3)
theorem pe_chain {op op' : CmpOp} {r r' : R2} (ho : OpR X (compareOp op) r) (ho' : OpR X (compareOp op') r') (ha : PE X a ta) (hb : PE X b tb) (hc : PE X c tc)
    (hm : lastMarks [op, op'] [b, c] = false := by with_unfolding_all rfl) : PE X (.Compare a [op, op'] [b, c] pos) (tChain r r' ta tb tc) := by
  intro pins s σ H Q I h
  refine Compare_chain (thn (ha pins s σ H _ I h) fun v s1 ⟨x, H1, I1, r1, q1⟩ => chain_link (thn (hb pins s1 σ H1 _ I1 q1) fun u s2 ⟨y, H2, I2, r2, q2⟩ =>
    thn (ho pins s2 σ H2 x y v u _ I2 r1 r2 q2) fun d s3 ⟨z, H3, I3, r3, k, e, q3⟩ => ?_)) hm
  subst e
  cases r3
  refine wpAny_truthy_bool ?_
  cases k with
  | false => exact ite_ff ⟨.bl false, H3, I3, rfl, q3⟩
  | true => exact ite_tt (chain_last (thn (hc pins s3 σ H3 _ I3 q3) fun w' s4 ⟨z', H4, I4, r4, q4⟩ => ho' pins s4 σ H4 y z' u w' Q I4 r2 r4 q4))
/-! ### truth -/
theorem line63 : (sizeLine : Nat) < 2 ^ 63 := by rw [sizeLine_eq]; decide
/-! ### strs and bytes -/
/-! ### scalar builtins, by CallR -/
theorem vals1 {x : V} {us : List Value} (r : Vals [x] us) : ∃ u, us = [u] ∧ RelV x u := by
  cases r with
  | cons r1 r2 => cases r2; exact ⟨_, rfl, r1⟩
theorem vals2 {x y : V} {us : List Value} (r : Vals [x, y] us) : ∃ u w', us = [u, w'] ∧ RelV x u ∧ RelV y w' := by
  cases r with
  | cons r1 r2 =>
    cases r2 with
    | cons r3 r4 => cases r4; exact ⟨_, _, rfl, r1, r3⟩
theorem call_max2 (hc : X.calm = true) : CallR X (.builtin "max") (fun xs H Q => ∃ i j, xs = [.int i, .int j] ∧ Q (.int (if j > i then j else i)) H) := by
  intro pins s σ H xs us Q I r h
  obtain ⟨i, j, rfl, q⟩ := h
  obtain ⟨u, w', rfl, ⟨t, rfl⟩, ⟨t', rfl⟩⟩ := vals2 r
  refine max_two_ints (I.ok.hd hc) fun h' tk k => ⟨_, H, I.kept k, ?_, q⟩
  by_cases hj : j > i
  · rw [if_pos hj, if_pos hj]; exact ⟨_, rfl⟩
  · rw [if_neg hj, if_neg hj]; exact ⟨_, rfl⟩
theorem call_int1 : CallR X (.type "int") (fun xs H Q => (∃ i, xs = [.int i] ∧ Q (.int i) H) ∨ ∃ k, xs = [.bl k] ∧ Q (.int (if k then 1 else 0)) H) := by
  intro pins s σ H xs us Q I r h
  rcases h with ⟨i, rfl, q⟩ | ⟨k, rfl, q⟩
  · obtain ⟨u, rfl, t, rfl⟩ := vals1 r
    exact call_int_int ⟨.int i, H, I, ⟨_, rfl⟩, q⟩
  · obtain ⟨u, rfl, r1⟩ := vals1 r
    cases r1
    exact call_int_bool ⟨.int (if k then 1 else 0), H, I.tok _, ⟨_, rfl⟩, q⟩
end
end L2

namespace L2
open PySem PySem.Spec PyProof.Rows

/-! ### an instance, its attributes a map -/
structure ObjM (h : Heap) (x dx C : Addr) (mA : Str → Option Value) : Prop where
  obj : h.get? x = some (PySem.W.instObj C dx)
  ns : h.Ns1 dx mA
  ne : dx ≠ x

theorem lookIn_ns {h : Heap} {dx : Addr} {mA : Str → Option Value} (n : h.Ns1 dx mA) : ∃ od, h.get? dx = some od ∧ ∀ name, PySem.W.lookIn name od = some (mA name) := by
  obtain ⟨o, es, ep, ho, hd, hk, _, hm⟩ := n
  refine ⟨o, ho, fun name => ?_⟩
  have e := hm name
  unfold nsFind findBy at e
  rw [← Array.find?_toList] at e
  unfold PySem.W.lookIn
  rw [hd]
  dsimp only
  split
  · rename_i y q
    rw [q] at e
    exact congrArg some e
  · rename_i q
    rw [q] at e
    have a : es.toList.any (·.refKey) = false := by
      rw [List.any_eq_false]
      intro y hy
      obtain ⟨z, t, hkey⟩ := hk y (Array.mem_toList_iff.mp hy)
      simp [DictEntry.refKey, hkey]
    have a' : ¬ es.toList.any (·.refKey) = true := by rw [a]; exact Bool.false_ne_true
    rw [if_neg a']
    exact congrArg some e

theorem ObjM.look {h : Heap} {x dx C : Addr} {mA : Str → Option Value} (I : ObjM h x dx C mA) : ∃ od, PySem.W.InstAt h x (PySem.W.instObj C dx) C (some od) ∧ ∀ name, PySem.W.lookIn name od = some (mA name) :=
  let ⟨od, ho, hl⟩ := lookIn_ns I.ns
  ⟨od, ⟨I.obj, rfl, rfl, ho⟩, hl⟩

section
variable {prog : Program} {w : World} {A : Around} {E : Value → Shared → Prop} {s : Shared} {K : PySem.W.Frag} {x dx C f : Addr} {mA : Str → Option Value} {name : Str} {v : Value}

end

/-! ### the attributes as a list of pairs -/
theorem RelO.some_of {v : V} {o : Option Value} (r : RelO (some v) o) : ∃ u, o = some u ∧ RelV v u := by
  cases o with
  | none => exact (show False from r).elim
  | some u => exact ⟨u, rfl, r⟩
section
variable {P : Program} {w : World} {H H' : Hp} {h h' : Heap} {a C dx : Addr} {fs fs' : List (Str × V)}
theorem ins_get (hok : HOk P w H h) (e : H a = some (.ins C dx fs)) : ∃ mA, ObjM h a dx C mA ∧ (∀ f, RelO (fs.lookup f) (mA f)) ∧ PySem.Within mA (fs.map (·.1)) ∧ fs.length ≤ 1000 ∧ H dx = some (.own a) := by
  obtain ⟨d, z, ne, ob, mA, n, r, q⟩ := (show ObjOk P w H h a (.ins C dx fs) from hok a _ e)
  exact ⟨mA, ⟨ob, n, ne⟩, r, q, z, d⟩
end

/-! ### what of the text a class must have -/
structure Cls (K : PySem.W.Frag) (C : Addr) : Prop where
  pg : PySem.W.plainGet K C Str.empty = true
  hd : PySem.W.hasDictIn K C = true
  po : PySem.W.plainOver K C = true
  sa : PySem.W.findIn K (.ref C) "__setattr__" = some (some (.builtin "object.__setattr__"))
theorem Cls.get {K : PySem.W.Frag} {C : Addr} (c : Cls K C) (f : Str) : PySem.W.plainGet K C f = true := c.pg
section
variable {X : Cx} {pins : List (Addr × Obj)} {σ : St} {H : Hp} {s : Shared} {a C dx : Addr} {fs : List (Str × V)} {f : Str} {v : V} {A : Around} {E : Value → Shared → Prop}

end

/-! ### readings and rules -/
section
variable {X : Cx} {o e value : Expr} {f : Str} {pos pos' tpos : Pos} {ta tv : TE}
end

/-! ### isinstance -/
section
variable {X : Cx} {pins : List (Addr × Obj)} {σ : St} {H : Hp} {s : Shared} {A : Around} {E : Value → Shared → Prop} {Q : Value → Shared → Prop} {c : Value} {b : Bool}
/-- the type of a value, as the fragment's deciders take it; for an instance its class -/
inductive TyOf (K : PySem.W.Frag) (H : Hp) : V → Value → Prop where
  | non : TyOf K H .non (.type "NoneType")
  | bl (x : Bool) : TyOf K H (.bl x) (.type "bool")
  | int (i : Int) : TyOf K H (.int i) (.type "int")
  | str (x : Str) : TyOf K H (.str x) (.type "str")
  | flt (x : UInt64) : TyOf K H (.flt x) (.type "float")
  | lst {a : Addr} {xs : List V} (e : H a = some (.lst xs)) : TyOf K H (.ref a) (.type "list")
  | frz {a : Addr} {o : Obj} {xs : List V} (e : H a = some (.frz o (.lst xs))) : TyOf K H (.ref a) (.type "list")
  | tup {a : Addr} {xs : List V} (e : H a = some (.tup xs)) : TyOf K H (.ref a) (.type "tuple")
  | dK {a : Addr} {kvs : List (Key × V)} (e : H a = some (.dK kvs)) : TyOf K H (.ref a) (.type "dict")
  | dT {a : Addr} {kvs : List (List Key × V)} (e : H a = some (.dT kvs)) : TyOf K H (.ref a) (.type "dict")
  | ins {a C dx : Addr} {fs : List (Str × V)} (e : H a = some (.ins C dx fs)) (cl : Cls K C) (ha : PySem.W.findIn K (.ref C) "__class__" = some (some (.builtin "object.__class__")))
      (hn : PySem.W.specialIn K (.builtin "object.__class__") "__get__" = some (some (.builtin "getset_descriptor.__get__"))) (htk : PySem.W.takesIn K (.builtin "object.__class__") = some true)
      (hm : PySem.W.mroIn K C (.type "object") = some true) : TyOf K H (.ref a) (.ref C)
/-- isinstance(x, c) for one class c, a built-in or an own one: kitOne's answer -/
theorem isinst_ok {x : V} {u t : Value} (I : Inv X pins σ H s) (rx : RelV x u) (ty : TyOf X.K H x t) (e : PySem.W.kitOne X.K t c = some b) (h : ∀ tk, Q (.bool b) { s with toks := tk }) :
    wpAny (model X.prog X.w) A (call (.builtin "isinstance") [u, c]) Q E s := by
  cases ty with
  | non => cases (show u = Value.none from rx); exact PySem.W.kia_one PySem.W.kitx_none I.kIn True.intro e (fun z => nomatch z) h
  | bl y => cases (show u = Value.bool y from rx); exact PySem.W.kia_one PySem.W.kitx_bool I.kIn True.intro e (fun z => nomatch z) h
  | int i => obtain ⟨t, q⟩ := (show ∃ t, u = Value.int i t from rx); cases q; exact PySem.W.kia_one PySem.W.kitx_int I.kIn True.intro e (fun z => nomatch z) h
  | str y => obtain ⟨t, q⟩ := (show ∃ t, u = Value.str y t from rx); cases q; exact PySem.W.kia_one PySem.W.kitx_str I.kIn True.intro e (fun z => nomatch z) h
  | flt y => obtain ⟨t, q⟩ := (show ∃ t, u = Value.float y t from rx); cases q; exact PySem.W.kia_one PySem.W.kitx_float I.kIn True.intro e (fun z => nomatch z) h
  | @lst a xs ea =>
    cases (show u = Value.ref a from rx)
    obtain ⟨_, _, n, _, h1⟩ := (show ObjOk X.prog X.w H s.heap a (.lst xs) from I.hok a _ ea)
    exact PySem.W.kia_one PySem.W.kitx_list I.kIn ⟨_, h1, rfl⟩ e (fun z => nomatch z) h
  | @frz a ob xs ea =>
    cases (show u = Value.ref a from rx)
    obtain ⟨_, _, _, n, _, h1⟩ := (show ObjOk X.prog X.w H s.heap a (.frz ob (.lst xs)) from I.hok a _ ea)
    exact PySem.W.kia_one PySem.W.kitx_list I.kIn ⟨_, h1, rfl⟩ e (fun z => nomatch z) h
  | @tup a xs ea =>
    cases (show u = Value.ref a from rx)
    obtain ⟨_, _, _, p⟩ := (show ObjOk X.prog X.w H s.heap a (.tup xs) from I.hok a _ ea)
    obtain ⟨o, h1, h2, _⟩ := p
    exact PySem.W.kia_one PySem.W.kitx_tuple I.kIn ⟨o, h1, h2⟩ e (fun z => nomatch z) h
  | @dK a kvs ea =>
    cases (show u = Value.ref a from rx)
    obtain ⟨_, _, vs, _, p⟩ := (show ObjOk X.prog X.w H s.heap a (.dK kvs) from I.hok a _ ea)
    obtain ⟨o, es, ep, h1, h2, _⟩ := p
    exact PySem.W.kia_one PySem.W.kitx_dict I.kIn ⟨o, h1, h2.1⟩ e (fun z => nomatch z) h
  | @dT a kvs ea =>
    cases (show u = Value.ref a from rx)
    obtain ⟨_, _, xs, _, o, es, ep, h1, h2, _⟩ := (show ObjOk X.prog X.w H s.heap a (.dT kvs) from I.hok a _ ea)
    exact PySem.W.kia_one PySem.W.kitx_dict I.kIn ⟨o, h1, h2.1⟩ e (fun z => nomatch z) h
  | @ins a C dx fs ea cl ha hn htk hm =>
    cases (show u = Value.ref a from rx)
    obtain ⟨mA, O, _⟩ := ins_get I.hok ea
    obtain ⟨od, J, _⟩ := O.look
    exact PySem.W.kia_one (PySem.W.kitx_own (cl.get _) cl.hd ha hn htk hm) I.kIn J e (fun z => nomatch z) h
end
end L2

namespace L2
open PySem PySem.Spec PyProof.Rows

/-! ### room -/
structure Room (k : Nat) (A : Around) : Prop where
  hd : A.handled = none
  dp : A.depth + 3 * k + 5 < recursionLimit
  un : A.units + 16 * k + 200 < cLine
theorem Room.mono {j k : Nat} {A : Around} (r : Room k A) (h : j ≤ k) : Room j A := ⟨r.hd, by have := r.dp; omega, by have := r.un; omega⟩
theorem Room.deeper {k : Nat} {A : Around} (r : Room (k + 1) A) (env : Env) : Room k (A.deeper env) :=
  ⟨r.hd, by have := r.dp; show A.depth + 1 + 3 * k + 5 < _; omega, by have := r.un; show A.units + 3 + 16 * k + 200 < _; omega⟩
theorem Room.depth {k : Nat} {A : Around} (r : Room k A) : A.depth < recursionLimit := by have := r.dp; omega
theorem Room.units {k : Nat} {A : Around} (r : Room k A) : A.units + 64 < cLine := by have := r.un; omega
/-! ### argument lists and displays -/
def tNil : TA := fun _ H Q => Q [] H
def tCons (ta : TE) (tr : TA) : TA := fun σ H Q => ta σ H fun x H1 => tr σ H1 fun xs H2 => Q (x :: xs) H2
section
variable {X : Cx} {e : Expr} {es : List Expr} {te : TE} {t : TA} {pos : Pos}
theorem pa_nil : PA X [] tNil := fun _ _ _ _ H Q I h => Calls.spliced_nil ⟨[], H, I, .nil, h⟩
theorem pa_cons (ha : PE X e te) (hr : PA X es t) (hs : starEach (e :: es) X.env = (false, eval e X.env) :: starEach es X.env := by rfl) : PA X (e :: es) (tCons te t) := by
  intro pos pins s σ H Q I h
  rw [hs]
  show wpAny _ _ (spliced ((false, eval e X.env) :: backTo pos (starEach es X.env))) _ _ s
  refine Calls.spliced_cons (thn (ha pins s σ H _ I h) fun u s1 ⟨x, H1, I1, r1, q1⟩ => ?_)
  exact thn (hr pos pins s1 σ H1 _ I1 q1) fun us s2 ⟨xs, H2, I2, r2, q2⟩ => ⟨x :: xs, H2, I2, .cons r1 r2, q2⟩

/-- a tuple, a list of written items -/
def tTup (t : TA) : TE := fun σ H Q => t σ H fun xs H1 => xs.length ≤ sizeLine ∧ ∀ p, H1 p = none → Q (.ref p) (upd H1 p (.tup xs))
def tLst (t : TA) : TE := fun σ H Q => t σ H fun xs H1 => xs.length ≤ sizeLine ∧ ∀ p, H1 p = none → Q (.ref p) (upd H1 p (.lst xs))
theorem pe_tup {x1} (h : PA X es t) : PE X (.Tuple es x1 pos) (tTup t) := by
  intro pins s σ H Q I hq
  refine wpAny_Tuple_spliced (thn (h pos pins s σ H _ I hq) fun us s1 ⟨xs, H1, I1, r, z, q⟩ => ⟨by rw [← r.length]; exact z, ?_⟩)
  have hf : H1 s1.heap.objs.size = none := I1.hok.fresh (Nat.le_refl _)
  refine ⟨.ref s1.heap.objs.size, upd H1 s1.heap.objs.size (.tup xs), I1.laid (t' := s1.toks) (fun b u e => Heap.get?_push_of_some _ e) (Nat.le_refl _) ?_, rfl, q _ hf⟩
  exact ⟨z, us, r, ⟨_, Heap.get?_push_size _ rfl, rfl, _, rfl⟩⟩
theorem pe_lst (h : PA X es t) : PE X (.List es pos) (tLst t) := by
  intro pins s σ H Q I hq
  refine wpAny_List_spliced (thn (h pos pins s σ H _ I hq) fun us s1 ⟨xs, H1, I1, r, z, q⟩ => ⟨by rw [← r.length]; exact z, ?_⟩)
  have hf : H1 s1.heap.objs.size = none := I1.hok.fresh (Nat.le_refl _)
  refine ⟨.ref s1.heap.objs.size, upd H1 s1.heap.objs.size (.lst xs), I1.laid (t' := s1.toks) (fun b u e => Heap.get?_push_of_some _ e) (Nat.le_refl _) ?_, rfl, q _ hf⟩
  exact ⟨z, us, 0, r, Heap.get?_push_size _ rfl⟩
end

/-! ### what a def promises -/
/-- a def's promise: the bound arguments in the parameters' order, the heap, the wanted end, the wanted exception -/
abbrev Sp := List V → Hp → VK → XK → Prop
/-- how an exception lies behind a call (file 08 gives it): the callers' frames, abstract heap and state ahead of the call, the wish, the exception, the state -/
abbrev CXT := List Env → Hp → Shared → XK → Value → Shared → Prop

/-- the state at a call -/
structure Env0 (P : Program) (w : World) (K : PySem.W.Frag) (mg : Str → Option Value) (base : Heap) (A : Around) (outer : List Env) (s : Shared) (H : Hp) : Prop where
  frames : A.frames = some outer
  mod : Mod K mg base
  bs : ∀ b o, base.get? b = some o → s.heap.get? b = some o ∧ H b = none
  bsz : base.objs.size ≤ s.heap.objs.size
  funs : s.heap.FunFrames base outer
  frf : ∀ b ∈ frs outer, H b = none
  hok : HOk P w H s.heap
  bare : AllBare s.gens
/-- a call's end -/
def CE (outer : List Env) (P : Program) (w : World) (H : Hp) (s : Shared) (Q : VK) (u : Value) (s' : Shared) : Prop :=
  ∃ v H', s'.os = s.os ∧ AllBare s'.gens ∧ Un (frs outer) [] H H' s.heap s'.heap ∧ HOk P w H' s'.heap ∧ RelV v u ∧ Q v H'
def CR (CX : CXT) (outer : List Env) (P : Program) (w : World) (H : Hp) (s : Shared) (Q : VK) (E : XK) (r : Result) (s' : Shared) : Prop :=
  match r with
  | .ok (.ret u) => CE outer P w H s Q u s'
  | .ok _ => False
  | .error e => CX outer H s E e s'
structure FnOk (P : Program) (w : World) (K : PySem.W.Frag) (mg : Str → Option Value) (base : Heap) (CX : CXT) (k : Nat) (f : Addr) (fd : FuncData) (ps : List Str) (sp : Sp) : Prop where
  len : ∀ vs H Q E, sp vs H Q E → vs.length = ps.length
  run : ∀ (A : Around) (outer : List Env) (s : Shared) (H : Hp) (args : Args) (us : List Value) (vs : List V) (Q : VK) (E : XK), Room k A → Env0 P w K mg base A outer s H → BindsTo s fd args (ps.zip us) → Vals vs us → sp vs H Q E →
    codeAny (model P w) A (.call (.ref f) args) (CR CX outer P w H s Q E) s
/-- a weaker promise -/
theorem FnOk.imp {P : Program} {w : World} {K : PySem.W.Frag} {mg : Str → Option Value} {base : Heap} {CX : CXT} {k : Nat} {f : Addr} {fd : FuncData} {ps : List Str} {sp sp' : Sp} (F : FnOk P w K mg base CX k f fd ps sp)
    (h : ∀ vs H Q E, sp' vs H Q E → sp vs H Q E) : FnOk P w K mg base CX k f fd ps sp' :=
  ⟨fun vs H Q E q => F.len vs H Q E (h _ _ _ _ q), fun A outer s H args us vs Q E hr he hb hv hs => F.run A outer s H args us vs Q E hr he hb hv (h _ _ _ _ hs)⟩

section
variable {X : Cx} {pins : List (Addr × Obj)} {σ : St} {H : Hp} {s s' : Shared}
/-- from a body: what a callee wants -/
theorem Inv.env0 (I : Inv X pins σ H s) : Env0 X.prog X.w X.K X.mg X.base X.A X.stack s H :=
  ⟨I.ok.frames, I.ok.mod, I.bs, Nat.le_trans I.ok.bsz I.sz, I.stack, I.stkFree, I.hok, I.bare⟩
/-- behind a call -/
theorem Inv.after {Q : VK} {u : Value} (I : Inv X pins σ H s) (h : CE X.stack X.prog X.w H s Q u s') : EP X pins σ Q u s' := by
  obtain ⟨v, H', os, bare, un, hok, r, q⟩ := h
  obtain ⟨hh, g, d, t, os'⟩ := s'
  obtain rfl : os' = s.os := os
  exact ⟨v, H', I.call (h' := hh) (g' := g) (d' := d) (t' := t) (ch := []) un hok bare (fun b z => absurd z (by simp)), r, q⟩
end

/-! ### calls -/
/-- f(..): the written arguments, then the defaults dvs; E: what is wanted of an exception -/
def tCall (sp : Sp) (dvs : List V) (E : XK) (t : TA) : TE := fun σ H Q => t σ H fun vs H1 => sp (vs ++ dvs) H1 Q E
/-- how the parameters are bound: us the positional arguments, kw the keywords' values by name, ds the defaults that fill up -/
def Binds (K : PySem.W.Frag) (fd : FuncData) (ps : List Str) (ds : List Value) : Prop :=
  ∀ (s : Shared) (us : List Value), K.In s.heap → (us ++ ds).length = ps.length → BindsTo s fd ⟨us, []⟩ (ps.zip (us ++ ds))
/-- every parameter is given -/
theorem Binds.all {K : PySem.W.Frag} {fd : FuncData} {ps : List Str} (h : ∀ us : List Value, us.length = ps.length → bindArgs fd ⟨us, []⟩ = pure (ps.zip us)) : Binds K fd ps [] := fun s us _ hl => by
  rw [List.append_nil] at hl ⊢
  exact .of_eq (h us hl)

/-- an exception of a callee reaches what this body wants of exceptions -/
def Passes (CX : CXT) (X : Cx) (E : XK) : Prop := ∀ (pins : List (Addr × Obj)) (σ : St) (H : Hp) (s : Shared) (e : Value) (s' : Shared), Inv X pins σ H s → CX X.stack H s E e s' → X.xe e s'

section
variable {X : Cx} {CX : CXT} {k : Nat} {f C : Addr} {fd : FuncData} {ps : List Str} {sp : Sp} {dvs : List V} {ds : List Value} {E : XK} {x m : Str} {p pos apos : Pos} {e o : Expr} {es : List Expr} {ta : TE} {t : TA}

/-- the callee runs -/
theorem run_fn {pins : List (Addr × Obj)} {σ : St} {H : Hp} {s : Shared} {Q : VK} {us : List Value} {vs : List V} (F : FnOk X.prog X.w X.K X.mg X.base CX k f fd ps sp) (hr : Room k X.A) (hb : Binds X.K fd ps ds) (hd : Vals dvs ds) (hx : Passes CX X E)
    (I : Inv X pins σ H s) (r : Vals vs us) (h : sp (vs ++ dvs) H Q E) : wpAny (model X.prog X.w) X.A (call (.ref f) us) (EP X pins σ Q) X.xe s := by
  have r2 : Vals (vs ++ dvs) (us ++ ds) := r.append hd
  have hl : (us ++ ds).length = ps.length := by rw [← r2.length]; exact F.len _ _ _ _ h
  refine wpAny_call (codeAny_mono (F.run X.A X.stack s H ⟨us, []⟩ (us ++ ds) (vs ++ dvs) Q E hr I.env0 (hb s us I.kIn hl) r2 h) fun r s' hq => ?_)
  cases r with
  | error e => exact hx pins σ H s e s' I hq
  | ok fl =>
    cases fl with
    | ret u => exact I.after hq
    | next => exact False.elim hq
    | brk => exact False.elim hq
    | cont => exact False.elim hq

theorem pe_call (F : FnOk X.prog X.w X.K X.mg X.base CX k f fd ps sp) (hr : Room k X.A) (hg : Gl X x) (hm : X.mg x = some (.ref f)) (hk : PySem.W.keepIn X.K (.ref f) = true) (hb : Binds X.K fd ps ds) (hd : Vals dvs ds) (hx : Passes CX X E)
    (ha : PA X (e :: es) t) (hdb : (x == ("__debug__" : Str)) = false := by decide) (he : starEach (e :: es) X.env = (false, eval e X.env) :: starEach es X.env := by rfl) (hpl : (backTo pos (starEach es X.env)).any (·.1) = false := by rfl) :
    PE X (.Call (.Name x p) (e :: es) [] pos) (tCall sp dvs E t) := by
  intro pins s σ H Q I h
  refine wpAny_Call_Name_kw (ld_glob I hg hm ?_ hdb)
  refine PySem.W.callWith_K (h₀ := X.base) I.ok.mod.kin hk (thn (ha pos pins s σ H _ I h) fun us s1 ⟨vs, H1, I1, r, q⟩ => ⟨I1.kIn, ?_⟩) he hpl
  exact run_fn F hr hb hd hx I1 r q
end

/-! ### keywords -/
section
variable {X : Cx} {CX : CXT} {k : Nat} {f C : Addr} {fd : FuncData} {ps ks : List Str} {sp : Sp} {E : XK} {x m : Str} {p pos apos kpos : Pos} {e o : Expr} {es : List Expr} {kws : List Keyword} {te ta : TE} {t tk : TA} {nm : Option Str}
variable {g : List Value → List Value → List Value} {gV : List V → List V → List V}
end

/-! ### a def's body keeps its promise -/
/-- names: the parameters first -/
structure FnScope (N P : List Str) (sc : Scope) : Prop where
  kind : sc.kind = .function
  co : sc.isCoroutine = false
  gen : sc.isGenerator = false
  nd : N.Nodup
  pre : N.take P.length = P
  par : ∀ x ∈ P, sc.names.lookup x = some .local ∨ sc.names.lookup x = some .cell
  nofree : ∀ y ∈ sc.names, y.2 ≠ .free

theorem bindL_out {kindOf : Str → Option NameKind} {x : Str} : ∀ {binds : List (Str × Value)} {m : Str → Option Value}, (∀ v, (x, v) ∉ binds) → bindL kindOf binds m x = m x
  | [], _, _ => rfl
  | (n, v) :: r, m, h => by
    unfold bindL
    rw [bindL_out fun w hw => h w (List.mem_cons_of_mem _ hw)]
    split
    · have : x ≠ n := by rintro rfl; exact h v List.mem_cons_self
      simp [this]
    · rfl
theorem bindC_out {kindOf : Str → Option NameKind} {x : Str} : ∀ {binds : List (Str × Value)} {m : Str → Option Value}, (∀ v, (x, v) ∉ binds) → bindC kindOf binds m x = m x
  | [], _, _ => rfl
  | (n, v) :: r, m, h => by
    unfold bindC
    rw [bindC_out fun w hw => h w (List.mem_cons_of_mem _ hw)]
    split
    · rfl
    · have : x ≠ n := by rintro rfl; exact h v List.mem_cons_self
      simp [this]
theorem bindL_get {kindOf : Str → Option NameKind} {x : Str} {v : Value} : ∀ {P : List Str} {vs : List Value} {i : Nat} {m : Str → Option Value}, P.Nodup → P[i]? = some x → vs[i]? = some v → kindOf x = some .local →
    bindL kindOf (P.zip vs) m x = some v
  | [], _, _, _, _, h, _, _ => by simp at h
  | _ :: _, [], _, _, _, _, h, _ => by simp at h
  | p :: P, w :: vs, 0, m, nd, h1, h2, hk => by
    simp at h1 h2; subst h1; subst h2
    show bindL kindOf ((p, w) :: P.zip vs) m p = _
    unfold bindL
    rw [bindL_out fun v hv => (List.nodup_cons.mp nd).1 (List.of_mem_zip hv).1, if_pos hk]
    simp
  | p :: P, w :: vs, i + 1, m, nd, h1, h2, hk => by
    show bindL kindOf ((p, w) :: P.zip vs) m x = _
    unfold bindL
    exact bindL_get (i := i) (List.nodup_cons.mp nd).2 (by simpa using h1) (by simpa using h2) hk
theorem bindC_get {kindOf : Str → Option NameKind} {x : Str} {v : Value} : ∀ {P : List Str} {vs : List Value} {i : Nat} {m : Str → Option Value}, P.Nodup → P[i]? = some x → vs[i]? = some v → kindOf x ≠ some .local →
    bindC kindOf (P.zip vs) m x = some v
  | [], _, _, _, _, h, _, _ => by simp at h
  | _ :: _, [], _, _, _, _, h, _ => by simp at h
  | p :: P, w :: vs, 0, m, nd, h1, h2, hk => by
    simp at h1 h2; subst h1; subst h2
    show bindC kindOf ((p, w) :: P.zip vs) m p = _
    unfold bindC
    rw [bindC_out fun v hv => (List.nodup_cons.mp nd).1 (List.of_mem_zip hv).1, if_neg hk]
    simp
  | p :: P, w :: vs, i + 1, m, nd, h1, h2, hk => by
    show bindC kindOf ((p, w) :: P.zip vs) m x = _
    unfold bindC
    exact bindC_get (i := i) (List.nodup_cons.mp nd).2 (by simpa using h1) (by simpa using h2) hk

/-- the names' values at the entry -/
def start (N : List Str) (vs : List V) : St := vs.map some ++ List.replicate (N.length - vs.length) none

/-- the context of a def's body, at its entry; an exception leaves the frame, then lies as CX says -/
def cxOf (CX : CXT) (P : Program) (w : World) (K : PySem.W.Frag) (mg : Str → Option Value) (base : Heap) (N : List Str) (qual : Str) (scope : Scope) (f : Addr) (cd : Value) (A : Around) (outer : List Env) (s : Shared) (H : Hp) (E : XK) : Cx where
  prog := P
  w := w
  K := K
  mg := mg
  base := base
  A := A.deeper (envOfC qual scope s.heap.objs.size f cd)
  N := N
  s₀ := s
  H₀ := H
  env := envOfC qual scope s.heap.objs.size f cd
  outer := outer
  stack := envOfC qual scope s.heap.objs.size f cd :: outer
  ex := []
  calm := true
  fn := fun _ => true
  pn := []
  xe := fun e s' => wpAny (model P w) (A.deeper (envOfC qual scope s.heap.objs.size f cd)) (leaving (envOfC qual scope s.heap.objs.size f cd) e) (fun _ s'' => CX outer H s E e s'') (fun e' s'' => CX outer H s E e' s'') s'

theorem cell_has {sc : Scope} {n : Nat} {x : Str} (h : sc.names.lookup x = some .cell) : ∃ c, (cellsFrom n sc.names []).lookup x = some c := by
  have q := PySem.W.cellsFrom_some sc.names n [] (.inl h)
  exact Option.isSome_iff_exists.mp q

theorem inv_start {CX : CXT} {P : Program} {w : World} {K : PySem.W.Frag} {mg : Str → Option Value} {base : Heap} {N ps : List Str} {qual : Str} {scope : Scope} {f : Addr} {cd : Value} {A : Around} {outer : List Env} {s s1 : Shared} {H : Hp} {E : XK} {us : List Value} {vs : List V}
    (S : FnScope N ps scope) (hd : A.handled = none) (e0 : Env0 P w K mg base A outer s H) (hl : vs.length = ps.length) (r : Vals vs us)
    (x : InCallC s s.heap.objs.size (bindL (envOfC qual scope s.heap.objs.size f cd).kindOf (ps.zip us) fun _ => none) (cellsFrom (s.heap.objs.size + 1) scope.names []) (bindC (envOfC qual scope s.heap.objs.size f cd).kindOf (ps.zip us) fun _ => none) s1) :
    Inv (cxOf CX P w K mg base N qual scope f cd A outer s H E) [] (start N vs) H s1 := by
  have hpl : ps.length ≤ N.length := by have := congrArg List.length S.pre; rw [List.length_take] at this; omega
  obtain ⟨h1, tk, rfl, hk⟩ := x.done
  have noA : ∀ b : Addr, b ∉ (cxOf CX P w K mg base N qual scope f cd A outer s H E).ex := fun b z => absurd (show b ∈ ([] : List Addr) from z) (by simp)
  refine ⟨⟨e0.mod, S.kind, rfl, rfl, Nat.le_refl _, fun y z c h1 h2 => ?_, fun y hy => ?_, fun y c _ h => ?_, fun _ => hd, Around.frames_deeper e0.frames, .inr ⟨rfl, rfl⟩, fun b z => absurd z (noA b), e0.bs, e0.bsz, fun b _ _ => noA b, fun b z => absurd z (noA b), e0.funs, e0.frf⟩,
    rfl, e0.bare, Un.kept hk, ⟨_, x.toInCall.ns, fun i y v h1 h2 h3 => ?_⟩, fun y c h => ⟨_, x.cell y c h⟩, e0.hok.fresh (Nat.le_refl _), fun y c h => ?_, fun p hp => absurd (show p ∈ ([] : List (Addr × Obj)) from hp) (by simp), e0.hok.kept hk, ?_⟩
  · exact name_of_addr x.apart (PySem.mem_of_lookup h1) (PySem.mem_of_lookup h2)
  · have hy : scope.names.lookup y = some .cell ∨ scope.names.lookup y = some .free := hy
    rcases hy with hy | hy
    · exact cell_has hy
    · exact absurd rfl (S.nofree _ (PySem.mem_of_lookup hy))
  · exact Nat.le_of_lt (x.above y c (PySem.mem_of_lookup h))
  · have hi : i < vs.length := by
      unfold start at h2
      by_cases hi : i < vs.length
      · exact hi
      · rw [List.getElem?_append_right (by simpa using hi)] at h2
        rw [List.getElem?_replicate] at h2
        split at h2 <;> cases h2
    have ha : vs[i]? = some v := by
      unfold start at h2
      rw [List.getElem?_append_left (by simpa using hi), List.getElem?_map] at h2
      cases e : vs[i]? with
      | none => rw [e] at h2; cases h2
      | some a => rw [e] at h2; cases h2; rfl
    obtain ⟨u, hu, rv⟩ := r.get ha
    have hp : ps[i]? = some y := by
      rw [← S.pre, List.getElem?_take_of_lt (by omega)]; exact h1
    have ndP : ps.Nodup := by rw [← S.pre]; exact S.nd.sublist (List.take_sublist _ _)
    refine ⟨u, rv, ?_⟩
    rcases S.par y (List.mem_of_getElem? hp) with k | k
    · exact .inl ⟨k, bindL_get ndP hp hu k⟩
    · obtain ⟨c, e⟩ := cell_has (n := s.heap.objs.size + 1) k
      refine .inr ⟨.inl k, c, e, ?_⟩
      have q := x.cell y c e
      rw [bindC_get ndP hp hu (by show scope.names.lookup y ≠ _; rw [k]; decide)] at q
      exact q
  · exact e0.hok.fresh (Nat.le_of_lt (x.above y c (PySem.mem_of_lookup h)))
  · unfold start
    show _ = N.length
    rw [List.length_append, List.length_map, List.length_replicate]
    omega

/-- THE RULE: a def (or a method) of the text, by its body. The body's reading t is chosen for each entry; it is run at the parameters' values -/
theorem fn_of {CX : CXT} {P : Program} {w : World} {K : PySem.W.Frag} {mg : Str → Option Value} {base : Heap} {k : Nat} {f : Addr} {name qual : Str} {params : Arguments} {body : List Stmt} {scope : Scope} {dV kV doc pm cdv ct oc : Value} {an od : Option Addr}
    {osl : Array (Option Value)} {N ps : List Str} {sp : Sp} (lk : K.lookup f = some ⟨oc, od, .func (PySem.W.fnOf name qual params body scope dV kV doc pm an cdv ct), osl⟩) (hcd : PySem.W.codeIn K cdv qual = true) (S : FnScope N ps scope)
    (len : ∀ vs H Q E, sp vs H Q E → vs.length = ps.length)
    (hbody : ∀ (A : Around) (outer : List Env) (s : Shared) (H : Hp) (vs : List V) (Q : VK) (E : XK), Room k (A.deeper (envOfC qual scope s.heap.objs.size f cdv)) → sp vs H Q E →
      ∃ t, PSs (cxOf CX P w K mg base N qual scope f cdv A outer s H E) body t ∧ t { nx := fun _ H' => Q .non H', rt := Q } (start N vs) H) :
    FnOk P w K mg base CX (k + 1) f (PySem.W.fnOf name qual params body scope dV kV doc pm an cdv ct) ps sp := by
  refine ⟨len, fun A outer s H args us vs Q E hr e0 hb r hsp => ?_⟩
  have hl := len _ _ _ _ hsp
  have KX : K.In s.heap := e0.mod.kin.keeps fun b o e => (e0.bs b o e).1
  have lim : s.heap.NoLimit := e0.mod.nolimit.keeps fun b o e => (e0.bs b o e).1
  have hkind : ∀ y ∈ ps.zip us, scope.names.lookup y.1 = some .local ∨ (scope.names.lookup y.1 = some .cell ∧ ((cellsFrom (s.heap.objs.size + 1) scope.names []).lookup y.1).isSome = true) := fun ⟨n, v⟩ hy => by
    rcases S.par n (List.of_mem_zip hy).1 with q | q
    · exact .inl q
    · exact .inr ⟨q, PySem.W.cellsFrom_some _ _ _ (.inl q)⟩
  refine codeAny_call_function hr.depth (KX _ _ lk) rfl S.co S.gen rfl (PySem.W.codeRec_of KX hcd) (hb _ _ _ _ ?_)
  refine wpAny_newFunctionEnv_cells S.kind hkind fun env he s1 x => ?_
  subst he
  refine ⟨lim.keeps x.toInCall.keep, codeAny_func ?_⟩
  obtain ⟨t, ht, hq⟩ := hbody A outer s H vs Q E (hr.deeper _) hsp
  have I : Inv (cxOf CX P w K mg base N qual scope f cdv A outer s H E) [] (start N vs) H s1 := inv_start S hr.hd e0 hl r x
  refine wpAny_mono (ht [] s1 (start N vs) H _ I hq) (fun fl s' hs => ?_) fun e s' hs => hs
  have fin : ∀ {σ' : St} {H' : Hp} {v : V} {u : Value}, Inv (cxOf CX P w K mg base N qual scope f cdv A outer s H E) [] σ' H' s' → RelV v u → Q v H' → CE outer P w H s Q u s' :=
    fun {σ' H' v u} J rv q => ⟨v, H', J.os, J.bare, J.base, J.hok, rv, q⟩
  cases fl with
  | ret u =>
    obtain ⟨v, σ', H', J, rv, q⟩ := hs
    exact fin J rv q
  | next =>
    obtain ⟨σ', H', J, q⟩ := hs
    exact fin (v := V.non) (u := Value.none) J rfl q
  | brk =>
    obtain ⟨_, _, _, q⟩ := hs
    exact False.elim q
  | cont =>
    obtain ⟨_, _, _, q⟩ := hs
    exact False.elim q
end L2

namespace L2
open PySem PySem.Spec PyProof.Rows
section
variable {X : Cx} {x : Str} {p pos : Pos} {e : Expr} {es : List Expr} {t : TA} {id T : String} {r : List V → Hp → VK → Prop}

def tCB (r : List V → Hp → VK → Prop) (t : TA) : TE := fun σ H Q => t σ H fun vs H1 => r vs H1 Q
/-- f(e, ..), f a built-in function -/
theorem pe_callB (hc : CallR X (.builtin id) r) (hg : Gl X x) (hm : X.mg x = none) (hv : bootBuiltins x = some (.builtin id)) (ha : PA X (e :: es) t) (hn : x ≠ "__name__" := by decide) (hdb : (x == ("__debug__" : Str)) = false := by decide)
    (he : starEach (e :: es) X.env = (false, eval e X.env) :: starEach es X.env := by rfl) (hpl : (backTo pos (starEach es X.env)).any (·.1) = false := by rfl) : PE X (.Call (.Name x p) (e :: es) [] pos) (tCB r t) := by
  intro pins s σ H Q I h
  refine wpAny_Call_Name_kw (ld_blt I hg hm hv ?_ hn hdb)
  exact PyProof.Rows.callWith_builtin1 (thn (ha pos pins s σ H _ I h) fun us s1 ⟨vs, H1, I1, r1, q1⟩ => hc pins s1 σ H1 vs us Q I1 r1 q1) he hpl
/-- T(e, ..), T a built-in type -/
theorem pe_callTy (hc : CallR X (.type T) r) (hg : Gl X x) (hm : X.mg x = none) (hv : bootBuiltins x = some (.type T)) (ha : PA X (e :: es) t) (hn : x ≠ "__name__" := by decide) (hdb : (x == ("__debug__" : Str)) = false := by decide)
    (he : starEach (e :: es) X.env = (false, eval e X.env) :: starEach es X.env := by rfl) (hpl : (backTo pos (starEach es X.env)).any (·.1) = false := by rfl) : PE X (.Call (.Name x p) (e :: es) [] pos) (tCB r t) := by
  intro pins s σ H Q I h
  refine wpAny_Call_Name_kw (ld_blt I hg hm hv ?_ hn hdb)
  exact PyProof.Rows.callWith_type1 (thn (ha pos pins s σ H _ I h) fun us s1 ⟨vs, H1, I1, r1, q1⟩ => hc pins s1 σ H1 vs us Q I1 r1 q1) he hpl
end
end L2

namespace HT
open PySem PyProof.Rows

section
open PySem.SeqAt
open PySem.AutoSeq1 (wpAny_loadPart')
open PySem.MeetsSeq PySem.MeetsSeq2 PySem.MeetsSeq3

end

section
variable {prog : Program} {w : World} {A : Around} {E : Value → Shared → Prop} {s : Shared}

/-! ### t[a:b], not the whole -/
/-- a slice's bound as a place among n (d where it is left out) -/
def sIx (n d : Nat) : Option Int → Nat
  | none => d
  | some v => if v < 0 then (v + (n : Int)).toNat else min v.toNat n
theorem sIx_none (n d : Nat) : sIx n d none = d := rfl
theorem sIx_nat (n d k : Nat) : sIx n d (some (k : Int)) = min k n := by
  show (if (k : Int) < 0 then ((k : Int) + (n : Int)).toNat else min (k : Int).toNat n) = min k n
  rw [if_neg (by omega), Int.toNat_natCast]
end
end HT

namespace L2
open PySem PySem.Spec PyProof.Rows

/-! ### the parts of a slice -/
abbrev TO := St → Hp → (Option Int → Hp → Prop) → Prop
/-- a slice's part (left out, or an int) -/
def PO (X : Cx) (e : Option Expr) (t : TO) : Prop :=
  ∀ (pins : List (Addr × Obj)) (s : Shared) (σ : St) (H : Hp) (Q : Option Int → Hp → Prop), Inv X pins σ H s → t σ H Q →
    wpAny (model X.prog X.w) X.A (evalPart e X.env) (fun u s' => ∃ o H', Inv X pins σ H' s' ∧ IsPart u o ∧ Q o H') X.xe s
def tNoPart : TO := fun _ H Q => Q none H
def tPart (t : TE) : TO := fun σ H Q => t σ H fun x H1 => ∃ i, x = .int i ∧ Q (some i) H1

theorem intsAre_of {ns : List Int} : ∀ {us : List Value}, Vals (ns.map V.int) us → IntsAre us ns := by
  induction ns with
  | nil => intro us r; rw [List.map_nil] at r; cases r; exact .nil
  | cons n ns ih =>
    intro us r
    rw [List.map_cons] at r
    cases r with
    | cons r1 r2 =>
      obtain ⟨t, e⟩ := r1
      subst e
      exact .cons n t (ih r2)

section
variable {X : Cx} {e : Expr} {te : TE} {lo hi : Option Expr} {tl th : TO} {pos p2 : Pos}

theorem po_none : PO X none tNoPart := by
  intro pins s σ H Q I h
  rw [evalPart_none]
  exact wpAny_pure ⟨none, H, I, .none, h⟩
theorem po_some (h : PE X e te) : PO X (some e) (tPart te) := by
  intro pins s σ H Q I hw
  rw [evalPart_some]
  refine thn (h pins s σ H _ I hw) fun u s1 ⟨x, H1, I1, r1, q1⟩ => ?_
  obtain ⟨i, rfl, q⟩ := q1
  obtain ⟨t, rfl⟩ := r1
  exact ⟨some i, H1, I1, .int i t, q⟩

/-- what a slice of a value is, by values: the slice object stands at sl -/
def SlR (X : Cx) (r : V → Option Int → Option Int → Hp → VK → Prop) : Prop :=
  ∀ (pins : List (Addr × Obj)) (s : Shared) (σ : St) (H : Hp) (x : V) (v vl vu : Value) (lo hi : Option Int) (sl : Addr) (Q : VK), Inv X pins σ H s → RelV x v → s.heap.IsSliceOf sl vl vu .none → IsPart vl lo → IsPart vu hi → r x lo hi H Q →
    ∃ T id, typeLookup (.type T) "__getitem__" = pure (some (.builtin id)) ∧ s.TypeIs v T ∧ wpAny (model X.prog X.w) X.A (getItem v (.ref sl)) (EP X pins σ Q) X.xe s
def tSl (r : V → Option Int → Option Int → Hp → VK → Prop) (te : TE) (tl th : TO) : TE := fun σ H Q => te σ H fun x H1 => tl σ H1 fun l H2 => th σ H2 fun u H3 => r x l u H3 Q
/-- a[lo:hi], any a -/
theorem pe_slice {r : V → Option Int → Option Int → Hp → VK → Prop} (hr : SlR X r) (he : PE X e te) (hl : PO X lo tl) (hu : PO X hi th) : PE X (.Subscript e (.Slice lo hi none p2) pos) (tSl r te tl th) := by
  intro pins s σ H Q I h
  refine Subscript_ (thn (he pins s σ H _ I h) fun v s1 ⟨x, H1, I1, r1, q1⟩ => ?_)
  refine wpAny_Slice (thn (hl pins s1 σ H1 _ I1 q1) fun vl s2 ⟨l, H2, I2, pl, q2⟩ => thn (hu pins s2 σ H2 _ I2 q2) fun vu s3 ⟨u, H3, I3, pu, q3⟩ => ?_)
  rw [evalPart_none]
  refine wpAny_pure ?_
  have I4 : Inv X pins σ H3 { s3 with heap := s3.heap.push { cls := .type "slice", data := .fields #[vl, vu, .none] } } := I3.kept (t' := s3.toks) fun b ob q => Heap.get?_push_of_some _ q
  obtain ⟨T, id, hT, ht, hg⟩ := hr pins { s3 with heap := s3.heap.push { cls := .type "slice", data := .fields #[vl, vu, .none] } } σ H3 x v vl vu l u s3.heap.objs.size Q I4 r1 (Heap.IsSliceOf.new ..) pl pu q3
  show wpAny (model X.prog X.w) X.A (subscriptTail e (.Slice lo hi none p2) v (.ref s3.heap.objs.size)) (EP X pins σ Q) X.xe { s3 with heap := s3.heap.push { cls := .type "slice", data := .fields #[vl, vu, .none] } }
  exact tail_any (ops := [.ref s3.heap.objs.size, v]) ht hT hg (by with_unfolding_all rfl)

/-- the items of xs[lo:hi] -/
def cutV (xs : List V) (lo hi : Option Int) : List V := (xs.drop (HT.sIx xs.length 0 lo)).take (HT.sIx xs.length xs.length hi - HT.sIx xs.length 0 lo)
theorem cutV_length (xs : List V) (lo hi : Option Int) : (cutV xs lo hi).length ≤ xs.length := by
  unfold cutV
  rw [List.length_take, List.length_drop]
  omega
/-! ### t < u, t + u -/
end
end L2

namespace L2
open PySem PySem.Spec PyProof.Rows

/-! ### places -/
/-- the place that an index of any sign means -/
def ixN (n : Nat) (i : Int) : Option Nat := if 0 ≤ i then (if i < n then some i.toNat else none) else if -(n : Int) ≤ i then some (i + n).toNat else none
def atI {α : Type} (xs : List α) (i : Int) : Option α := (ixN xs.length i).bind fun j => xs[j]?
theorem ixN_seq {n : Nat} {i : Int} {j : Nat} (h : ixN n i = some j) : seqIndex? i n = some j ∧ j < n ∧ -(n : Int) ≤ i ∧ i < n := by
  unfold ixN at h
  by_cases h0 : 0 ≤ i
  · rw [if_pos h0] at h
    by_cases h1 : i < n
    · rw [if_pos h1] at h
      have e : i.toNat = j := Option.some.inj h
      exact ⟨by rw [seqIndex_of h0 h1, e], by omega, by omega, h1⟩
    · rw [if_neg h1] at h; cases h
  · rw [if_neg h0] at h
    by_cases h1 : -(n : Int) ≤ i
    · rw [if_pos h1] at h
      have e : (i + n).toNat = j := Option.some.inj h
      exact ⟨by rw [seqIndex_neg (by omega) h1, e], by omega, h1, by omega⟩
    · rw [if_neg h1] at h; cases h
theorem atI_get {α : Type} {xs : List α} {i : Int} {v : α} (h : atI xs i = some v) : ∃ j, seqIndex? i xs.length = some j ∧ xs[j]? = some v ∧ j < xs.length ∧ -(xs.length : Int) ≤ i ∧ i < xs.length := by
  unfold atI at h
  cases e : ixN xs.length i with
  | none => rw [e] at h; cases h
  | some j =>
    rw [e] at h
    obtain ⟨h1, h2, h3, h4⟩ := ixN_seq e
    exact ⟨j, h1, h, h2, h3, h4⟩
theorem atI_nat {α : Type} {xs : List α} {j : Nat} {v : α} (h : xs[j]? = some v) : atI xs (j : Int) = some v := by
  have hj : j < xs.length := (List.getElem?_eq_some_iff.mp h).1
  have e : ixN xs.length (j : Int) = some j := by
    unfold ixN
    rw [if_pos (by omega), if_pos (by omega)]; simp
  unfold atI; rw [e]; exact h
/-! ### what may be subscripted -/
/-- what stands as an index of a plain subscript -/
def PlainIx (b : Expr) : Prop := ∀ o i, subscripted b false o i = operate [o, i] (getItem o i)
/-- a subscript by values -/
def IxR (X : Cx) (r : R2) : Prop :=
  ∀ (value slice : Expr) (pins : List (Addr × Obj)) (s : Shared) (σ : St) (H : Hp) (x y : V) (v u : Value) (Q : VK), Inv X pins σ H s → RelV x v → RelV y u → r x y H Q →
    subscripted slice false v u = operate [v, u] (getItem v u) → wpAny (model X.prog X.w) X.A (subscriptTail value slice v u) (EP X pins σ Q) X.xe s
/-- a call of a builtin's method by values: the receiver, the arguments -/
def MtR (X : Cx) (id : String) (r : V → List V → Hp → VK → Prop) : Prop :=
  ∀ (pins : List (Addr × Obj)) (s : Shared) (σ : St) (H : Hp) (x : V) (xs : List V) (v : Value) (us : List Value) (Q : VK), Inv X pins σ H s → RelV x v → Vals xs us → r x xs H Q →
    wpAny (model X.prog X.w) X.A (call (.builtin id) (v :: us)) (EP X pins σ Q) X.xe s
section
variable {X : Cx} {a b : Expr} {ta tb : TE} {pos : Pos}
/-- a[b] -/
theorem pe_ix {r : R2} (hr : IxR X r) (ha : PE X a ta) (hb : PE X b tb) (hs : PlainIx b) : PE X (.Subscript a b pos) (tOp r ta tb) := by
  intro pins s σ H Q I h
  exact Subscript_ (binT ha hb I h fun v u s2 x y H2 I2 rx ry q => hr a b pins s2 σ H2 x y v u Q I2 rx ry q (hs _ _))

def rIxL (K : PySem.W.Frag) : R2 := fun x y H Q => ∃ p xs i v, x = .ref p ∧ y = .int i ∧ SqL K H p xs ∧ atI xs i = some v ∧ Q v H
def rIxT (K : PySem.W.Frag) : R2 := fun x y H Q => ∃ p xs i v, x = .ref p ∧ y = .int i ∧ SqT K H p xs ∧ atI xs i = some v ∧ Q v H
theorem ix_list : IxR X (rIxL X.K) := by
  intro value slice pins s σ H x y v u Q I rx ry h hs
  obtain ⟨p, xs, i, z, rfl, rfl, hq, he, q⟩ := h
  cases rx
  obtain ⟨t, rfl⟩ := ry
  obtain ⟨its, r, pl, hz⟩ := I.list hq
  obtain ⟨j, h1, h2, h3, h4, h5⟩ := atI_get he
  obtain ⟨w, ew, rw'⟩ := r.get h2
  have hl := r.length
  have hn := line63
  have fin : EP X pins σ Q w s := ⟨z, H, I, rw', q⟩
  by_cases h0 : 0 ≤ i
  · have hj : i.toNat = j := by
      rw [seqIndex_of h0 h5] at h1
      exact Option.some.inj h1
    exact item_listR pl.isList h0 (by omega) (by rw [hj]; simpa using ew) fin hs
  · have hj : (i + (its.toArray.size : Int)).toNat = j := by
      rw [seqIndex_neg (by omega) h4] at h1
      rw [List.size_toArray, ← hl]
      exact Option.some.inj h1
    exact subscriptTail_builtinR (x := w) pl.isList.typeIs slot_list_getitem.lookup
      (wpAny_getItem_list_neg (Q := fun r s' => r = w ∧ EP X pins σ Q r s') pl.isList (by omega) (by rw [List.size_toArray] <;> omega) (by omega) (by rw [hj]; simpa using ew) ⟨rfl, fin⟩) hs
theorem ix_tup : IxR X (rIxT X.K) := by
  intro value slice pins s σ H x y v u Q I rx ry h hs
  obtain ⟨p, xs, i, z, rfl, rfl, hq, he, q⟩ := h
  cases rx
  obtain ⟨t, rfl⟩ := ry
  obtain ⟨its, r, pl, hz⟩ := I.tuple hq
  obtain ⟨j, h1, h2, h3, h4, h5⟩ := atI_get he
  obtain ⟨w, ew, rw'⟩ := r.get h2
  have hl := r.length
  have hn := line63
  have fin : EP X pins σ Q w s := ⟨z, H, I, rw', q⟩
  exact subscriptTail_builtinR (x := w) pl.typeIs slot_tuple_getitem.lookup
    (getItem_tuple (j := j) (Q := fun r s' => r = w ∧ EP X pins σ Q r s') pl (by omega) (by omega) (by rw [List.size_toArray, ← hl]; exact h1) (by simpa using ew) ⟨rfl, fin⟩) hs
/-! ### xs[i] = v, any sign -/
/-! ### slices -/
theorem slice_bounds (lo hi : Option Int) (n : Nat) : (sliceBounds lo hi none n).1 = ((HT.sIx n 0 lo : Nat) : Int) ∧ (sliceBounds lo hi none n).2.1 = ((HT.sIx n n hi : Nat) : Int) ∧ (sliceBounds lo hi none n).2.2 = 1 := by
  refine ⟨?_, ?_, rfl⟩
  · cases lo with
    | none => simp [sliceBounds, HT.sIx]
    | some i =>
      simp only [sliceBounds, HT.sIx, Option.getD_none, show (1 : Int) > 0 by decide, if_true]
      by_cases h : i < 0
      · simp only [h, if_true] <;> omega
      · simp only [h, if_false] <;> omega
  · cases hi with
    | none => simp [sliceBounds, HT.sIx]
    | some i =>
      simp only [sliceBounds, HT.sIx, Option.getD_none, show (1 : Int) > 0 by decide, if_true]
      by_cases h : i < 0
      · simp only [h, if_true] <;> omega
      · simp only [h, if_false] <;> omega
theorem slicePick_cut (its : List Value) (lo hi : Option Int) : slicePick its.toArray lo hi none = ((its.drop (HT.sIx its.length 0 lo)).take (HT.sIx its.length its.length hi - HT.sIx its.length 0 lo)).toArray := by
  obtain ⟨h1, h2, h3⟩ := slice_bounds lo hi its.toArray.size
  unfold slicePick
  rw [h1, h2, h3]
  simp only [sliceRange_one, pick_run, List.size_toArray] <;> rfl
/-- xs[lo:hi] of a list: a new list -/
def rSlL (K : PySem.W.Frag) : V → Option Int → Option Int → Hp → VK → Prop := fun x lo hi H Q => ∃ a xs, x = .ref a ∧ SqL K H a xs ∧ ∀ p, H p = none → Q (.ref p) (upd H p (.lst (cutV xs lo hi)))
theorem sl_list : SlR X (rSlL X.K) := by
  intro pins s σ H x v vl vu lo hi sl Q I rx hs pl pu h
  obtain ⟨a, xs, rfl, hx, q⟩ := h
  cases rx
  obtain ⟨its, r, ht, hz⟩ := I.list hx
  have hlen := r.length
  refine ⟨"list", _, slot_list_getitem.lookup, ht.isList.typeIs, ?_⟩
  refine wpAny_getItem_list_slice ht.isList hs pl pu .none (by simp) ?_ (by rw [List.size_toArray] <;> omega)
  rw [slicePick_cut, ← hlen]
  refine ⟨.ref s.heap.objs.size, _, I.laid (t' := s.toks) (o := .lst (cutV xs lo hi)) (fun b ob q => Heap.get?_push_of_some _ q) (Nat.le_refl _) ?_, rfl, q _ (I.hok.fresh (Nat.le_refl _))⟩
  exact ⟨Nat.le_trans (cutV_length xs lo hi) hz, _, 0, (r.drop (HT.sIx xs.length 0 lo)).take (HT.sIx xs.length xs.length hi - HT.sIx xs.length 0 lo), Heap.get?_push_size _ rfl⟩

/-! ### in, not in: flat items -/
def flatV : V → Bool
  | .non => true
  | .bl _ => true
  | .int _ => true
  | .str _ => true
  | _ => false
/-- == of flat values -/
def eqV : V → V → Bool
  | .non, .non => true
  | .bl a, .bl b => a == b
  | .bl a, .int b => (if a then 1 else 0) == b
  | .int a, .bl b => a == (if b then 1 else 0)
  | .int a, .int b => a == b
  | .str a, .str b => a == b
  | _, _ => false
theorem eqAt_V {A : Around} {s : Shared} {y x : V} {u v : Value} (ry : RelV y u) (rx : RelV x v) (fy : flatV y = true) (fx : flatV x = true) : SeqAt.EqAt A s u v (eqV y x) := by
  cases y with
  | non =>
    cases ry
    cases x with
    | non => cases rx; exact SeqAt.EqAt.same _
    | bl b => cases rx; exact SeqAt.EqAt.none_bool b
    | int b => obtain ⟨t, rfl⟩ := rx; exact SeqAt.EqAt.none_int b t
    | str b => obtain ⟨t, rfl⟩ := rx; exact SeqAt.EqAt.none_str b t
    | _ => exact absurd (show false = true from fx) Bool.false_ne_true
  | bl a =>
    cases ry
    cases x with
    | non => cases rx; exact SeqAt.EqAt.bool_none a
    | bl b => cases rx; exact SeqAt.EqAt.bool_bool a b
    | int b => obtain ⟨t, rfl⟩ := rx; exact SeqAt.EqAt.bool_int a b t
    | str b => obtain ⟨t, rfl⟩ := rx; exact SeqAt.EqAt.bool_str a b t
    | _ => exact absurd (show false = true from fx) Bool.false_ne_true
  | int a =>
    obtain ⟨t', rfl⟩ := ry
    cases x with
    | non => cases rx; exact SeqAt.EqAt.int_none a t'
    | bl b => cases rx; exact SeqAt.EqAt.int_bool a t' b
    | int b => obtain ⟨t, rfl⟩ := rx; exact SeqAt.EqAt.int_int a t' b t
    | str b => obtain ⟨t, rfl⟩ := rx; exact SeqAt.EqAt.int_str a t' b t
    | _ => exact absurd (show false = true from fx) Bool.false_ne_true
  | str a =>
    obtain ⟨t', rfl⟩ := ry
    cases x with
    | non => cases rx; exact SeqAt.EqAt.str_none a t'
    | bl b => cases rx; exact SeqAt.EqAt.str_bool a t' b
    | int b => obtain ⟨t, rfl⟩ := rx; exact SeqAt.EqAt.str_int a t' b t
    | str b => obtain ⟨t, rfl⟩ := rx; exact SeqAt.EqAt.str_str a t' b t
    | _ => exact absurd (show false = true from fx) Bool.false_ne_true
  | _ => exact absurd (show false = true from fy) Bool.false_ne_true
/-- the items' answers, read off the values (a value's own answer does not lean on its token) -/
def eqU (x : V) (u : Value) : Bool := match u with
  | .none => eqV .non x
  | .bool b => eqV (.bl b) x
  | .int i _ => eqV (.int i) x
  | .str z _ => eqV (.str z) x
  | _ => false
theorem eqU_of {x y : V} {u : Value} (r : RelV y u) (f : flatV y = true) : eqU x u = eqV y x := by
  cases y with
  | non => cases r; rfl
  | bl b => cases r; rfl
  | int i => obtain ⟨t, rfl⟩ := r; rfl
  | str z => obtain ⟨t, rfl⟩ := r; rfl
  | _ => exact absurd (show false = true from f) Bool.false_ne_true
theorem any_eqU {x : V} : ∀ {xs : List V} {us : List Value}, Vals xs us → xs.all flatV = true → us.any (eqU x) = xs.any fun y => eqV y x
  | _, _, .nil, _ => rfl
  | y :: xs, u :: us, .cons r t, f => by
    rw [List.all_cons, Bool.and_eq_true] at f
    rw [List.any_cons, List.any_cons, eqU_of r f.1, any_eqU t f.2]
theorem mem_eqAt {A : Around} {s : Shared} {x : V} {v : Value} (rx : RelV x v) (fx : flatV x = true) : ∀ {xs : List V} {us : List Value}, Vals xs us → xs.all flatV = true → ∀ u ∈ us, SeqAt.EqAt A s u v (eqU x u)
  | _, _, .nil, _ => fun u hu => by cases hu
  | y :: xs, u :: us, .cons r t, f => fun u' hu => by
    rw [List.all_cons, Bool.and_eq_true] at f
    rcases List.mem_cons.mp hu with rfl | hu
    · rw [eqU_of r f.1]; exact eqAt_V r rx f.1 fx
    · exact mem_eqAt rx fx t f.2 u' hu
def inV (x : V) (xs : List V) : Bool := xs.any fun y => eqV y x
/-- x in a list or tuple of flat items -/
def rIn (K : PySem.W.Frag) (neg : Bool) : R2 := fun x y H Q => ∃ p xs, y = .ref p ∧ (SqL K H p xs ∨ SqT K H p xs) ∧ flatV x = true ∧ xs.all flatV = true ∧ Q (.bl (if neg then !inV x xs else inV x xs)) H
theorem op_in_seq : OpR X (compareOp .In) (rIn X.K false) := by
  intro pins s σ H x y v u Q I rx ry h
  obtain ⟨p, xs, rfl, hq, fx, fs, q⟩ := h
  cases ry
  rcases hq with hq | hq
  · obtain ⟨its, r, pl, hz⟩ := I.list hq
    refine SeqAt.in_listAt (eqU x) pl.isList (fun w hw => mem_eqAt rx fx r fs w (by simpa using hw)) ⟨.bl _, H, I, rfl, ?_⟩
    rw [show its.toArray.any (eqU x) = its.any (eqU x) by simp, any_eqU r fs]
    exact q
  · obtain ⟨its, r, pl, hz⟩ := I.tuple hq
    refine SeqAt.in_tupleAt (eqU x) pl (fun w hw => mem_eqAt rx fx r fs w (by simpa using hw)) ⟨.bl _, H, I, rfl, ?_⟩
    rw [show its.toArray.any (eqU x) = its.any (eqU x) by simp, any_eqU r fs]
    exact q
theorem op_notIn_seq : OpR X (compareOp .NotIn) (rIn X.K true) := by
  intro pins s σ H x y v u Q I rx ry h
  obtain ⟨p, xs, rfl, hq, fx, fs, q⟩ := h
  cases ry
  rcases hq with hq | hq
  · obtain ⟨its, r, pl, hz⟩ := I.list hq
    refine SeqAt.notIn_listAt (eqU x) pl.isList (fun w hw => mem_eqAt rx fx r fs w (by simpa using hw)) ⟨.bl _, H, I, rfl, ?_⟩
    rw [show its.toArray.any (eqU x) = its.any (eqU x) by simp, any_eqU r fs]
    exact q
  · obtain ⟨its, r, pl, hz⟩ := I.tuple hq
    refine SeqAt.notIn_tupleAt (eqU x) pl (fun w hw => mem_eqAt rx fx r fs w (by simpa using hw)) ⟨.bl _, H, I, rfl, ?_⟩
    rw [show its.toArray.any (eqU x) = its.any (eqU x) by simp, any_eqU r fs]
    exact q
/-! ### len, list(x), tuple(x) of any list or tuple that is read -/
theorem call_len_seq : CallR X (.builtin "len") (fun xs H Q => ∃ p ys, xs = [.ref p] ∧ (SqL X.K H p ys ∨ SqT X.K H p ys) ∧ Q (.int ys.length) H) := by
  intro pins s σ H xs us Q I r h
  obtain ⟨p, ys, rfl, hq, q⟩ := h
  obtain ⟨u, rfl, rx⟩ := vals1 r
  cases rx
  have hn := line63
  rcases hq with hq | hq
  · obtain ⟨its, r', pl, hz⟩ := I.list hq
    have hlen := r'.length
    exact Calls.call_len_list pl.isList (by simp only [List.size_toArray] <;> omega) ⟨.int ys.length, H, I.tok _, ⟨s.toks + 1, by rw [List.size_toArray, hlen]⟩, q⟩
  · obtain ⟨its, r', pl, hz⟩ := I.tuple hq
    have hlen := r'.length
    exact len_tuple pl (by simp only [List.size_toArray] <;> omega) ⟨.int ys.length, H, I.tok _, ⟨s.toks + 1, by rw [List.size_toArray, hlen]⟩, q⟩
theorem call_list_of : CallR X (.type "list") (fun xs H Q => ∃ p ys, xs = [.ref p] ∧ (SqL X.K H p ys ∨ SqT X.K H p ys) ∧ ∀ l, H l = none → Q (.ref l) (upd H l (.lst ys))) := by
  intro pins s σ H xs us Q I r h
  obtain ⟨p, ys, rfl, hq, q⟩ := h
  obtain ⟨u, rfl, rx⟩ := vals1 r
  cases rx
  have fin : ∀ (its : List Value), Vals ys its → ys.length ≤ sizeLine → ∀ (h' : Heap) (c' : Nat), (∀ b o', s.heap.get? b = some o' → h'.get? b = some o') →
      h'.get? s.heap.objs.size = some { cls := .type "list", dict := none, data := .seq its.toArray c', slots := #[] } → EP X pins σ Q (.ref s.heap.objs.size) { s with heap := h' } := fun its r' hz h' c' kp e =>
    ⟨.ref s.heap.objs.size, _, I.laid (t' := s.toks) kp (Nat.le_refl _) (show ObjOk X.prog X.w _ h' _ (.lst ys) from ⟨hz, its, c', r', e⟩), rfl, q _ (I.hok.fresh (Nat.le_refl _))⟩
  rcases hq with hq | hq
  · obtain ⟨its, r', pl, hz⟩ := I.list hq
    have hlen := r'.length
    obtain ⟨o, ho, hc, n, hd⟩ := pl.isList
    exact call_list_seq p (.inl rfl) ho hc hd (fun h' c' kp e => fin its r' hz h' c' kp e) (by simp only [List.size_toArray] <;> omega)
  · obtain ⟨its, r', pl, hz⟩ := I.tuple hq
    have hlen := r'.length
    obtain ⟨o, ho, hc, n, hd⟩ := pl
    exact call_list_seq p (.inr rfl) ho hc hd (fun h' c' kp e => fin its r' hz h' c' kp e) (by simp only [List.size_toArray] <;> omega)
theorem call_tuple_of : CallR X (.type "tuple") (fun xs H Q => ∃ p ys, xs = [.ref p] ∧ ((SqL X.K H p ys ∧ ∀ l, H l = none → Q (.ref l) (upd H l (.tup ys))) ∨ (SqT X.K H p ys ∧ Q (.ref p) H))) := by
  intro pins s σ H xs us Q I r h
  obtain ⟨p, ys, rfl, h⟩ := h
  obtain ⟨u, rfl, rx⟩ := vals1 r
  cases rx
  rcases h with ⟨hq, q⟩ | ⟨hq, q⟩
  · obtain ⟨its, r', pl, hz⟩ := I.list hq
    have hlen := r'.length
    refine call_tuple_list pl.isList (fun h' kp => ?_) (by simp only [List.size_toArray] <;> omega)
    have I1 : Inv X pins σ H { s with heap := h' } := I.kept (t' := s.toks) kp
    have I2 : Inv X pins σ (upd H h'.objs.size (.tup ys)) { s with heap := h'.push { cls := .type "tuple", data := .seq its.toArray } } :=
      I1.laid (t' := s.toks) (fun b o e => Heap.get?_push_of_some _ e) (Nat.le_refl _) (show ObjOk X.prog X.w _ _ _ (.tup ys) from ⟨hz, its, r', IsTup.new _ _⟩)
    exact ⟨.ref h'.objs.size, _, I2, rfl, q _ (I1.hok.fresh (Nat.le_refl _))⟩
  · obtain ⟨its, r', pl, hz⟩ := I.tuple hq
    exact call_tuple_same pl ⟨.ref p, H, I, rfl, q⟩

/-! ### the call of a builtin's method: o.m(..) -/
/-- the value is of that builtin type -/
def tyV (K : PySem.W.Frag) (T : String) (x : V) (H : Hp) : Prop := match x with
  | .str _ => T = "str"
  | .int _ => T = "int"
  | .ref p => (T = "list" ∧ ∃ xs, SqL K H p xs) ∨ (T = "tuple" ∧ ∃ o, K.lookup p = some o ∧ o.cls = .type "tuple" ∧ o.dict = none) ∨
      (T = "dict" ∧ ((∃ kvs, H p = some (.dK kvs)) ∨ ∃ kvs, H p = some (.dT kvs))) ∨ (T = "set" ∧ ∃ S n, H p = some (.set S n))
  | _ => False
theorem tyV_is {pins : List (Addr × Obj)} {σ : St} {H : Hp} {s : Shared} {T : String} {x : V} {v : Value} (I : Inv X pins σ H s) (r : RelV x v) (ty : tyV X.K T x H) :
    s.TypeIs v T ∧ ∀ a, v = .ref a → ∃ ob, s.heap.get? a = some ob ∧ ob.dict = none := by
  cases x with
  | str z =>
    obtain ⟨t, rfl⟩ := r
    cases (show T = "str" from ty)
    exact ⟨typeIs_str s z t, fun _ e => nomatch e⟩
  | int i =>
    obtain ⟨t, rfl⟩ := r
    cases (show T = "int" from ty)
    exact ⟨typeIs_int s i t, fun _ e => nomatch e⟩
  | ref p =>
    cases r
    rcases ty with ⟨rfl, xs, hq⟩ | ⟨rfl, o, hk, hc, hd⟩ | ⟨rfl, hk⟩ | ⟨rfl, S, n, hk⟩
    · obtain ⟨its, _, pl, _⟩ := I.list hq
      refine ⟨pl.isList.typeIs, fun a e => ?_⟩
      cases e
      obtain ⟨o, n, e, c, hd, _⟩ := pl
      exact ⟨o, e, hd⟩
    · refine ⟨⟨o, I.kIn p o hk, hc⟩, fun a e => ?_⟩
      cases e
      exact ⟨o, I.kIn _ o hk, hd⟩
    · have z : ∃ o, s.heap.get? p = some o ∧ o.ExactDict := by
        rcases hk with ⟨kvs, hk⟩ | ⟨kvs, hk⟩
        · obtain ⟨_, _, _, _, o, _, _, e, ex, _⟩ := I.hok p _ hk
          exact ⟨o, e, ex⟩
        · obtain ⟨_, _, _, _, o, _, _, e, ex, _⟩ := I.hok p _ hk
          exact ⟨o, e, ex⟩
      obtain ⟨o, e, ex⟩ := z
      refine ⟨⟨o, e, ex.1⟩, fun a e2 => ?_⟩
      cases e2
      exact ⟨o, e, ex.2.1⟩
    · obtain ⟨o, _, _, _, e, ex, _⟩ := I.hok p _ hk
      refine ⟨⟨o, e, ex.1⟩, fun a e2 => ?_⟩
      cases e2
      exact ⟨o, e, ex.2.1⟩
  | _ => exact False.elim ty
def tBM (K : PySem.W.Frag) (T : String) (r : V → List V → Hp → VK → Prop) (to : TE) (t : TA) : TE := fun σ H Q => to σ H fun x H1 => tyV K T x H1 ∧ t σ H1 fun xs H2 => r x xs H2 Q
variable {o e : Expr} {es : List Expr} {to : TE} {t : TA} {name : Str} {apos cpos : Pos} {T id : String} {r : V → List V → Hp → VK → Prop}
theorem pe_bm (pa : PlainAttrs T) (slot : Slot T name id) (hty : typeOf (.builtin id) = pure (.type "method_descriptor")) (hm : MtR X id r) (ho : PE X o to) (ha : PA X (e :: es) t)
    (hbase : attributeBase o name X.env (eval o X.env) = eval o X.env := by rfl)
    (hfew : ((backTo cpos (starEach (e :: es) X.env)).all (fun x => !x.1) && (backToKw cpos (keywordEach [] X.env)).all (fun x => x.1.isSome)
      && decide ((e :: es).length + ([] : List Keyword).length + (if ([] : List Keyword).isEmpty then 0 else 1) < 30)) = true := by rfl)
    (hline : (apos.endLine == cpos.line) = true := by rfl) (hs : starEach (e :: es) X.env = (false, eval e X.env) :: starEach es X.env := by rfl) (hplain : (backTo cpos (starEach es X.env)).any (·.1) = false := by rfl) :
    PE X (.Call (.Attribute o name apos) (e :: es) [] cpos) (tBM X.K T r to t) := by
  intro pins s σ H Q I h
  refine wpAny_Call_method_late hbase hfew hline rfl (thn (ho pins s σ H _ I h) fun v s1 ⟨x, H1, I1, r1, ty, q1⟩ => ?_)
  obtain ⟨h1, h2⟩ := tyV_is I1 r1 ty
  refine ⟨T, id, pa, slot, hty, h1, h2, ?_⟩
  have hA := ha cpos pins s1 σ H1 _ I1 q1
  rw [hs] at hA ⊢
  refine Calls.callWith_builtin (by show (false || (backTo cpos (starEach es X.env)).any (·.1)) = false; rw [hplain] <;> rfl) (Calls.evalArgs_plain ?_)
  exact thn hA fun us s2 ⟨vs, H2, I2, r2, q2⟩ => hm pins s2 σ H2 x vs v us Q I2 r1 r2 q2
/- xs.append(e), list.index on a module's tuple .. are MtR facts of 06m -/
end
end L2

namespace L2
open PySem PySem.Spec PyProof.Rows

def MtM (X : Cx) (id : String) (r : V → List V → Hp → VK → Prop) : Prop :=
  ∀ (pins : List (Addr × Obj)) (s : Shared) (σ : St) (H : Hp) (x : V) (xs : List V) (v : Value) (us : List Value) (Q : VK), Inv X pins σ H s → RelV x v → Vals xs us → r x xs H Q →
    wpAny (model X.prog X.w) X.A (call (.builtin id) (v :: us)) (EP X pins σ Q) X.xe s

/-! ### lists of values -/
theorem Vals.one : ∀ {x : V} {us : List Value}, Vals [x] us → ∃ u, us = [u] ∧ RelV x u
  | _, _, .cons r .nil => ⟨_, rfl, r⟩
theorem Vals.reverse {xs : List V} {us : List Value} (h : Vals xs us) : Vals xs.reverse us.reverse := by
  induction h with
  | nil => exact .nil
  | cons r t ih => rw [List.reverse_cons, List.reverse_cons]; exact Vals.append ih (.cons r .nil)
section
variable {X : Cx} {pins : List (Addr × Obj)} {σ : St} {H : Hp} {s : Shared} {l b : Addr} {xs ys zs : List V}

/-! ### the two steps: a tracked list is rewritten, a new list is laid -/
theorem Inv.lset {its its' : List Value} {n : Nat} {f : Array Value → Array Value} {t' : Nat} (I : Inv X pins σ H s) (hH : H l = some (.lst xs))
    (e : s.heap.get? l = some { cls := .type "list", data := .seq its.toArray n }) (hf : f its.toArray = its'.toArray) (hv : Vals ys its') (hz : ys.length ≤ sizeLine) :
    Inv X pins σ (upd H l (.lst ys)) { s with heap := s.heap.update l (Obj.mapSeq f), toks := t' } := by
  have q := PySem.IsL.update e f
  rw [hf] at q
  refine I.write (x := l) (e := l) (by rw [hH]; exact trivial) (.inl rfl) (fun b' u hb hu => (Heap.get?_update_other s.heap (Obj.mapSeq f) (Ne.symm hb)).trans hu) ⟨_, q⟩ ?_
  exact ⟨hz, its', _, hv, q⟩
theorem Inv.lnew {its : List Value} {t' : Nat} (I : Inv X pins σ H s) (hv : Vals ys its) (hz : ys.length ≤ sizeLine) :
    Inv X pins σ (upd H s.heap.objs.size (.lst ys)) { s with heap := s.heap.push { cls := .type "list", data := .seq its.toArray }, toks := t' } :=
  I.laid (fun _ _ q => Heap.get?_push_of_some _ q) (Nat.le_refl _) ⟨hz, its, 0, hv, Heap.get?_push_size _ rfl⟩
theorem Inv.fresh (I : Inv X pins σ H s) : H s.heap.objs.size = none := I.hok.fresh (Nat.le_refl _)
theorem Inv.lstM (I : Inv X pins σ H s) (hH : H l = some (.lst xs)) : xs.length ≤ sizeLine ∧ ∃ (its : List Value) (n : Nat), Vals xs its ∧ xs.length = its.length ∧ s.heap.get? l = some { cls := .type "list", data := .seq its.toArray n } := by
  obtain ⟨z, its, n, r, e⟩ := I.hok l _ hH
  exact ⟨z, its, n, r, r.length, e⟩

theorem notLongL {n : Nat} (h : n ≤ sizeLine) : Builtin.List.listTooLong n = false := by
  unfold Builtin.List.listTooLong
  exact decide_eq_false (by omega)
end

section
variable {X : Cx}

/-! ### methods -/
def rAppend : V → List V → Hp → VK → Prop := fun x vs H Q => ∃ l xs y, x = .ref l ∧ vs = [y] ∧ H l = some (.lst xs) ∧ xs.length < sizeLine ∧ Q .non (upd H l (.lst (xs ++ [y])))
theorem mt_append : MtM X "list.append" rAppend := by
  intro pins s σ H x vs v us Q I rx rv h
  obtain ⟨l, xs, y, rfl, rfl, hH, hz, q⟩ := h
  cases rx
  obtain ⟨u, rfl, ru⟩ := rv.one
  obtain ⟨z, its, n, r, hl, e⟩ := I.lstM hH
  refine call_meets F.slot_list_append ⟨_, e, rfl⟩ F.entry_list_append (F.args_list_append_2 _ _) (PySem.list_append l its.toArray n u (by rw [List.size_toArray]; omega)) ⟨e, ?_⟩
  refine ⟨.non, _, I.lset (its' := its ++ [u]) hH e (by simp) (r.append (.cons ru .nil)) ?_, rfl, q⟩
  rw [List.length_append, List.length_singleton]
  omega

/-! ### list + list, list += list, list * int -/
def rCat : R2 := fun x y H Q => ∃ l b xs zs, x = .ref l ∧ y = .ref b ∧ H l = some (.lst xs) ∧ H b = some (.lst zs) ∧ xs.length + zs.length ≤ sizeLine ∧ ∀ p, H p = none → Q (.ref p) (upd H p (.lst (xs ++ zs)))
theorem op_cat : OpR X (binaryOp .Add) rCat := by
  intro pins s σ H x y v u Q I rx ry h
  obtain ⟨l, b, xs, zs, rfl, rfl, hH, hB, hz, q⟩ := h
  cases rx
  cases ry
  obtain ⟨z, its, n, r, hl, e⟩ := I.lstM hH
  obtain ⟨z2, its2, n2, r2, hl2, e2⟩ := I.lstM hB
  refine PySem.P.add_list e e2 ?_ (by rw [List.size_toArray, List.size_toArray]; omega)
  have ea : its.toArray ++ its2.toArray = (its ++ its2).toArray := by simp
  rw [ea]
  exact ⟨.ref _, _, I.lnew (t' := s.toks) (r.append r2) (by rw [List.length_append]; omega), rfl, q _ I.fresh⟩
/-! ### del xs[i] -/
end

/-! ### xs[a:b] = ys -/
section
variable {prog : Program} {w : World} {A : Around} {E : Value → Shared → Prop} {s : Shared}
set_option maxRecDepth 100000 in
end

section
variable {X : Cx}
end
end L2

namespace Att
open PySem PySem.W PySem.Calls PyProof.Rows

/-! ### the script -/
theorem ints_of_wellAll {P : Params} {h : Heap} : ∀ (ns : List Int) (vs : List Value), WellAll P h vs (ns.map WData.int) → IntsAre vs ns := by
  intro ns
  induction ns with
  | nil =>
    intro vs w
    rw [List.map_nil] at w
    cases w
    exact .nil
  | cons n ns ih =>
    intro vs w
    rw [List.map_cons] at w
    cases w with
    | cons a b =>
      cases a
      exact .cons _ _ (ih _ b)

theorem script_of {l : OpenLaw} {n : Nat} (hn : l.most = some n) {P : Params} {h : Heap} {args : List WData} {vals : List Value}
    (hpre : l.row.toRowW.claim.pre args = true) (hwl : WellAll P h vals args) :
    ∃ a vs ns, vals = [Value.ref a] ∧ args = [WData.list (ns.map WData.int)] ∧ h.get? a = some { cls := .type "list", data := .seq vs.toArray } ∧ IntsAre vs ns ∧ ns.length ≤ n := by
  have hsh : WShape.hasAll [] args [.list .int] = true := (pre_splitW hpre).1
  have hc : l.pre.holds [] { args := args } = true := (pre_splitW hpre).2
  obtain ⟨d, r, rfl, h1, h2⟩ := hasAllW_cons hsh
  obtain rfl := hasAllW_nil h2
  obtain ⟨xs, rfl, h3⟩ := hasW_list h1
  obtain ⟨ns, rfl⟩ := items_int h3
  have hlen : ns.length ≤ n := by
    unfold OpenLaw.pre at hc
    have h4 : (WTm.not (.lt (.lit (.int (n : Int))) (.len (.arg 0)))).holds [] { args := [.list (ns.map .int)] } = true := by
      have h4 := (holds_andW hc).1
      rw [hn] at h4
      exact h4
    have h5 := condW_of h4 (w_not (w_lt w_lit (w_len_list (w_arg rfl))))
    rw [List.length_map] at h5
    refine Nat.le_of_not_lt fun q => ?_
    have q' : (n : Int) < ((ns.length : Nat) : Int) := by omega
    first
      | (rw [decide_eq_true q'] at h5; exact absurd h5 (by decide))
      | (simp at h5; omega)
  cases hwl with
  | cons w1 w2 =>
    cases w2
    cases w1 with
    | list ho hall => exact ⟨_, _, ns, rfl, rfl, ho, ints_of_wellAll ns _ hall, hlen⟩

theorem post_true (l : OpenLaw) (args : List WData) : l.row.toRowW.claim.post args (.bool true) args = true :=
  postW_of (r := l.row.toRowW) (X := (true == true))
    (show WShape.has [] (.bool true) .bool = true by first | rfl | decide | simp [WShape.has, WShape.arms, WShape.armsAll])
    (show (WTm.eq .res (.lit (.bool true))).value [] { args := args, res := some (.bool true), after := args } = some (.bool (true == true)) from w_eq_bool (w_res rfl) w_lit) rfl

/-! ### the attachment: holds_open's last premise (the goal 'hc' behind k_head) from a wpAny of the law's body -/
/-- the same from a codeAny of the CALL (for a layer whose function contracts speak of calls) -/
theorem attach_call {l : OpenLaw} {n : Nat} {q : Program} {loose : List Str} {XP : (Str → Option Value) → Heap → Prop} {YP : World → Heap → Prop} {d : DefRec}
    (hn : l.most = some n) (hdf : d.params.defaults = [])
    (call : ∀ (w : World) (s₀ s₁ : Shared) (mg mb : Str → Option Value) (fa : Addr) (o : Obj) (pm cd doc : Value) (a : Addr) (vs : List Value) (ns : List Int),
      Ground q loose [] XP w s₀ mg mb s₁.heap → YP w s₁.heap →
      s₁.heap.get? fa = some o → o.data = .func (docDef d.name d.params d.body d.scope pm cd doc) → s₁.heap.CodeRec cd d.name → mg d.name = some (.ref fa) →
      s₁.heap.get? a = some { cls := .type "list", data := .seq vs.toArray } → IntsAre vs ns → ns.length ≤ n → s₁.gens = #[] →
      codeAny (model l.prog w) callerA (.call (.ref fa) ⟨[.ref a], []⟩) (fun r s' => r = .ok (.ret (.bool true)) ∧ OldK s₁.heap s'.heap ∧ s'.os = s₁.os ∧ AllBare s'.gens) s₁) :
    WalkO q loose XP YP l.row.toRowW d [] (fun f vs => PySem.call f vs) := by
  intro w s₀ s₁ mg mb G Y fa o pm cd doc dV kV ho hd hcd hD hmg hg args vals as hpre hlay hrd hwl hlo
  obtain rfl : dV = .none := Dflts.none hD hdf
  obtain rfl : kV = .none := Dflts.noKw hD
  obtain ⟨a, vs, ns, rfl, rfl, hobj, hints, hlen⟩ := script_of hn hpre hwl
  refine enter_call (codeAny_mono (call w s₀ s₁ mg mb fa o pm cd doc a vs ns G Y ho (fd_plain hd) hcd hmg hobj hints hlen hg) fun r s' hq => ?_)
  obtain ⟨rfl, h2, h3, h4⟩ := hq
  exact ⟨.inl ⟨.bool true, .bool true, [], rfl, fun _ => rfl, .bool true, post_true l _, fun _ => ⟨List.Pairwise.nil, fun _ hm => (nomatch hm)⟩⟩, h2, h3, h4⟩

/-! ### rules over ANY heap (no ledger) from facts about the written part K: the library's own take a ledger (News) for what they write -/
section
variable {prog : Program} {w : World} {A : Around} {E : Value → Shared → Prop} {s : Shared} {K : Frag}

/-! the whole heap as the ledger: makes every rule that writes through a ledger a rule over any heap -/
end
end Att

namespace L2
open PySem PySem.Spec PyProof.Rows

theorem vals_ints : ∀ {vs : List Value} {ns : List Int}, IntsAre vs ns → Vals (ns.map V.int) vs
  | _, _, .nil => .nil
  | _, _, .cons n t h => .cons ⟨t, rfl⟩ (vals_ints h)

/-- nothing is tracked but the script, known to the object (or it is an object of the module) -/
def Only (H : Hp) : Prop := ∀ b, H b = none ∨ ∃ o xs, H b = some (.frz o (.lst xs))

/-- THE HEAD: the law's promise, at the heap behind the top. F, the promise of the law's def, may use that base is part of the heap (so K.In base, base.Ns mainGlobals mg stand in Mod) -/
theorem law_call {P : Program} {w : World} {K : PySem.W.Frag} {mg mb : Str → Option Value} {CX : CXT} {k : Nat} {fa a : Addr} {fd : FuncData} {x : Str} {sp : Sp} {s₁ : Shared} {vs : List Value} {ns : List Int}
    (KX : K.In s₁.heap) (hns : s₁.heap.Ns mainGlobals mg) (hb : s₁.heap.Ns builtinsNs mb) (hbb : ∀ x : Str, x ≠ "__name__" → mb x = bootBuiltins x) (hlim : s₁.heap.NoLimit) (hg : s₁.gens = #[])
    (ha : s₁.heap.get? a = some { cls := .type "list", data := .seq vs.toArray }) (hi : IntsAre vs ns) (hl : ns.length ≤ sizeLine) (hr : Room k callerA)
    (F : ∀ base : Heap, K.In base → base.Ns mainGlobals mg → FnOk P w K mg base CX k fa fd [x] sp) (hbind : ∀ (s : Shared) (u : Value), BindsTo s fd ⟨[u], []⟩ [(x, u)])
    (hsp : ∀ H : Hp, Only H → SqL K H a (ns.map V.int) → sp [.ref a] H (fun v _ => v = .bl true) fun _ _ _ => False)
    (hCX : ∀ H e s', CX [] H s₁ (fun _ _ _ => False) e s' → False) :
    codeAny (model P w) callerA (.call (.ref fa) ⟨[.ref a], []⟩) (fun r s' => r = .ok (.ret (.bool true)) ∧ OldK s₁.heap s'.heap ∧ s'.os = s₁.os ∧ AllBare s'.gens) s₁ := by
  have rv := vals_ints hi
  have lenV := hi.length
  -- from an abstract heap in which nothing but the script may be tracked
  have core : ∀ H : Hp, Only H → SqL K H a (ns.map V.int) → HOk P w H s₁.heap → (∀ b, H b ≠ none → b = a) → (H a ≠ none → K.lookup a = none) →
      codeAny (model P w) callerA (.call (.ref fa) ⟨[.ref a], []⟩) (fun r s' => r = .ok (.ret (.bool true)) ∧ OldK s₁.heap s'.heap ∧ s'.os = s₁.os ∧ AllBare s'.gens) s₁ := by
    intro H hO hS hok hA hK
    have base_of : ∀ {b : Addr} {o : Obj}, s₁.heap.get? b = some o → H b = none → (hidT s₁.heap H).get? b = some o := fun e n => hidT_get e n
    have noA : ∀ {b : Addr} {o : Obj} {es : Array DictEntry} {ep : Nat}, s₁.heap.get? b = some o → o.data = .dict es ep → H b = none := fun {b o es ep} e d => by
      cases q : H b with
      | none => rfl
      | some u =>
        have e' : b = a := hA b (by rw [q]; simp)
        subst e'
        rw [ha] at e; cases e
        have d' : Data.seq vs.toArray _ = Data.dict es ep := d
        cases d'
    have nsK : ∀ {b : Addr} {m : Str → Option Value}, s₁.heap.Ns b m → (hidT s₁.heap H).Ns b m := fun {b m} ⟨o, es, ep, e, d, r⟩ => ⟨o, es, ep, base_of e (noA e d), d, r⟩
    have hKb : K.In (hidT s₁.heap H) := fun b o e => base_of (KX b o e) (by
      cases q : H b with
      | none => rfl
      | some u =>
        have e' : b = a := hA b (by rw [q]; simp)
        subst e'
        rw [hK (by rw [q]; simp)] at e; cases e)
    have hM : Mod K mg (hidT s₁.heap H) := ⟨hKb, nsK hns, ⟨mb, nsK hb, hbb⟩, let ⟨mc, h1, h2⟩ := hlim; ⟨mc, nsK h1, h2⟩⟩
    have e0 : Env0 P w K mg (hidT s₁.heap H) callerA [] s₁ H := ⟨rfl, hM, fun b o e => of_hidT e, Nat.le_of_eq (hidT_size _ _), trivial, fun b hb => absurd (show b ∈ ([] : List Addr) from hb) (by simp), hok, .of_eq hg⟩
    refine codeAny_mono ((F _ hKb (nsK hns)).run callerA [] s₁ H ⟨[.ref a], []⟩ [.ref a] [.ref a] _ _ hr e0 (hbind s₁ (.ref a)) (.cons rfl .nil) (hsp H hO hS)) fun r s' h => ?_
    cases r with
    | error e => exact (hCX H e s' h).elim
    | ok fl =>
      cases fl with
      | next => exact False.elim h
      | brk => exact False.elim h
      | cont => exact False.elim h
      | ret u =>
        obtain ⟨v, H', os, bare, un, hok', r', q⟩ := h
        have q' : v = .bl true := q
        subst q'
        obtain rfl : u = Value.bool true := r'
        refine ⟨rfl, OldK.of_keep fun b o e => ?_, os, bare⟩
        cases q : H b with
        | none => exact un.keep b o e q (by intro z; exact absurd (show b ∈ ([] : List Addr) from z) (by simp)) (by simp)
        | some u =>
          rcases hO b with z | ⟨ob, xs, z⟩
          · rw [q] at z; cases z
          · have z2 := un.frzs b ob _ z
            obtain ⟨e1, _⟩ := hok b _ z
            obtain ⟨e2, _⟩ := hok' b _ z2
            rw [e] at e1; cases e1
            exact e2
  cases hk : K.lookup a with
  | some o =>
    -- the script is one of the module's own objects
    have e := KX a o hk
    rw [ha] at e
    cases e
    refine core (fun _ => none) (fun _ => .inl rfl) (.inr ⟨_, vs.toArray, _, hk, rfl, rfl, rfl, by rw [List.size_toArray, lenV]; exact hl, by simpa using rv⟩) (fun b u z => by have z' : (none : Option HO) = some u := z; cases z') (fun b z => absurd rfl z) fun z => absurd rfl z
  | none =>
    refine core (fun b => if b = a then some (.frz { cls := .type "list", data := .seq vs.toArray } (.lst (ns.map V.int))) else none) (fun b => ?_) (.inl (.inr ⟨{ cls := .type "list", data := .seq vs.toArray }, if_pos rfl⟩)) (fun b u z => ?_) (fun b z => ?_) fun _ => hk
    · by_cases hb : b = a
      · exact .inr ⟨_, _, if_pos hb⟩
      · exact .inl (if_neg hb)
    · by_cases hb : b = a
      · have z' := (if_pos hb).symm.trans z
        cases z'
        subst hb
        exact ⟨ha, by rw [List.length_map]; exact hl, vs, _, rv, ha⟩
      · have z' := (if_neg hb).symm.trans z
        cases z'
    · by_cases hb : b = a
      · exact hb
      · exact absurd (if_neg hb) z
end L2

namespace L2
open PySem PySem.Spec PyProof.Rows

/-- the goal that k_head leaves (case hc), from the law's promise. F gives the function object fd (K's own) once, then the promise over every base -/
theorem walk_of {l : PySem.W.OpenLaw} {n k : Nat} {q : Program} {loose : List Str} {XP : (Str → Option Value) → Heap → Prop} {YP : World → Heap → Prop} {d : DefRec} {K : Params → PySem.W.Frag} {CX : World → CXT} {sp : World → Sp} {x : Str}
    (hn : l.most = some n) (hn2 : n ≤ sizeLine) (hdf : d.params.defaults = []) (hr : Room k callerA)
    (hY : ∀ (w : World) (h : Heap), YP w h → (K w.params).In h)
    (F : ∀ (w : World) (mg : Str → Option Value) (fa : Addr) (h : Heap), (K w.params).In h → h.Ns mainGlobals mg → mg d.name = some (.ref fa) →
      ∃ fd : FuncData, (∀ (s : Shared) (u : Value), BindsTo s fd ⟨[u], []⟩ [(x, u)]) ∧
        ∀ base : Heap, (K w.params).In base → base.Ns mainGlobals mg → FnOk l.prog w (K w.params) mg base (CX w) k fa fd [x] (sp w))
    (hsp : ∀ (w : World) (H : Hp) (a : Addr) (ns : List Int), ns.length ≤ n → Only H → SqL (K w.params) H a (ns.map V.int) → sp w [.ref a] H (fun v _ => v = .bl true) fun _ _ _ => False)
    (hCX : ∀ (w : World) (H : Hp) (s : Shared) (e : Value) (s' : Shared), CX w [] H s (fun _ _ _ => False) e s' → False) :
    PySem.W.WalkO q loose XP YP l.row.toRowW d [] (fun f vs => PySem.call f vs) := by
  refine Att.attach_call hn hdf fun w s₀ s₁ mg mb fa o pm cd doc a vs ns G Y ho hd hcd hmg hobj hints hlen hg => ?_
  have KX := hY w _ Y
  obtain ⟨fd, hb, hF⟩ := F w mg fa _ KX G.T.g hmg
  exact law_call KX G.T.g G.T.b G.T.builtins G.T.nolimit hg hobj hints (Nat.le_trans hlen hn2) hr hF hb (fun H hO hS => hsp w H a ns hlen hO hS) fun H e s' => hCX w H s₁ e s'
end L2

/- THE LAST THEOREM (shape; LID, My.* are yours):
   My.Adr: a structure of the addresses that your layer names (classes, functions); My.Txt K t: a structure (Prop) of the equations over K;
   My.txt_mk : {K} {implicit addresses ..} (e1 : nsIn K mainGlobals "law" = some (some (.ref f))) (e2 : K.lookup f = some ⟨oc, od, .func (fnOf "law" "law" params body scope dV kV doc pm an cdv ct), sl⟩) (e3 : codeIn K cdv "law" = true) .. : ∃ t, My.Txt K t

set_option maxRecDepth 100000 in
set_option maxHeartbeats 0 in
theorem PySem.Challenge.cw_LID_holds : PySem.Challenge.rw_LID.Holds := by
  w_on; o_law; k_head; (case hw => w_witness2)
  k_fill
  refine L2.walk_of (l := PySem.Challenge.rw_LID) (n := 63) (k := 40) (x := "script") (CX := fun w => ..) (sp := fun _ => My.sp_law) rfl (by decide) rfl ⟨rfl, by decide, by decide⟩ (fun w h Y => PySem.W.kIn_of Y) ?F ?S ?C
  case F =>
    intro w mg fa h KX G hmg
    have T : ∃ t, My.Txt (L2.KOf KX) t := by
      dsimp only [L2.KOf]                          -- K must stand as «<heap const> w.params» for k_is
      refine' My.txt_mk ?e1 ?e2 ?e3 ..
      (case e1 => PySem.W.k_is)                    -- in the order: a name -> its address -> its object -> its parts
      (case e2 => PySem.W.k_is)
      ..
    obtain ⟨t, T⟩ := T
    have e0 := hmg.symm.trans (PySem.W.mg_of KX G T.law)
    cases e0                                       -- fa is the law's own address
    exact ⟨_, fun s u => .of_eq rfl, fun base kb nb => My.law_fn T kb nb⟩     -- if «.of_eq rfl» comes too early: refine' ⟨_, ?b, fun base kb nb => My.law_fn T kb nb⟩; exact fun s u => .of_eq rfl
  case S => exact fun w H a ns hl hO hS => ..
  case C => exact ..
(the tactic k_is has no namespace: write k_is) -/

/-! SHORT WORDS over the layer: a def of the text, its body, what a loop and a test want. -/
namespace L2
open PySem PySem.Spec PyProof.Rows

/-! ### the text by places -/
def defArgs (s : Stmt) : Arguments := match s with
  | .FunctionDef _ a _ _ _ _ _ _ _ _ => a
  | _ => { posonlyargs := [], args := [], vararg := none, kwonlyargs := [], kw_defaults := [], kwarg := none, defaults := [] }
def defBody (s : Stmt) : List Stmt := match s with
  | .FunctionDef _ _ b _ _ _ _ _ _ _ => b
  | _ => []
def defScope (s : Stmt) : Scope := match s with
  | .FunctionDef _ _ _ _ _ _ sc _ _ _ => sc
  | _ => { kind := .function, names := [], isGenerator := false, isCoroutine := false }

/-! ### no exception leaves a def -/
abbrev CX0 : CXT := fun _ _ _ _ _ _ => False
abbrev E0 : XK := fun _ _ _ => False
theorem pass0 {X : Cx} : Passes CX0 X E0 := fun _ _ _ _ _ _ _ h => h.elim

/-! ### a def (or method) of the text as it stands behind the top -/
structure Fun (K : PySem.W.Frag) (x qual : Str) (st : Stmt) (f : Addr) (fd : FuncData) : Prop where
  ex : ∃ (oc : Value) (od : Option Addr) (kV doc pm : Value) (an : Option Addr) (cdv ct : Value) (osl : Array (Option Value)),
    fd = PySem.W.fnOf x qual (defArgs st) (defBody st) (defScope st) .none kV doc pm an cdv ct ∧ K.lookup f = some ⟨oc, od, .func fd, osl⟩ ∧ PySem.W.codeIn K cdv qual = true
  kp : PySem.W.keepIn K (.ref f) = true
section
variable {P : Program} {w : World} {K : PySem.W.Frag} {mg : Str → Option Value} {base : Heap}
/-- THE RULE for a def: its body as a term of rules, and the reading of that term -/
theorem Fun.ok {x qual : Str} {st : Stmt} {f : Addr} {fd : FuncData} {N ps : List Str} {k : Nat} {sp : Sp} (F : Fun K x qual st f fd) (S : FnScope N ps (defScope st)) (len : ∀ vs H Q E, sp vs H Q E → vs.length = ps.length)
    (hbody : ∀ (cdv : Value) (A : Around) (outer : List Env) (s : Shared) (H : Hp) (vs : List V) (Q : VK) (E : XK), Room k (A.deeper (envOfC qual (defScope st) s.heap.objs.size f cdv)) → sp vs H Q E →
      ∃ t, PSs (cxOf CX0 P w K mg base N qual (defScope st) f cdv A outer s H E).nox (defBody st) t ∧ t { nx := fun _ H' => Q .non H', rt := Q } (start N vs) H) : FnOk P w K mg base CX0 (k + 1) f fd ps sp := by
  obtain ⟨oc, od, kV, doc, pm, an, cdv, ct, osl, rfl, lk, hcd⟩ := F.ex
  refine fn_of lk hcd S len fun A outer s H vs Q E hr hsp => ?_
  obtain ⟨t, h, q⟩ := hbody cdv A outer s H vs Q E hr hsp
  exact ⟨t, h.nox, q⟩
/-- how its arguments bind (no defaults): h is «fun _ _ _ _ _ _ us hl => match us, hl with | [_, _], _ => rfl», one _ a parameter -/
theorem Fun.binds {x qual : Str} {st : Stmt} {f : Addr} {fd : FuncData} {ps : List Str} (F : Fun K x qual st f fd)
    (h : ∀ (kV doc pm : Value) (an : Option Addr) (cdv ct : Value) (us : List Value), us.length = ps.length → bindArgs (PySem.W.fnOf x qual (defArgs st) (defBody st) (defScope st) .none kV doc pm an cdv ct) ⟨us, []⟩ = pure (ps.zip us)) : Binds K fd ps [] := by
  obtain ⟨oc, od, kV, doc, pm, an, cdv, ct, osl, rfl, lk, hcd⟩ := F.ex
  exact .all (h kV doc pm an cdv ct)
theorem fun_mk {x qual : Str} {st : Stmt} {f : Addr} {oc : Value} {od an : Option Addr} {osl : Array (Option Value)} {kV doc pm cdv ct : Value} (l : K.lookup f = some ⟨oc, od, .func (PySem.W.fnOf x qual (defArgs st) (defBody st) (defScope st) .none kV doc pm an cdv ct), osl⟩)
    (c : PySem.W.codeIn K cdv qual = true) (k : PySem.W.keepIn K (.ref f) = true) : Fun K x qual st f (PySem.W.fnOf x qual (defArgs st) (defBody st) (defScope st) .none kV doc pm an cdv ct) := ⟨⟨oc, od, kV, doc, pm, an, cdv, ct, osl, rfl, l, c⟩, k⟩
end
theorem hu_of {A : Around} {k : Nat} (hr : Room k A) : A.units + 1 < cLine := Nat.lt_of_le_of_lt (Nat.add_le_add_left (by decide : 1 ≤ 64) _) hr.units
theorem small1000 {n : Nat} (h : n ≤ 1000) : n < sizeLine := Nat.lt_of_le_of_lt h (by decide)

/-! ### expressions in short: the name that stands in the i-th slot -/
section
variable {X : Cx}
theorem pv (i : Nat) {x : Str} {pos : Pos} (hN : X.N[i]? = some x := by rfl) (hv : Vis X.env.scope x := by first | exact Or.inl rfl | exact Or.inr (Or.inl rfl) | exact Or.inr (Or.inr rfl)) (hd : (x == ("__debug__" : Str)) = false := by decide)
    (hcd : (x == ("__classdict__" : Str)) = false := by decide) : PE X (.Name x pos) (tVar i) := pe_var hN hv hd hcd
end

/-! ### tests -/
theorem iteF {A B : Prop} (h : B) : if false = true then A else B := by
  rw [if_neg Bool.false_ne_true]
  exact h
theorem iteT {A B : Prop} (h : A) : if true = true then A else B := by
  rw [if_pos rfl]
  exact h
theorem ite2 {c A B : Prop} [Decidable c] (h1 : c → A) (h2 : ¬ c → B) : if c then A else B := by
  by_cases h : c
  · rw [if_pos h]
    exact h1 h
  · rw [if_neg h]
    exact h2 h
theorem iteNS {c A B : Prop} [Decidable c] (hc : c) (h : B) : if (!decide c) = true then A else B := by
  rw [decide_eq_true hc]
  exact iteF h

end L2

set_option maxRecDepth 100000
set_option maxHeartbeats 4000000
namespace L2
open PySem PySem.Spec PyProof.Rows

/-! ### heaps: what is tracked stays, but for the tables of code, which may grow -/
/-- what is known of a code object that a table names: it is a record with a name -/
def codeP (c : Addr) : Heap → Prop := fun h => ∃ (o : Obj) (vs : Array Value) (q : Str) (t : Nat), h.get? c = some o ∧ o.data = .fields vs ∧ vs[1]? = some (.str q t)
/-- a table of code: all that it names is tracked -/
def TabOk (H : Hp) (P : Addr) : Prop := ∃ ps : Array Value, H P = some (.tbl ps) ∧ TriplesOk ps.toList ∧ ∀ pos : Pos, codeAmong pos ps.toList = none ∨ ∃ c : Addr, codeAmong pos ps.toList = some (.ref c) ∧ H c = some (.ext (codeP c))
def Kp (H H' : Hp) (b : Addr) : HO → Prop
  | .tbl _ => (∃ ps, H' b = some (.tbl ps)) ∧ (TabOk H b → TabOk H' b)
  | o => H' b = some o
/-- all that was tracked is as it was; tables of code may have grown -/
def Same (H H' : Hp) : Prop := ∀ b o, H b = some o → Kp H H' b o
theorem Kp.of {H H' : Hp} {b : Addr} {o : HO} (h : H b = some o) (e : H' b = some o) (hc : ∀ c, H c = some (.ext (codeP c)) → H' c = some (.ext (codeP c))) : Kp H H' b o := by
  cases o
  case tbl ps =>
    refine ⟨⟨ps, e⟩, fun ⟨qs, hq, tr, hp⟩ => ?_⟩
    rw [h] at hq
    cases hq
    exact ⟨_, e, tr, fun pos => (hp pos).imp id fun ⟨c, z1, z2⟩ => ⟨c, z1, hc c z2⟩⟩
  all_goals exact e
theorem same_of {H H' : Hp} (h : ∀ b o, H b = some o → H' b = some o) : Same H H' := fun b o e => Kp.of e (h b o e) fun c z => h c _ z
theorem Same.refl (H : Hp) : Same H H := same_of fun _ _ h => h
theorem Same.trans {H H1 H2 : Hp} (a : Same H H1) (b : Same H1 H2) : Same H H2 := fun c o h => by
  have z := a c o h
  cases o
  case tbl ps =>
    obtain ⟨⟨qs, hq⟩, k⟩ := z
    obtain ⟨q2, k2⟩ := b c _ hq
    exact ⟨q2, fun t => k2 (k t)⟩
  all_goals exact b c _ z
theorem Kp.some {H H' : Hp} {b : Addr} {o : HO} (k : Kp H H' b o) : ∃ u, H' b = some u := by
  cases o
  case tbl ps => exact ⟨_, k.1.choose_spec⟩
  all_goals exact ⟨_, k⟩
theorem Same.free {H H' : Hp} (e : Same H H') {l : Addr} (h : H' l = Option.none) : H l = Option.none := by
  cases q : H l with
  | none => rfl
  | some o =>
    obtain ⟨u, z⟩ := (e l o q).some
    rw [z] at h
    cases h
theorem Same.seq {K : PySem.W.Frag} {H H' : Hp} {a : Addr} {xs : List V} (e : Same H H') (h : SqL K H a xs) : SqL K H' a xs := by
  rcases h with (h | ⟨o, h⟩) | h
  · exact .inl (.inl (e _ _ h))
  · exact .inl (.inr ⟨o, e _ _ h⟩)
  · exact .inr h
end L2

set_option maxRecDepth 100000
set_option maxHeartbeats 4000000
namespace L2
open PySem PySem.Spec PyProof.Rows

/-! ### A. List comprehensions of one clause -/
/-- a loop in the machine's monad whose every step is pure -/
theorem forIn_all {α β : Type} (g : α → β → β) {f : α → β → Sem (ForInStep β)} : ∀ (l : List α) (b : β), (∀ x ∈ l, ∀ c, f x c = pure (ForInStep.yield (g x c))) →
    forIn l b f = (pure (l.foldl (fun c x => g x c) b) : Sem β)
  | [], b, _ => by simp only [List.forIn_nil, List.foldl_nil]
  | x :: r, b, h => by
    rw [List.forIn_cons, h x List.mem_cons_self b, pure_bind]
    exact forIn_all g r (g x b) fun y hy c => h y (List.mem_cons_of_mem _ hy) c

/-- the cells that a block takes over from its def -/
def clOf (sc : Scope) (env : Env) : List (Str × Addr) :=
  sc.names.foldl (fun cs y => if (y.2 == NameKind.free) = true then (y.1, (env.cells.lookup y.1).getD 0) :: cs else cs) []
theorem clOf_eq {sc : Scope} {env : Env} (h : ∀ y ∈ sc.names, y.2 = .free → ∃ c, env.cells.lookup y.1 = some c) : closureFor sc env = pure (clOf sc env) := by
  simp only [closureFor]
  rw [forIn_all (fun (y : Str × NameKind) (cs : List (Str × Addr)) => if (y.2 == NameKind.free) = true then (y.1, (env.cells.lookup y.1).getD 0) :: cs else cs) sc.names [] (fun y hy c => by
    obtain ⟨n, k⟩ := y
    by_cases hk : k = .free
    · obtain ⟨a, ha⟩ := h _ hy hk
      subst hk
      simp only [cellOf, ha, beq_self_eq_true, if_true, pure_bind, Option.getD_some]
    · have z : (k == NameKind.free) = false := by simpa using hk
      simp only [z, Bool.false_eq_true, if_false])]
  rfl
theorem foldl_mem {α β : Type} {P : β → Prop} {g : α → List β → List β} : ∀ (l : List α) (b : List β), (∀ p ∈ b, P p) → (∀ x ∈ l, ∀ c, (∀ p ∈ c, P p) → ∀ p ∈ g x c, P p) → ∀ p ∈ l.foldl (fun c x => g x c) b, P p
  | [], b, hb, _ => hb
  | x :: r, b, hb, h => foldl_mem r (g x b) (h x List.mem_cons_self b hb) fun y hy => h y (List.mem_cons_of_mem _ hy)
theorem clOf_mem {sc : Scope} {env : Env} (h : ∀ y ∈ sc.names, y.2 = .free → ∃ c, env.cells.lookup y.1 = some c) : ∀ p ∈ clOf sc env, env.cells.lookup p.1 = some p.2 := by
  refine foldl_mem (P := fun p : Str × Addr => env.cells.lookup p.1 = some p.2) sc.names [] (fun _ z => nomatch z) fun y hy c hc p hp => ?_
  by_cases hk : y.2 = .free
  · have z : (y.2 == NameKind.free) = true := by simpa using hk
    rw [if_pos z] at hp
    rcases List.mem_cons.mp hp with e | hp
    · obtain ⟨a, ha⟩ := h y hy hk
      rw [e]
      show env.cells.lookup y.1 = some ((env.cells.lookup y.1).getD 0)
      rw [ha]
      rfl
    · exact hc p hp
  · have z : ¬ (y.2 == NameKind.free) = true := by simpa using hk
    rw [if_neg z] at hp
    exact hc p hp
theorem foldl_keep {α β : Type} {q : β} {g : α → List β → List β} (hg : ∀ x c, q ∈ c → q ∈ g x c) : ∀ (l : List α) (b : List β), q ∈ b → q ∈ l.foldl (fun c x => g x c) b
  | [], _, hb => hb
  | x :: r, b, hb => foldl_keep hg r (g x b) (hg x b hb)
theorem clOf_has {sc : Scope} {env : Env} {x : Str} {c : Addr} (hx : (x, NameKind.free) ∈ sc.names) (hc : env.cells.lookup x = some c) : (x, c) ∈ clOf sc env := by
  have kp : ∀ (y : Str × NameKind) (cs : List (Str × Addr)), (x, c) ∈ cs → (x, c) ∈ (if (y.2 == NameKind.free) = true then (y.1, (env.cells.lookup y.1).getD 0) :: cs else cs) := fun y cs h => by
    by_cases z : (y.2 == NameKind.free) = true
    · rw [if_pos z]
      exact List.mem_cons_of_mem _ h
    · rw [if_neg z]
      exact h
  unfold clOf
  obtain ⟨l1, l2, e⟩ := List.append_of_mem hx
  rw [e, List.foldl_append, List.foldl_cons]
  refine foldl_keep (g := fun (y : Str × NameKind) (cs : List (Str × Addr)) => if (y.2 == NameKind.free) = true then (y.1, (env.cells.lookup y.1).getD 0) :: cs else cs) kp l2 _ ?_
  rw [if_pos (by simp)]
  rw [hc]
  exact List.mem_cons_self
theorem lookup_some {β : Type} {x : Str} {b : β} : ∀ {l : List (Str × β)}, (x, b) ∈ l → ∃ c, l.lookup x = some c
  | [], h => nomatch h
  | (y, d) :: r, h => by
    by_cases e : x = y
    · subst e
      exact ⟨d, by rw [List.lookup_cons_self]⟩
    · have z : (x == y) = false := by simpa using e
      rcases List.mem_cons.mp h with q | q
      · cases q
        exact absurd rfl e
      · obtain ⟨c, hc⟩ := lookup_some q
        exact ⟨c, by rw [List.lookup_cons, z]; exact hc⟩
theorem clOf_look {sc : Scope} {env : Env} (h : ∀ y ∈ sc.names, y.2 = .free → ∃ c, env.cells.lookup y.1 = some c) {x : Str} {c : Addr} (e : (clOf sc env).lookup x = some c) : env.cells.lookup x = some c :=
  clOf_mem h _ (PySem.mem_of_lookup e)
theorem clOf_at {sc : Scope} {env : Env} (h : ∀ y ∈ sc.names, y.2 = .free → ∃ c, env.cells.lookup y.1 = some c) {x : Str} {c : Addr} (hx : (x, NameKind.free) ∈ sc.names) (hc : env.cells.lookup x = some c) : (clOf sc env).lookup x = some c := by
  obtain ⟨d, hd⟩ := lookup_some (clOf_has hx hc)
  have := clOf_look h hd
  rw [hc] at this
  cases this
  exact hd

/-- a block's scope as it is run, by its def's scope -/
def relS (sc sc0 : Scope) : Scope :=
  { sc with names := sc.names.map fun (n, k) => if (k == .free && sc0.kind == .function && sc0.names.lookup n == some .cell) then (n, .cell) else (n, k) }
/-- what a comprehension's table must be: n of its own names ahead in N', behind them the def's slots kp -/
def lcOk (sc0 sc : Scope) (XN N' : List Str) (n : Nat) (kp : List Nat) : Bool :=
  decide (sc.kind = .function) && sc.names.all (fun y => decide (y.2 ≠ .cell)) && sc.names.all (fun y => decide (y.2 = .local → sc.names.lookup y.1 = some .local)) &&
  sc.names.all (fun y => decide (y.2 = .free → sc0.names.lookup y.1 = some .cell)) && decide (N'.length = n + kp.length) &&
  (List.range kp.length).all (fun i => match N'[n + i]?, kp[i]? with
    | some x, some j => decide (XN[j]? = some x ∧ (x, NameKind.free) ∈ sc.names ∧ ((relS sc sc0).names.lookup x = some .cell ∨ (relS sc sc0).names.lookup x = some .free))
    | _, _ => false)
theorem lcOk_parts {sc0 sc : Scope} {XN N' : List Str} {n : Nat} {kp : List Nat} (h : lcOk sc0 sc XN N' n kp = true) :
    sc.kind = .function ∧ (∀ y ∈ sc.names, y.2 ≠ .cell) ∧ (∀ y ∈ sc.names, y.2 = .local → sc.names.lookup y.1 = some .local) ∧ (∀ y ∈ sc.names, y.2 = .free → sc0.names.lookup y.1 = some .cell) ∧ N'.length = n + kp.length ∧
    ∀ (i : Nat) (x : Str), N'[n + i]? = some x → ∃ j, kp[i]? = some j ∧ XN[j]? = some x ∧ (x, NameKind.free) ∈ sc.names ∧ ((relS sc sc0).names.lookup x = some .cell ∨ (relS sc sc0).names.lookup x = some .free) := by
  unfold lcOk at h
  simp only [Bool.and_eq_true, List.all_eq_true, decide_eq_true_eq] at h
  obtain ⟨⟨⟨⟨⟨h1, h2⟩, h3⟩, h4⟩, h5⟩, h6⟩ := h
  refine ⟨h1, h2, h3, h4, h5, fun i x hx => ?_⟩
  have hi : i < kp.length := by
    have := (List.getElem?_eq_some_iff.mp hx).1
    omega
  have q := h6 i (List.mem_range.mpr hi)
  rw [hx, List.getElem?_eq_getElem hi] at q
  exact ⟨kp[i], List.getElem?_eq_getElem hi, of_decide_eq_true q⟩

abbrev NoX : Value → Shared → Prop := fun _ _ => False
/-- a comprehension's block running, in the context of its def -/
def blk (X : Cx) (N' : List Str) (sc : Scope) (C : Addr) (fp : List Addr) (pins : List (Addr × Obj)) (s : Shared) (H : Hp) : Cx :=
  { X with N := N', s₀ := s, H₀ := H, env := compEnvC sc (clOf sc X.env) C X.env, outer := X.stack, stack := X.stack, ex := fp, fn := fun _ => false, pn := X.pn ++ pins, xe := NoX }
/-- the tests of a clause, one behind another -/
abbrev lcIfs (cs : List Expr) (env : Env) : Sem Bool := forIn cs true fun c r => if r = true then do let ok ← isTrue c env (eval c env); pure (ForInStep.yield ok) else pure (ForInStep.yield r)
def PTs (X : Cx) (cs : List Expr) (t : TT) : Prop :=
  ∀ (pins : List (Addr × Obj)) (s : Shared) (σ : St) (H : Hp) (Q : Bool → Hp → Prop), Inv X pins σ H s → t σ H Q → wpAny (model X.prog X.w) X.A (lcIfs cs X.env) (TP X pins σ Q) X.xe s
def tNoT : TT := fun _ H Q => Q true H
theorem pts_nil {X : Cx} : PTs X [] tNoT := fun _ _ _ H _ I h => wpAny_tests_nil ⟨H, I, h⟩
theorem pts_one {X : Cx} {c : Expr} {t : TT} (hc : PT X c t) : PTs X [c] t := fun pins s σ H Q I h => wpAny_tests_one (hc pins s σ H Q I h)

theorem lc_loop {prog : Program} {w : World} {A : Around} {R : Result → Shared → Prop} {elt tg iter : Expr} {cs : List Expr} {sc : Scope} {pos : Pos} {it acc : Value} {env : Env} (J : Nat → Shared → Prop)
    (turn : ∀ n s, J n s → wpAny (model prog w) A (pyNext it) (fun r s1 => match r with
      | none => R (.ok .next) s1
      | some v => wpAny (model prog w) A (letOwnedTupleGo tg it v) (fun _ s2 => wpAny (model prog w) A (assign tg env v) (fun _ s3 => wpAny (model prog w) A (lcIfs cs env) (fun ok s4 =>
          if ok = true then wpAny (model prog w) A (eval elt env) (fun x s5 => wpAny (model prog w) A (call (.builtin "list.append") [acc, x]) (fun _ s6 => ∃ m, m < n ∧ J m s6) NoX s5) NoX s4
          else ∃ m, m < n ∧ J m s4) NoX s3) NoX s2) NoX s1) NoX s)
    (n : Nat) (s : Shared) (h : J n s) : codeAny (model prog w) A (.compLoop (.ListComp elt [⟨tg, iter, cs, 0⟩] sc pos) 0 it acc env) R s := by
  refine codeAny_loop rfl J (fun n s hJ => ?_) n h
  show wpAny _ A ((compTurn (.ListComp elt [⟨tg, iter, cs, 0⟩] sc pos) 0 it acc env).onRaise (fun x => do noteFrame x env; theTreesLotGoes x)) _ _ s
  refine wpAny_noted ?_
  rw [compTurn_list]
  have no : ∀ {E : Value → Shared → Prop} (e : Value) (z : Shared), NoX e z → E e z := fun _ _ f => f.elim
  refine wpAny_bind (wpAny_standAt (wpAny_bind (wpAny_mono (turn n s hJ) (fun r s1 h1 => ?_) no)))
  cases r with
  | none => exact wpAny_pure h1
  | some v =>
    refine wpAny_bind (wpAny_mono h1 (fun _ s2 h2 => ?_) no)
    refine wpAny_bind (wpAny_mono h2 (fun _ s3 h3 => ?_) no)
    refine wpAny_bind (wpAny_mono h3 (fun ok s4 h4 => ?_) no)
    cases ok with
    | false => exact wpAny_pure ⟨rfl, h4⟩
    | true =>
      exact wpAny_bind (wpAny_bind (wpAny_mono h4 (fun x s5 h5 => wpAny_bind (wpAny_mono h5 (fun _ s6 h6 => wpAny_pure (wpAny_pure ⟨rfl, h6⟩)) no)) no))

/-- a comprehension from its iterator on: W is the invariant, by the turn, a measure, the list so far, the block's slots, the heap -/
def lcGo (J : It) (g : TG) (tc : TT) (te : TE) (σ0 : St) (H1 : Hp) (Q : VK) : Prop := ∃ W : Nat → Nat → List V → St → Hp → Prop,
  (∃ m, W 0 m [] σ0 H1) ∧ ∀ i m ys σ' H', W i m ys σ' H' → ys.length ≤ sizeLine ∧
    ((J.stop i H' ∧ ∀ p, H' p = none → Q (.ref p) (upd H' p (.lst ys))) ∨
     (J.go i H' ∧ ∃ N : List V → St → Hp → Prop, (∀ ys' σ2 H2, N ys' σ2 H2 → ∃ m', m' < m ∧ W (i + 1) m' ys' σ2 H2) ∧ ∀ x H2, J.yld i H' x H2 → g x σ' H2 fun σ3 H3 => tc σ3 H3 fun b H4 =>
       if b = true then te σ3 H4 fun v H5 => N (ys ++ [v]) σ3 H5 else N ys σ3 H4))
/-- the reading of a comprehension -/
def tLc (n : Nat) (kp : List Nat) (wi : TI) (g : TG) (tc : TT) (te : TE) : TE := fun σ H Q => wi σ H fun J H1 => lcGo J g tc te (List.replicate n none ++ kp.map fun j => (σ[j]?).join) H1 Q

/-- a comprehension over a range, by what holds at each turn -/
theorem lc_range {lo : Int} {k : Nat} {σ0 : St} {H : Hp} {g : TG} {tc : TT} {te : TE} {Q : VK} (Pv : Nat → List V → St → Hp → Prop) (h0 : Pv 0 [] σ0 H) (hz : ∀ i ys σ H, i ≤ k → Pv i ys σ H → ys.length ≤ sizeLine)
    (hs : ∀ i ys σ H, i < k → Pv i ys σ H → g (.int (lo + i)) σ H fun σ3 H3 => tc σ3 H3 fun b H4 => if b = true then te σ3 H4 fun v H5 => Pv (i + 1) (ys ++ [v]) σ3 H5 else Pv (i + 1) ys σ3 H4)
    (hd : ∀ ys σ H, Pv k ys σ H → ∀ p, H p = none → Q (.ref p) (upd H p (.lst ys))) :
    lcGo (Itr lo k) g tc te σ0 H Q := by
  refine ⟨fun i m ys σ H => m = k - i ∧ i ≤ k ∧ Pv i ys σ H, ⟨k, by simp, Nat.zero_le _, h0⟩, ?_⟩
  rintro i m ys σ H ⟨rfl, hi, p⟩
  refine ⟨hz i ys σ H hi p, ?_⟩
  by_cases hlt : i < k
  · refine .inr ⟨hlt, Pv (i + 1), fun ys' σ' H' p' => ⟨k - (i + 1), by omega, rfl, hlt, p'⟩, fun x H' y => ?_⟩
    obtain ⟨e1, e2⟩ := y
    subst e1
    subst e2
    exact hs i ys σ _ hlt p
  · have e : i = k := by omega
    subst e
    exact .inl ⟨Nat.le_refl _, hd ys σ H p⟩
/-- .. over a list that stays as it is -/
theorem lc_list {K : PySem.W.Frag} {a : Addr} {xs : List V} {σ0 : St} {H : Hp} {g : TG} {tc : TT} {te : TE} {Q : VK} (Pv : Nat → List V → St → Hp → Prop) (h0 : Pv 0 [] σ0 H) (hz : ∀ i ys σ H, i ≤ xs.length → Pv i ys σ H → ys.length ≤ sizeLine)
    (hl : ∀ i ys σ H, i ≤ xs.length → Pv i ys σ H → SqL K H a xs)
    (hs : ∀ i x ys σ H, xs[i]? = some x → Pv i ys σ H → g x σ H fun σ3 H3 => tc σ3 H3 fun b H4 => if b = true then te σ3 H4 fun v H5 => Pv (i + 1) (ys ++ [v]) σ3 H5 else Pv (i + 1) ys σ3 H4)
    (hd : ∀ ys σ H, Pv xs.length ys σ H → ∀ p, H p = none → Q (.ref p) (upd H p (.lst ys))) :
    lcGo (Itl K a) g tc te σ0 H Q := by
  refine ⟨fun i m ys σ H => m = xs.length - i ∧ i ≤ xs.length ∧ Pv i ys σ H, ⟨xs.length, by simp, Nat.zero_le _, h0⟩, ?_⟩
  rintro i m ys σ H ⟨rfl, hi, p⟩
  refine ⟨hz i ys σ H hi p, ?_⟩
  have q := hl i ys σ H hi p
  by_cases hlt : i < xs.length
  · refine .inr ⟨⟨xs, xs[i], q, by simp [hlt]⟩, Pv (i + 1), fun ys' σ' H' p' => ⟨xs.length - (i + 1), by omega, rfl, hlt, p'⟩, fun x H' y => ?_⟩
    obtain ⟨e, y⟩ := y
    subst e
    exact hs i x ys σ _ (y xs q) p
  · have e : i = xs.length := by omega
    subst e
    exact .inl ⟨⟨xs, q, Nat.le_refl _⟩, hd ys σ H p⟩

/-- .. over a tuple that stays as it is -/
theorem lc_tup {K : PySem.W.Frag} {a : Addr} {xs : List V} {σ0 : St} {H : Hp} {g : TG} {tc : TT} {te : TE} {Q : VK} (Pv : Nat → List V → St → Hp → Prop) (h0 : Pv 0 [] σ0 H) (hz : ∀ i ys σ H, i ≤ xs.length → Pv i ys σ H → ys.length ≤ sizeLine)
    (hl : ∀ i ys σ H, i ≤ xs.length → Pv i ys σ H → SqT K H a xs)
    (hs : ∀ i x ys σ H, xs[i]? = some x → Pv i ys σ H → g x σ H fun σ3 H3 => tc σ3 H3 fun b H4 => if b = true then te σ3 H4 fun v H5 => Pv (i + 1) (ys ++ [v]) σ3 H5 else Pv (i + 1) ys σ3 H4)
    (hd : ∀ ys σ H, Pv xs.length ys σ H → ∀ p, H p = none → Q (.ref p) (upd H p (.lst ys))) :
    lcGo (Itt K a) g tc te σ0 H Q := by
  refine ⟨fun i m ys σ H => m = xs.length - i ∧ i ≤ xs.length ∧ Pv i ys σ H, ⟨xs.length, by simp, Nat.zero_le _, h0⟩, ?_⟩
  rintro i m ys σ H ⟨rfl, hi, p⟩
  refine ⟨hz i ys σ H hi p, ?_⟩
  have q := hl i ys σ H hi p
  by_cases hlt : i < xs.length
  · refine .inr ⟨⟨xs, xs[i], q, by simp [hlt]⟩, Pv (i + 1), fun ys' σ' H' p' => ⟨xs.length - (i + 1), by omega, rfl, hlt, p'⟩, fun x H' y => ?_⟩
    obtain ⟨e, y⟩ := y
    subst e
    exact hs i x ys σ _ (y xs q) p
  · have e : i = xs.length := by omega
    subst e
    exact .inl ⟨⟨xs, q, Nat.le_refl _⟩, hd ys σ H p⟩

section
variable {X : Cx} {tg iter elt : Expr} {cs : List Expr} {sc sc0 : Scope} {pos : Pos} {wi : TI} {g : TG} {tc : TT} {te : TE} {XN N' : List Str} {n : Nat} {kp : List Nat}

theorem blk_ok {pins : List (Addr × Obj)} {σ : St} {H : Hp} {s : Shared} {fp : List Addr} {C : Addr} (I : Inv X pins σ H s) (hk : sc.kind = .function) (hcell : ∀ y ∈ sc.names, y.2 ≠ .cell)
    (hfr : ∀ y ∈ sc.names, y.2 = .free → ∃ c, X.env.cells.lookup y.1 = some c) (hf : ∀ b ∈ fp, FpOk X pins H b) (hl : ∀ b ∈ fp, b < s.heap.objs.size) (hC : s.heap.objs.size ≤ C) : (blk X N' sc C fp pins s H).Ok where
  mod := I.ok.mod
  kind := hk
  glob := I.ok.glob
  blt := I.ok.blt
  above := hC
  inj := fun x y c h1 h2 => I.ok.inj x y c (clOf_look hfr h1) (clOf_look hfr h2)
  has := fun x hx => by
    have q : ∃ k, (x, k) ∈ sc.names ∧ k = .free := by
      have hx' : (relS sc X.env.scope).names.lookup x = some .cell ∨ (relS sc X.env.scope).names.lookup x = some .free := hx
      have go : ∀ k, (relS sc X.env.scope).names.lookup x = some k → (k = .cell ∨ k = .free) → (x, NameKind.free) ∈ sc.names := fun k e hk' => by
        have hm := PySem.mem_of_lookup e
        obtain ⟨⟨y, ky⟩, hy, ey⟩ := List.mem_map.mp hm
        dsimp only at ey
        split at ey
        · rename_i hc
          cases ey
          have z : ky = .free := by
            simp only [Bool.and_eq_true] at hc
            simpa using hc.1.1
          subst z
          exact hy
        · cases ey
          rcases hk' with z | z
          · exact absurd z (hcell _ hy)
          · subst z
            exact hy
      rcases hx' with e | e
      · exact ⟨_, go _ e (.inl rfl), rfl⟩
      · exact ⟨_, go _ e (.inr rfl), rfl⟩
    obtain ⟨k, hm, rfl⟩ := q
    obtain ⟨c, hc⟩ := hfr _ hm rfl
    exact ⟨c, clOf_at hfr hm hc⟩
  cab := fun x c h => absurd h (by simp [blk])
  hd := I.ok.hd
  frames := I.ok.frames
  stk := .inl rfl
  exf := fun b hb => ⟨Nat.ne_of_lt (Nat.lt_of_lt_of_le (hl b hb) hC), fun x c e => (hf b hb).2.2.2.2.1 x c (clOf_look hfr e)⟩
  bs := I.bs
  bsz := Nat.le_trans I.ok.bsz I.sz
  noex := fun b o e hb => by
    rcases (hf b hb).2.2.2.1 with z | z
    · exact I.ok.noex b o e z
    · exact absurd (Nat.lt_of_lt_of_le (Heap.lt_size e) (Nat.le_trans I.ok.bsz z)) (Nat.lt_irrefl _)
  exfs := fun b hb z => by
    rcases List.mem_cons.mp (I.stkSub b z) with q | q
    · exact (hf b hb).2.1 q
    · exact (hf b hb).2.2.1 q
  funs := I.stack
  frf := I.stkFree
end
end L2

set_option maxRecDepth 100000
set_option maxHeartbeats 4000000
namespace L2
open PySem PySem.Spec PyProof.Rows
section
variable {X : Cx} {tg iter elt : Expr} {cs : List Expr} {sc sc0 : Scope} {pos : Pos} {wi : TI} {g : TG} {tc : TT} {te : TE} {XN N' : List Str} {n : Nat} {kp : List Nat}

theorem blk_start {pins : List (Addr × Obj)} {σ : St} {H : Hp} {s : Shared} {fp : List Addr} {C : Addr} {h1 : Heap} {tk : Nat} {m : Str → Option Value} (I : Inv X pins σ H s) (h0 : X.env.scope = sc0) (hN : X.N = XN) (ok : lcOk sc0 sc XN N' n kp = true)
    (hf : ∀ b ∈ fp, FpOk X pins H b) (hl : ∀ b ∈ fp, b < s.heap.objs.size) (hC : s.heap.objs.size ≤ C) (old : ∀ b o, s.heap.get? b = some o → h1.get? b = some o) (ns : h1.Ns C m) :
    Inv (blk X N' sc C fp pins s H) [] (List.replicate n none ++ kp.map fun j => (σ[j]?).join) H { s with heap := h1, toks := tk } := by
  obtain ⟨o1, o2, o3, o4, o5, o6⟩ := lcOk_parts ok
  subst h0
  subst hN
  have hfr : ∀ y ∈ sc.names, y.2 = .free → ∃ c, X.env.cells.lookup y.1 = some c := fun y hy e => I.ok.has y.1 (.inl (o4 y hy e))
  have below : ∀ b, b < s.heap.objs.size → b ≠ C := fun b hb => Nat.ne_of_lt (Nat.lt_of_lt_of_le hb hC)
  refine ⟨blk_ok I o1 o2 hfr hf hl hC, rfl, I.bare, Un.kept old, ⟨m, ns, fun i x v e1 e2 e3 => ?_⟩, fun x c e => ?_, I.hok.fresh hC, fun x c e => ?_, fun p hp => ?_, I.hok.kept old, ?_⟩
  · have hi : n ≤ i := by
      by_cases z : n ≤ i
      · exact z
      · rw [List.getElem?_append_left (by rw [List.length_replicate]; omega), List.getElem?_replicate] at e2
        split at e2 <;> cases e2
    obtain ⟨j, rfl⟩ : ∃ j, i = n + j := ⟨i - n, by omega⟩
    obtain ⟨q, hq, hx, hm, hkd⟩ := o6 j x e1
    rw [List.getElem?_append_right (by rw [List.length_replicate]; omega), List.length_replicate, Nat.add_sub_cancel_left, List.getElem?_map, hq] at e2
    have e4 : (σ[q]?).join = some v := Option.some.inj e2
    have e2' : σ[q]? = some (some v) := by
      cases z : σ[q]? with
      | none => rw [z] at e4; cases e4
      | some w => rw [z] at e4; cases e4; rfl
    obtain ⟨c, hc⟩ := hfr _ hm rfl
    have kx : X.env.kindOf x = some .cell := o4 _ hm rfl
    obtain ⟨m', hn', hl'⟩ := I.loc
    obtain ⟨u, r, lk⟩ := hl' q x v hx e2' (.inr (.inl kx))
    refine ⟨u, r, .inr ⟨hkd, c, clOf_at hfr hm hc, ?_⟩⟩
    rcases lk with ⟨k, _⟩ | ⟨_, c', hc', hv⟩
    · rw [kx] at k
      cases k
    · rw [hc] at hc'
      cases hc'
      exact hv.keeps old
  · obtain ⟨v, hv⟩ := I.cell x c (clOf_look hfr e)
    exact ⟨v, hv.keeps old⟩
  · exact I.freeC x c (clOf_look hfr e)
  · have hp' : p ∈ X.pn ++ pins := by
      have : p ∈ (X.pn ++ pins) ++ ([] : List (Addr × Obj)) := hp
      rw [List.append_nil] at this
      exact this
    obtain ⟨q1, q2, q3, q4, q5⟩ := I.pin p hp'
    refine ⟨old _ _ q1, q2, below _ (Heap.lt_size q1), fun z => ?_, q5⟩
    rcases List.mem_cons.mp (I.stkSub _ z) with r | r
    · exact q3 r
    · exact q4 r
  · show (List.replicate n none ++ kp.map fun j => (σ[j]?).join).length = N'.length
    rw [List.length_append, List.length_replicate, List.length_map, o5]

/-- the run of a comprehension up to its end; what comes then is asked by fin -/
theorem lc_run {pins : List (Addr × Obj)} {s : Shared} {σ : St} {H : Hp} {Q : VK} {use : Option (Value → Sem Unit)} {Qf : Value → Shared → Prop} (hc : X.calm = true) (hi : PI X tg iter wi) (h0 : X.env.scope = sc0) (hN : X.N = XN) (ok : lcOk sc0 sc XN N' n kp = true)
    (hg : ∀ C fp pins s H, PG (blk X N' sc C fp pins s H) tg g) (ht : ∀ C fp pins s H, PTs (blk X N' sc C fp pins s H) cs tc) (he : ∀ C fp pins s H, PE (blk X N' sc C fp pins s H) elt te) (hs : ∀ x, foldedSetIterable iter X.env x = pure x)
    (I : Inv X pins σ H s) (h : tLc n kp wi g tc te σ H Q)
    (fin : ∀ D C ys H' s', Inv X pins σ (upd H' D (.lst ys)) s' → (∃ m, s'.heap.Ns C m) → FpOk X pins (upd H' D (.lst ys)) C → Q (.ref D) (upd H' D (.lst ys)) → compPost (model X.prog X.w) X.A X.xe use Qf (.ref D) C (.ok .next) s') {pos' : Pos} :
    wpAny (model X.prog X.w) X.A (comprehension (.ListComp elt [⟨tg, iter, cs, 0⟩] sc pos) sc X.env pos' (newList []) false (firstIter [⟨tg, iter, cs, 0⟩] X.env) use) Qf X.xe s := by
  obtain ⟨o1, o2, o3, o4, o5, o6⟩ := lcOk_parts ok
  have hfr : ∀ y ∈ sc.names, y.2 = .free → ∃ c, X.env.cells.lookup y.1 = some c := fun y hy e => I.ok.has y.1 (.inl (by rw [Env.kindOf, h0]; exact o4 y hy e))
  refine wpAny_comprehension_free (use := use) rfl hs (clOf_eq hfr) o1 o3 (thn (hi pins s σ H _ I h) fun v s1 h1 => thn h1 fun itv s2 h2 => ?_)
  obtain ⟨it, fp, tn, J, H2, rfl, I2, T, st2, f2, W, ⟨m0, w0⟩, turn⟩ := h2
  have hl : ∀ b ∈ fp, b < s2.heap.objs.size := fun b hb => by
    obtain ⟨o, e, _⟩ := T.obj 0 _ st2 b hb
    exact Heap.lt_size e
  refine wpAny_newObj_type (wpAny_newFunctionEnv o2 (by intro y hy; simp at hy) (fun h1 ns1 sb1 => ?_) o1)
  dsimp only at ns1 sb1 ⊢
  generalize hG : s2.heap.push { cls := .type "list", dict := none, data := .seq ([] : List Value).toArray } = G at ns1 sb1 ⊢
  have hGs : G.objs.size = s2.heap.objs.size + 1 := by rw [← hG, Heap.size_push]
  have hCl : s2.heap.objs.size ≤ G.objs.size := by omega
  have hDC : s2.heap.objs.size ≠ G.objs.size := by omega
  have old : ∀ b o, s2.heap.get? b = some o → h1.get? b = some o := fun b o e => by
    have lt := Heap.lt_size e
    exact sb1.extBut b o (Nat.ne_of_lt (Nat.lt_of_lt_of_le lt hCl)) (Heap.get?_push_of_some _ (hG ▸ Heap.get?_push_of_some _ e))
  have hD1 : h1.get? s2.heap.objs.size = some { cls := .type "list", data := .seq ([] : List Value).toArray 0 } :=
    sb1.extBut _ _ hDC (Heap.get?_push_of_some _ (hG ▸ Heap.get?_push_size _ rfl))
  have nD2 : H2 s2.heap.objs.size = none := I2.hok.fresh (Nat.le_refl _)
  have nC2 : H2 G.objs.size = none := I2.hok.fresh hCl
  -- the loop from any state that the block may begin with
  have loop : ∀ s3 : Shared, s3 = { s2 with heap := h1, toks := s2.toks + ([] : List (Str × Value)).length } →
      codeAny (model X.prog X.w) X.A (.compLoop (.ListComp elt [⟨tg, iter, cs, 0⟩] sc pos) 0 (.ref it) (.ref s2.heap.objs.size) (compEnvC sc (clOf sc X.env) G.objs.size X.env))
        (compPost (model X.prog X.w) X.A X.xe use Qf (.ref s2.heap.objs.size) G.objs.size) s3 := by
    rintro s3 rfl
    have I3 := blk_start (fp := fp) (C := G.objs.size) (h1 := h1) (tk := s2.toks + ([] : List (Str × Value)).length) I2 h0 hN ok f2 hl hCl old ns1
    have stat : ∀ {H' : Hp} {o : Obj}, (∀ b ∈ fp, H' b = none) → ∀ b ∈ fp, FpOk (blk X N' sc G.objs.size fp pins s2 H2) [(s2.heap.objs.size, o)] H' b := fun hn b hb => by
      have lt := hl b hb
      refine ⟨hn b hb, Nat.ne_of_lt (Nat.lt_of_lt_of_le lt hCl), I3.ok.exfs b hb, .inl hb, (I3.ok.exf b hb).2, fun p hp => ?_⟩
      rcases List.mem_append.mp hp with z | z
      · exact (f2 b hb).2.2.2.2.2 p z
      · have e : p.1 = s2.heap.objs.size := by rw [List.mem_singleton.mp z]
        rw [e]
        exact Nat.ne_of_gt lt
    have pinD : ∀ {σ' : St} {H' : Hp} {s' : Shared} {o : Obj}, Inv (blk X N' sc G.objs.size fp pins s2 H2) [] σ' H' s' → s'.heap.get? s2.heap.objs.size = some o → (∀ v, o.data ≠ .cell v) → H' s2.heap.objs.size = none →
        Inv (blk X N' sc G.objs.size fp pins s2 H2) [(s2.heap.objs.size, o)] σ' H' s' := fun {σ' H' s' o} J' e hd hn => J'.pins_of fun p hp => by
      rw [List.mem_singleton.mp hp]
      exact ⟨e, hn, hDC, fun z => by
        rcases List.mem_cons.mp (I2.stkSub _ z) with r | r
        · exact absurd I2.lt (by rw [← r]; exact Nat.lt_irrefl _)
        · exact I2.nofs (Nat.le_refl _) r, hd⟩
    refine lc_loop (fun k s' => ∃ (i : Nat) (ys : List V) (its : List Value) (c : Nat) (σ' : St) (H' : Hp), Inv (blk X N' sc G.objs.size fp pins s2 H2) [] σ' H' s' ∧ tn i s'.heap ∧ (∀ b ∈ fp, H' b = none) ∧
      s'.heap.get? s2.heap.objs.size = some { cls := .type "list", data := .seq its.toArray c } ∧ Vals ys its ∧ H' s2.heap.objs.size = none ∧ W i k ys σ' H') ?_ m0 _
      ⟨0, [], [], 0, _, H2, I3, T.keep _ _ _ st2 fun b _ o e => old b o e, fun b hb => (f2 b hb).1, hD1, .nil, nD2, w0⟩
    rintro k s' ⟨i, ys, its, c, σ', H', I', st', fr', hD', hv, nD, w'⟩
    obtain ⟨hz, cases⟩ := turn i k ys σ' H' w'
    have I'' := pinD I' hD' (fun v => by intro z; cases z) nD
    rcases cases with ⟨stop, q⟩ | ⟨go, N, hN2, step⟩
    · refine thn (T.done (blk X N' sc G.objs.size fp pins s2 H2) rfl rfl rfl hc i _ s' σ' H' NoX I'' (stat fr') st' stop) fun r s4 ⟨hr, I4⟩ => ?_
      subst hr
      obtain ⟨e4, n4, _⟩ := I4.pin (s2.heap.objs.size, { cls := .type "list", data := .seq its.toArray c }) (List.mem_append_right _ (List.mem_singleton.mpr rfl))
      have u4 : Un (frs X.stack) fp H2 H' s2.heap s4.heap := I4.base
      have nC4 : H' G.objs.size = none := I4.free
      obtain ⟨m4, ns4, _⟩ := I4.loc
      have neD : ∀ b o, s2.heap.get? b = some o → b ≠ s2.heap.objs.size := fun b o e => Nat.ne_of_lt (Heap.lt_size e)
      have u5 : Un (frs X.stack) fp H2 (upd H' s2.heap.objs.size (.lst ys)) s2.heap s4.heap :=
        ⟨u4.keep, u4.slot, fun b o e nb hx => by rw [upd_ne (neD b o e)]; exact u4.free b o e nb hx, u4.there, fun b xs e => by rw [upd_ne (ne_of_none e nD2)]; exact u4.tups b xs e,
          fun b o u e => by rw [upd_ne (ne_of_none e nD2)]; exact u4.frzs b o u e, fun b ps e => by rw [upd_ne (ne_of_none e nD2)]; exact u4.tbls b ps e⟩
      have hok5 : HOk X.prog X.w (upd H' s2.heap.objs.size (.lst ys)) s4.heap := fun a o e => by
        by_cases ea : a = s2.heap.objs.size
        · subst ea
          rw [upd_same] at e
          cases e
          exact ⟨hz, its, c, hv, e4⟩
        · rw [upd_ne ea] at e
          exact (I4.hok a o e).stay (fun _ _ _ q => q) (fun b q => by rw [upd_ne (ne_of_none q nD)]; exact q) fun b xs q => by rw [upd_ne (ne_of_none q nD)]; exact q
      have I5 : Inv X pins σ (upd H' s2.heap.objs.size (.lst ys)) s4 := I2.call' I4.os u5 hok5 I4.bare fun b hb => ⟨(f2 b hb).2.2.2.1, (f2 b hb).2.1, (f2 b hb).2.2.2.2.1, (f2 b hb).2.2.2.2.2⟩
      refine fin _ _ ys H' s4 I5 ⟨m4, ns4⟩ (I2.fpOk hCl ?_) (q _ nD)
      rw [upd_ne (Ne.symm hDC)]
      exact nC4
    · refine thn (T.item (blk X N' sc G.objs.size fp pins s2 H2) rfl rfl rfl hc i _ s' σ' H' NoX I'' (stat fr') st' go) fun r s4 ⟨u, hr, h4⟩ => ?_
      subst hr
      refine thn h4 fun _ s5 ⟨x, H5, I5, r5, y5, st5, fr5⟩ => ?_
      have I5' := I5.pinned (stat fr5) (T.obj _ _ st5)
      refine thn (hg _ _ _ _ _ _ s5 σ' H5 x u _ I5' r5 (step x H5 y5)) fun _ s6 ⟨σ6, H6, I6, q6⟩ => ?_
      refine thn (ht _ _ _ _ _ _ s6 σ6 H6 _ I6 q6) fun b s7 ⟨H7, I7, q7⟩ => ?_
      have back : ∀ {s8 : Shared} {H8 : Hp} (m' : Nat), Inv (blk X N' sc G.objs.size fp pins s2 H2) ([(s2.heap.objs.size, { cls := .type "list", data := .seq its.toArray c })] ++ pinsAt fp s5.heap) σ6 H8 s8 →
          tn (i + 1) s8.heap ∧ (∀ b ∈ fp, H8 b = none) ∧ s8.heap.get? s2.heap.objs.size = some { cls := .type "list", data := .seq its.toArray c } ∧ H8 s2.heap.objs.size = none := fun {s8 H8} m' I8 => by
        have pn : ∀ p ∈ [(s2.heap.objs.size, ({ cls := .type "list", data := .seq its.toArray c } : Obj))] ++ pinsAt fp s5.heap, s8.heap.get? p.1 = some p.2 ∧ H8 p.1 = none := fun p hp =>
          let ⟨a, b, _⟩ := I8.pin p (List.mem_append_right _ hp); ⟨a, b⟩
        refine ⟨T.keep _ _ _ st5 fun b hb o e => (pn (b, o) (List.mem_append_right _ (mem_pinsAt hb e))).1, fun b hb => ?_, pn _ (List.mem_append_left _ (List.mem_singleton.mpr rfl))⟩
        obtain ⟨o, e, _⟩ := T.obj _ _ st5 b hb
        exact (pn (b, o) (List.mem_append_right _ (mem_pinsAt hb e))).2
      have bare : ∀ {s8 : Shared} {H8 : Hp} {pl : List (Addr × Obj)}, Inv (blk X N' sc G.objs.size fp pins s2 H2) pl σ6 H8 s8 → Inv (blk X N' sc G.objs.size fp pins s2 H2) [] σ6 H8 s8 := fun I8 => I8.pins_of fun p hp => nomatch hp
      cases b with
      | false =>
        rw [if_neg Bool.false_ne_true] at q7 ⊢
        obtain ⟨m', lt, w7⟩ := hN2 _ _ _ q7
        obtain ⟨b1, b2, b3, b4⟩ := back m' I7
        exact ⟨m', lt, i + 1, ys, its, c, σ6, H7, bare I7, b1, b2, b3, hv, b4, w7⟩
      | true =>
        rw [if_pos rfl] at q7 ⊢
        refine thn (he _ _ _ _ _ _ s7 σ6 H7 _ I7 q7) fun y s8 ⟨yv, H8, I8, r8, q8⟩ => ?_
        obtain ⟨m', lt, w8⟩ := hN2 _ _ _ q8
        obtain ⟨b1, b2, b3, b4⟩ := back m' I8
        have hlen := hv.length
        refine append_at (hsz := by rw [List.size_toArray, ← hlen]; exact hz) b3 fun h9 sb9 e9 => ?_
        have I9 : Inv (blk X N' sc G.objs.size fp pins s2 H2) [] σ6 H8 { s8 with heap := h9 } := (bare I8).turned (t' := s8.toks) (it := s2.heap.objs.size) (fun b o hb e => sb9.extBut b o hb e) b4 hDC (.inr (Nat.le_refl _))
          (fun x c e z => by
            obtain ⟨v, hv⟩ := I2.cell x c (clOf_look hfr e)
            exact absurd hv.lt (by rw [z]; exact Nat.lt_irrefl _))
          fun p hp z => by
            have hp' : p ∈ X.pn ++ pins := by
              have : p ∈ (X.pn ++ pins) ++ ([] : List (Addr × Obj)) := hp
              rw [List.append_nil] at this
              exact this
            exact absurd (Heap.lt_size (I2.pin p hp').1) (by rw [z]; exact Nat.lt_irrefl _)
        refine ⟨m', lt, i + 1, ys ++ [yv], its ++ [y], c + 1, σ6, H8, I9, T.keep _ _ _ b1 fun b hb o e => sb9.extBut b o (Nat.ne_of_lt (hl b hb)) e, b2, ?_, hv.append (.cons r8 .nil), b4, w8⟩
        rw [e9]
        simp
  exact codeAny_compStart_list (loop _ rfl) (T.self _ 0 _ _ _ (T.keep _ _ _ st2 fun b _ o e => old b o e) (loop _ rfl))

/-- a comprehension as a value -/
theorem pe_lc (hc : X.calm = true) (hi : PI X tg iter wi) (h0 : X.env.scope = sc0) (hN : X.N = XN) (ok : lcOk sc0 sc XN N' n kp = true)
    (hg : ∀ C fp pins s H, PG (blk X N' sc C fp pins s H) tg g) (ht : ∀ C fp pins s H, PTs (blk X N' sc C fp pins s H) cs tc) (he : ∀ C fp pins s H, PE (blk X N' sc C fp pins s H) elt te)
    (hs : ∀ x, foldedSetIterable iter X.env x = pure x := by intro _; rfl) : PE X (.ListComp elt [⟨tg, iter, cs, 0⟩] sc pos) (tLc n kp wi g tc te) := by
  intro pins s σ H Q I h
  rw [eval_ListComp]
  refine lc_run hc hi h0 hN ok hg ht he hs I h fun D C ys H' s' I' ns fp q => ?_
  obtain ⟨m, hm⟩ := ns
  refine ⟨m, hm, fun h' sb => ⟨.ref D, _, ?_, rfl, q⟩⟩
  obtain ⟨f1, f2, f3, f4, f5, f6⟩ := fp
  exact I'.turned (t' := s'.toks) (it := C) (fun b o hb e => sb.extBut b o hb e) f1 f2 f4 f5 f6
end
end L2

set_option maxRecDepth 100000
set_option maxHeartbeats 4000000
namespace L2
open PySem PySem.Spec PyProof.Rows
section
variable {X : Cx} {tg iter elt : Expr} {cs : List Expr} {sc sc0 : Scope} {pos : Pos} {wi : TI} {g : TG} {tc : TT} {te : TE} {XN N' : List Str} {n : Nat} {kp : List Nat}
/-- name = [ .. for .. ], where the store is exchanged with the letting go of the block's names -/
theorem ps_setLc {i : Nat} {y : Str} {py spos : Pos} (hNd : X.N.Nodup) (hiy : X.N[i]? = some y) (hy : X.env.scope.names.lookup y = some .local) (hsw : swapsWith (.ListComp elt [⟨tg, iter, cs, 0⟩] sc pos) (some (.Name y py)) spos.line X.env = pure true)
    (hc : X.calm = true) (hi : PI X tg iter wi) (h0 : X.env.scope = sc0) (hN : X.N = XN) (ok : lcOk sc0 sc XN N' n kp = true)
    (hg : ∀ C fp pins s H, PG (blk X N' sc C fp pins s H) tg g) (ht : ∀ C fp pins s H, PTs (blk X N' sc C fp pins s H) cs tc) (he : ∀ C fp pins s H, PE (blk X N' sc C fp pins s H) elt te)
    (hs : ∀ x, foldedSetIterable iter X.env x = pure x := by intro _; rfl) : PS X (.Assign [.Name y py] (.ListComp elt [⟨tg, iter, cs, 0⟩] sc pos) spos) (tAsg (tLc n kp wi g tc te) (gName i)) := by
  intro pins s σ H D I h
  rw [exec_Assign_Name_used _ _ _ _ hsw]
  refine wpAny_bind (wpAny_standAt (wpAny_bind ?_))
  have fin : wpAny (model X.prog X.w) X.A (comprehension (.ListComp elt [⟨tg, iter, cs, 0⟩] sc pos) sc X.env (firstIterPos [⟨tg, iter, cs, 0⟩] pos) (newList []) false (firstIter [⟨tg, iter, cs, 0⟩] X.env) (some (assign (.Name y py) X.env)))
      (fun _ s' => SP X pins D .next s') X.xe s := by
    refine lc_run (Q := fun x H1 => gName i x σ H1 D.nx) hc hi h0 hN ok hg ht he hs I h fun D' C ys H' s' I' ns fp q => ?_
    obtain ⟨m, hm⟩ := ns
    obtain ⟨f1, f2, f3, f4, f5, f6⟩ := fp
    obtain ⟨o, es, ep, ho, rest⟩ := id hm
    have nc : ∀ v, o.data ≠ .cell v := fun v z => by
      rw [rest.1] at z
      cases z
    have I'' : Inv X (pins ++ [(C, o)]) σ (upd H' D' (.lst ys)) s' := I'.pins_of fun p hp => by
      rcases List.mem_append.mp hp with z | z
      · exact I'.pin p (List.mem_append_right _ z)
      · rw [List.mem_singleton.mp z]
        exact ⟨ho, f1, f2, f3, nc⟩
    show wpAny (model X.prog X.w) X.A (assign (.Name y py) X.env (.ref D')) _ X.xe s'
    refine thn (pg_name hNd hiy (.inl hy) (.inr hy) _ s' σ _ (.ref D') (.ref D') D.nx I'' rfl q) fun _ s'' ⟨σ3, H3, I3, q3⟩ => ?_
    obtain ⟨p1, p2, _⟩ := I3.pin (C, o) (List.mem_append_right _ (List.mem_append_right _ (List.mem_singleton.mpr rfl)))
    refine ⟨m, ⟨o, es, ep, p1, rest⟩, fun h' sb => ⟨σ3, H3, ?_, q3⟩⟩
    exact I3.unpinned.turned (t' := s''.toks) (it := C) (fun b o hb e => sb.extBut b o hb e) p2 f2 f4 f5 f6
  show wpAny (model X.prog X.w) X.A (comprehension _ _ _ _ _ _ _ _ >>= _) _ _ s
  exact wpAny_bind (thn fin fun _ s' q => wpAny_pure (wpAny_pure q))
end

/-! ### B. Built-ins that the layer lacks -/
section
variable {X : Cx}
def kitTy (T C : String) : Option Bool := if T = C then some true else if PySem.W.kitMeta C = true then (fastBuiltinMro T).map (·.contains (.type C)) else none
theorem kit_ty {K : PySem.W.Frag} {T C : String} {b : Bool} (h : kitTy T C = some b) : PySem.W.kitOne K (.type T) (.type C) = some b := by
  unfold kitTy at h
  unfold PySem.W.kitOne
  by_cases e : T = C
  · subst e
    rw [if_pos rfl] at h
    rw [if_pos (beq_self_eq_true _)]
    exact h
  · rw [if_neg e] at h
    have z : ¬ (Value.type T == Value.type C) = true := fun q => by
      have q' := eq_of_beq q
      injection q' with q''
      exact e q''
    rw [if_neg z]
    exact h
/-- isinstance(x, T), T a built-in type -/
theorem call_isi : CallR X (.builtin "isinstance") (fun xs H Q => ∃ (x : V) (T C : String) (b : Bool), xs = [x, .ty C] ∧ TyOf X.K H x (.type T) ∧ kitTy T C = some b ∧ Q (.bl b) H) := by
  intro pins s σ H xs us Q I r h
  obtain ⟨x, T, C, b, rfl, ty, e, q⟩ := h
  obtain ⟨u, w', rfl, rx, ry⟩ := vals2 r
  cases (show w' = Value.type C from ry)
  exact isinst_ok I rx ty (kit_ty e) fun tk => ⟨.bl b, H, I.tok tk, rfl, q⟩
theorem isi_list_list : kitTy "list" "list" = some true := by decide +kernel
/-- two lists of ints compared -/
theorem op_ne_ints (hu : X.A.units + 64 < cLine) : OpR X (compareOp .NotEq) (fun x y H Q => ∃ (a b : Addr) (ns ms : List Int), x = .ref a ∧ y = .ref b ∧ SqL X.K H a (ns.map V.int) ∧ SqL X.K H b (ms.map V.int) ∧ Q (.bl (!decide (ns = ms))) H) := by
  intro pins s σ H x y v u Q I rx ry h
  obtain ⟨a, b, ns, ms, rfl, rfl, ha, hb, q⟩ := h
  cases rx
  cases ry
  obtain ⟨xs, rv, p, _⟩ := I.list ha
  obtain ⟨ys, rv', p', _⟩ := I.list hb
  exact PySem.W.ke_ne_ints p.isList p'.isList (intsAre_of rv) (intsAre_of rv') hu ⟨.bl _, H, I, rfl, q⟩
end
end L2

set_option maxRecDepth 100000
set_option maxHeartbeats 4000000
namespace L2
open PySem PySem.Spec PyProof.Rows

/-! ### C. enumerate of a list or a tuple -/
section
variable {prog : Program} {w : World} {A : Around} {E : Value → Shared → Prop} {s : Shared}
theorem nextT_item {j q : Addr} {i : Nat} {its : Array Value} {x : Value} {Q : Value → Shared → Prop} (hj : s.heap.IsTupleIter j q i) (hq : s.heap.IsTuple q its) (hx : its[i]? = some x)
    (k : ∀ g, g.IsTupleIter j q (i + 1) → Heap.SameBut j s.heap g → Q x { s with heap := g }) : wpAny (model prog w) A (Builtin.SmallTypes.nextOf (.ref j)) Q E s := by
  obtain ⟨o, ho, oc, od⟩ := id hj
  obtain ⟨p, hp, _, m, pd⟩ := hq
  unfold Builtin.SmallTypes.nextOf
  refine wpAny_bind (wpAny_callSpecial?_slot (name := Str.ofString "__next__") hj.typeIs F.slot_tuple_iterator_next (wpAny_call_entry F.slot_tuple_iterator_next hj.typeIs F.entry_tuple_iterator_next ?_ (F.args_tuple_iterator_next_1 _)))
  show wpAny _ _ (field (.ref j) 0 >>= _) _ _ s
  refine wpAny_bind (wpAny_field ho od (x := .ref q) rfl ?_)
  show wpAny _ _ (if (Value.ref q == Value.none) = true then _ else _) _ _ s
  rw [if_neg (show ¬ ((Value.ref q == Value.none) = true) from Bool.false_ne_true)]
  show wpAny _ _ (field (.ref j) 1 >>= _) _ _ s
  refine wpAny_bind (wpAny_field ho od (x := .int i 0) rfl ?_)
  show wpAny _ _ (seqItems? (.ref q) >>= _) _ _ s
  refine wpAny_bind (wpAny_seqItems hp pd ?_)
  simp only [hx, Int.toNat_natCast]
  refine wpAny_bind (wpAny_setField ho od (by simp) (wpAny_pure ⟨x, rfl, wpAny_pure (k _ ⟨_, Heap.get?_update_self _ ho (Obj.isFreed_of_fields (Obj.data_mapFields od _)), (Obj.cls_mapFields ..).trans oc, ?_⟩ (Heap.SameBut.update ..))⟩))
  rw [Obj.data_mapFields od]
  simp [rawInt]
theorem nextT_end {j q : Addr} {i : Nat} {its : Array Value} {Q : Value → Shared → Prop} (hh : A.handled = none) (hj : s.heap.IsTupleIter j q i) (hq : s.heap.IsTuple q its) (hx : its[i]? = none)
    (k : ∀ g e, Heap.ExtBut j s.heap g → (∃ o, g.get? e = some o ∧ o.cls = .type "StopIteration") → E (.ref e) { s with heap := g }) : wpAny (model prog w) A (Builtin.SmallTypes.nextOf (.ref j)) Q E s := by
  obtain ⟨o, ho, oc, od⟩ := id hj
  obtain ⟨p, hp, _, m, pd⟩ := hq
  unfold Builtin.SmallTypes.nextOf
  refine wpAny_bind (wpAny_callSpecial?_slot (name := Str.ofString "__next__") hj.typeIs F.slot_tuple_iterator_next (wpAny_call_entry F.slot_tuple_iterator_next hj.typeIs F.entry_tuple_iterator_next ?_ (F.args_tuple_iterator_next_1 _)))
  show wpAny _ _ (field (.ref j) 0 >>= _) _ _ s
  refine wpAny_bind (wpAny_field ho od (x := .ref q) rfl ?_)
  show wpAny _ _ (if (Value.ref q == Value.none) = true then _ else _) _ _ s
  rw [if_neg (show ¬ ((Value.ref q == Value.none) = true) from Bool.false_ne_true)]
  show wpAny _ _ (field (.ref j) 1 >>= _) _ _ s
  refine wpAny_bind (wpAny_field ho od (x := .int i 0) rfl ?_)
  show wpAny _ _ (seqItems? (.ref q) >>= _) _ _ s
  refine wpAny_bind (wpAny_seqItems hp pd ?_)
  simp only [hx, Int.toNat_natCast]
  refine wpAny_bind (wpAny_rule (wpAny_bind (wpAny_setField ho od (by simp) ?_)))
  show wpAny _ _ (newExc (.type "StopIteration") [] >>= _) _ _ _; refine wpAny_bind ?_; simp only [newExc, newTuple]
  refine wpAny_bind (wpAny_newObj_type ?_ (by size_fits)); refine wpAny_bind (m := firstArgMember _ _) (wpAny_of_eq (a := Value.none) (by first | rfl | (simp only [firstArgMember]; rfl)) ?_)
  refine wpAny_newObj_type ?_ (by size_fits); simp only [raiseNew]; refine wpAny_bind (wpAny_handled ?_); first | rw [show A.in1.handled = none from hh] | rw [hh]
  refine wpAny_bind (wpAny_pure (wpAny_throw ?_)); exact k _ _ (((Heap.SameBut.update ..).extBut.push _).push _) ⟨_, Heap.get?_push_size _ rfl, rfl⟩
theorem draws_tup (hh : A.handled = none) (j q : Addr) (hne : q ≠ j) (its : Array Value) : Draws prog w A j [j, q] its.size (fun i v => its[i]? = some v) (fun i h => h.IsTupleIter j q i ∧ h.IsTuple q its) where
  live := fun _ _ st => let ⟨o, ho, _⟩ := st.1; ⟨o, ho⟩
  frame := fun _ _ _ st hk => ⟨st.1.at fun o e => hk j (by simp) o e, let ⟨o, e, r⟩ := st.2; ⟨o, hk q (by simp) o e, r⟩⟩
  item := fun i s Q E hi st hQ => nextT_item st.1 st.2 (x := its[i]) (by simp [hi]) fun g hj sb => hQ _ g s.toks (by simp [hi]) ⟨hj, st.2.extBut sb.extBut hne⟩ sb
  done := fun s Q E st hE => nextT_end hh st.1 st.2 (by simp) hE
open AutoSeq1 (wpAny_loadPart') in
theorem meets_enumT (q : Addr) (its : Array Value) (n : Nat) (dct : Option Addr) (sl : Array (Option Value)) :
    Meets (Builtin.«enumerate.__new__» ⟨[.type "enumerate", .ref q], []⟩) (fun _ R s => s.heap.get? q = some { cls := .type "tuple", dict := dct, data := .seq its n, slots := sl } ∧
      R (.ok (.ret (.ref (s.heap.push { cls := .type "tuple_iterator", data := .fields #[.ref q, .int 0 0] }).objs.size))) { s with heap := (s.heap.push { cls := .type "tuple_iterator", data := .fields #[.ref q, .int 0 0] }).push { cls := .type "enumerate", data := .fields #[.none, .bool false, .ref s.heap.objs.size, rawInt 0, .none, .none] } }) :=
  .of_wp fun prog w A R s h => by
    obtain ⟨hp, g, d, tk, os⟩ := s
    obtain ⟨hq, h⟩ := h
    have hsub := sub_enumerate
    have hT : Heap.IsTuple (Shared.heap ⟨hp, g, d, tk, os⟩) q its := ⟨_, hq, rfl, n, rfl⟩
    wp_walk using wpAny_loadPart' hq
    refine wpAny_stack_any fun st => wpAny_pure ?_
    split
    · rename_i c _ _ _ _ _
      cases (c == Value.type "enumerate")
      · wp_walk using wpAny_loadPart' hq, wpAny_pyIter_tuple hT
        exact ⟨_, rfl, h⟩
      · wp_walk using wpAny_loadPart' hq, wpAny_pyIter_tuple hT
        exact ⟨_, rfl, h⟩
    · wp_walk using wpAny_loadPart' hq, wpAny_pyIter_tuple hT
      exact ⟨_, rfl, h⟩
theorem call_enumT {q : Addr} {its : Array Value} {Q : Value → Shared → Prop} (hT : s.heap.IsTuple q its)
    (k : ∀ g, IsEnum g (s.heap.objs.size + 1) s.heap.objs.size 0 .none → g.IsTupleIter s.heap.objs.size q 0 → (∀ b o, s.heap.get? b = some o → g.get? b = some o) → Q (.ref (s.heap.objs.size + 1)) { s with heap := g }) :
    wpAny (model prog w) A (call (.type "enumerate") [.ref q]) Q E s := by
  obtain ⟨⟨c, dct, dt, sl⟩, hq, hc, n, hd⟩ := hT
  cases (show c = .type "tuple" from hc)
  cases (show dt = .seq its n from hd)
  refine callType_new F.called_enumerate (by decide) (F.typeCall_enumerate_1 _) (F.newCall_enumerate_1 _) (fun obj => F.args_object_init_2 obj _) F.entry_enumerate_new (meets_enumT q its n dct sl) ⟨hq, ?_⟩
  have z : (s.heap.push { cls := .type "tuple_iterator", data := .fields #[.ref q, .int 0 0] }).objs.size = s.heap.objs.size + 1 := Heap.size_push ..
  have he : IsEnum ((s.heap.push { cls := .type "tuple_iterator", data := .fields #[.ref q, .int 0 0] }).push { cls := .type "enumerate", data := .fields #[.none, .bool false, .ref s.heap.objs.size, rawInt 0, .none, .none] }) (s.heap.objs.size + 1) s.heap.objs.size 0 .none := by
    have y := Heap.get?_push_size (s.heap.push { cls := .type "tuple_iterator", data := .fields #[.ref q, .int 0 0] }) (o := { cls := .type "enumerate", data := .fields #[.none, .bool false, .ref s.heap.objs.size, rawInt 0, .none, .none] }) rfl
    rw [z] at y
    exact y
  show _ ∧ _
  rw [z]
  exact ⟨⟨_, he, rfl⟩, k _ he ⟨_, Heap.get?_push_of_some _ (Heap.get?_push_size _ rfl), rfl, rfl⟩ fun b o y => Heap.get?_push_of_some _ (Heap.get?_push_of_some _ y)⟩
end

/-- the sequence at a, a list or a tuple -/
def Sq (K : PySem.W.Frag) (b : Bool) (H : Hp) (a : Addr) (xs : List V) : Prop := if b = true then SqT K H a xs else SqL K H a xs
/-- enumerate over it: pairs, each a new tuple -/
def Ite (K : PySem.W.Frag) (b : Bool) (a : Addr) : It :=
  ⟨fun i H => ∃ xs x, Sq K b H a xs ∧ xs[i]? = some x, fun i H x H' => ∃ T v, x = .ref T ∧ H T = none ∧ H' = upd H T (.tup [.int i, v]) ∧ ∀ xs, Sq K b H a xs → xs[i]? = some v, fun i H => ∃ xs, Sq K b H a xs ∧ xs.length = i⟩
def enIt (b : Bool) (h : Heap) (it a : Addr) (i : Nat) : Prop := if b = true then h.IsTupleIter it a i else h.IsListIter it a i
section
variable {X : Cx} {pins : List (Addr × Obj)} {σ : St} {H : Hp} {s : Shared}
/-- two records have turned, a pair is laid -/
theorem Inv.turned2 {h' : Heap} {t' : Nat} {e it T : Addr} {v : V} {u : Value} {i : Int} {tk : Tok} (I : Inv X pins σ H s) (fe : FpOk X pins H e) (fi : FpOk X pins H it) (hT : s.heap.objs.size ≤ T) (rv : RelV v u)
    (k : ∀ b o, b ≠ e → b ≠ it → s.heap.get? b = some o → h'.get? b = some o) (ke : ∃ o, h'.get? e = some o) (ki : ∃ o, h'.get? it = some o) (eT : h'.get? T = some { cls := .type "tuple", data := .seq #[.int i tk, u] }) :
    Inv X pins σ (upd H T (.tup [.int i, v])) { s with heap := h', toks := t' } := by
  have nT : H T = none := I.hok.fresh hT
  have ne : ∀ b o, H b = some o → b ≠ e ∧ b ≠ it := fun b o q => ⟨ne_of_none q fe.1, ne_of_none q fi.1⟩
  have un : Un (frs X.stack) [e, it] H (upd H T (.tup [.int i, v])) s.heap h' := by
    have off : ∀ b, b ∉ [e, it] → b ≠ e ∧ b ≠ it := fun b hb => ⟨fun z => hb (by simp [z]), fun z => hb (by simp [z])⟩
    have lt : ∀ b o, s.heap.get? b = some o → b ≠ T := fun b o q => Nat.ne_of_lt (Nat.lt_of_lt_of_le (Heap.lt_size q) hT)
    exact ⟨fun b o q _ _ hx => k b o (off b hx).1 (off b hx).2 q, fun b o q _ _ hx => ⟨o.slots, k b o (off b hx).1 (off b hx).2 q⟩, fun b o q n _ => by rw [upd_ne (lt b o q)]; exact n, fun b o q hx => ⟨o, k b o (off b hx).1 (off b hx).2 q⟩,
      fun b xs q => by rw [upd_ne (ne_of_none q nT)]; exact q, fun b o xs q => by rw [upd_ne (ne_of_none q nT)]; exact q, fun b ps q => ⟨#[], by rw [upd_ne (ne_of_none q nT), q]; simp⟩⟩
  refine I.call (g' := s.gens) (d' := s.drawn) (ch := [e, it]) un (fun a o q => ?_) I.bare fun b hb => ?_
  · by_cases ea : a = T
    · subst ea
      rw [upd_same] at q
      cases q
      exact ⟨Nat.le_of_lt (small1000 (by show 2 ≤ 1000; decide)), [.int i tk, u], .cons ⟨tk, rfl⟩ (.cons rv .nil), ⟨_, eT, rfl, _, rfl⟩⟩
    · rw [upd_ne ea] at q
      refine (I.hok a o q).stay (fun b z hb r => k b z ?_ ?_ r) (fun b r => by rw [upd_ne (ne_of_none r nT)]; exact r) fun b xs r => by rw [upd_ne (ne_of_none r nT)]; exact r
      · rcases hb with rfl | hb
        · exact (ne _ _ q).1
        · exact (ne _ _ hb).1
      · rcases hb with rfl | hb
        · exact (ne _ _ q).2
        · exact (ne _ _ hb).2
  · rcases List.mem_cons.mp hb with z | z
    · subst z
      exact ⟨fe.2.2.2.1, fe.2.1, fe.2.2.2.2.1, fe.2.2.2.2.2⟩
    · have z' := List.mem_singleton.mp z
      subst z'
      exact ⟨fi.2.2.2.1, fi.2.1, fi.2.2.2.2.1, fi.2.2.2.2.2⟩
end
theorem Sq.inj {X : Cx} {pins : List (Addr × Obj)} {σ : St} {H : Hp} {s : Shared} {b : Bool} {a : Addr} {xs ys : List V} (I : Inv X pins σ H s) (h : Sq X.K b H a xs) (h' : Sq X.K b H a ys) : xs = ys := by
  cases b with
  | true => exact I.tuple_inj h h'
  | false => exact I.list_inj h h'
theorem enIt_obj {b : Bool} {h : Heap} {it a : Addr} {i : Nat} (st : enIt b h it a i) : ∃ o, h.get? it = some o ∧ ∀ v, o.data ≠ .cell v := by
  cases b with
  | true =>
    obtain ⟨o, e, _, d⟩ := (show h.IsTupleIter it a i from st)
    exact ⟨o, e, fun v z => by rw [d] at z; cases z⟩
  | false =>
    obtain ⟨o, e, _, d⟩ := (show h.IsListIter it a i from st)
    exact ⟨o, e, fun v z => by rw [d] at z; cases z⟩
/-- the inner iterator drawn, whichever it is -/
theorem enIt_draws {X : Cx} {pins : List (Addr × Obj)} {σ : St} {H : Hp} {s : Shared} {b : Bool} {a it : Addr} {xs : List V} (I : Inv X pins σ H s) (hd : X.A.handled = none) (hq : Sq X.K b H a xs) (hne : a ≠ it) :
    ∃ (its : List Value) (St : Nat → Heap → Prop), Vals xs its ∧ Draws X.prog X.w X.A.in1 it [it, a] its.toArray.size (fun i v => its.toArray[i]? = some v) St ∧ (∀ i, enIt b s.heap it a i → St i s.heap) ∧ ∀ i h, St i h → enIt b h it a i := by
  cases b with
  | true =>
    obtain ⟨its, rv, p, _⟩ := I.tuple hq
    exact ⟨its, fun i h => h.IsTupleIter it a i ∧ h.IsTuple a its.toArray, rv, draws_tup (A := X.A.in1) hd it a hne its.toArray, fun i st => ⟨st, p⟩, fun i h st => st.1⟩
  | false =>
    obtain ⟨its, rv, p, _⟩ := I.list hq
    exact ⟨its, fun i h => h.IsListIter it a i ∧ h.IsList a its.toArray, rv, Draws.list (A := X.A.in1) hd it a hne its.toArray, fun i st => ⟨st, p.isList⟩, fun i h st => st.1⟩
theorem turn_enum {P : Program} {w : World} {K : PySem.W.Frag} {elts : List Expr} {k : Nat} {pos : Pos} (b : Bool) (a e it : Addr) (hei : e ≠ it) (hae : a ≠ e) (hai : a ≠ it) :
    Turn P w K (.Tuple elts k pos) (Ite K b a) [e, it] e (fun i h => (∃ old, IsEnum h e it (i : Int) old) ∧ enIt b h it a i) where
  mem := by simp
  obj := fun i h st c hc => by
    rcases List.mem_cons.mp hc with z | z
    · subst z
      obtain ⟨old, q⟩ := st.1
      exact ⟨_, q, fun v z => by
        have z' : Data.fields _ = Data.cell v := z
        cases z'⟩
    · rw [List.mem_singleton.mp z]
      exact enIt_obj st.2
  keep := fun i h h' st kk => by
    obtain ⟨⟨old, q⟩, st⟩ := st
    refine ⟨⟨old, kk e (by simp) _ q⟩, ?_⟩
    cases b with
    | true => exact (show h.IsTupleIter it a i from st).at fun o q => kk it (by simp) o q
    | false => exact (show h.IsListIter it a i from st).at fun o q => kk it (by simp) o q
  item := by
    intro X hP hw hK hc i pins s σ H E I hf st hg
    subst hP hw hK
    obtain ⟨⟨old, he⟩, st⟩ := st
    obtain ⟨xs, x, hq, hx⟩ := hg
    obtain ⟨its, St, rv, D, up, dn⟩ := enIt_draws I (I.ok.hd hc) hq hai
    obtain ⟨u, hu, ru⟩ := rv.get hx
    have hlt : i < its.toArray.size := by simpa using (List.getElem?_eq_some_iff.mp hu).1
    have fe := hf e (by simp)
    have fi := hf it (by simp)
    have lte : e < s.heap.objs.size := Heap.lt_size he
    refine wpAny_pyNext_enum_itemD D he (up i st) hlt hei (by simp [hei, Ne.symm hae]) fun y g tk hy ho st' hT hsz kk => ?_
    have ey : y = u := by
      have z : its.toArray[i]? = some y := hy
      rw [List.getElem?_toArray, hu] at z
      exact (Option.some.inj z).symm
    subst ey
    refine ⟨_, rfl, wpAny_letOwnedTupleGo_enum ho fun g2 he2 sb => ?_⟩
    have it2 : ∃ o, g2.get? it = some o := by
      obtain ⟨o, q, _⟩ := enIt_obj (dn _ _ st')
      exact ⟨o, (sb.2 it (Ne.symm hei)).trans q⟩
    have I2 := I.turned2 (h' := g2) (t' := tk + 1) (T := s.heap.objs.size) (i := (i : Int)) (tk := tk) fe fi (Nat.le_refl _) ru (fun c o h1 h2 q => (sb.2 c h1).trans (kk c o h1 h2 q)) ⟨_, he2⟩ it2 ((sb.2 _ (Nat.ne_of_gt lte)).trans hT)
    refine ⟨.ref s.heap.objs.size, _, I2, rfl, ⟨_, x, rfl, I.hok.fresh (Nat.le_refl _), rfl, fun ys hy' => by rw [Sq.inj I hy' hq]; exact hx⟩, ⟨⟨y, he2⟩, ?_⟩, fun c hc' => ?_⟩
    · have z := dn _ _ st'
      cases b with
      | true => exact (show g.IsTupleIter it a (i + 1) from z).at fun o q => (sb.2 it (Ne.symm hei)).trans q
      | false => exact (show g.IsListIter it a (i + 1) from z).at fun o q => (sb.2 it (Ne.symm hei)).trans q
    · have nz : H c = none := (hf c hc').1
      have cl : c < s.heap.objs.size := by
        rcases List.mem_cons.mp hc' with z | z
        · rw [z]; exact lte
        · rw [List.mem_singleton.mp z]
          obtain ⟨o, q, _⟩ := enIt_obj st
          exact Heap.lt_size q
      rw [upd_ne (Nat.ne_of_lt cl)]
      exact nz
  done := by
    intro X hP hw hK hc i pins s σ H E I hf st hg
    subst hP hw hK
    obtain ⟨⟨old, he⟩, st⟩ := st
    obtain ⟨xs, hq, hx⟩ := hg
    obtain ⟨its, St, rv, D, up, dn⟩ := enIt_draws I (I.ok.hd hc) hq hai
    obtain ⟨f0, f1, f2, f3, f4, f5⟩ := hf it (by simp)
    have hl := rv.length
    have e1 : i = its.toArray.size := by
      rw [List.size_toArray]
      omega
    refine wpAny_pyNext_enum_endD D he (by rw [← e1]; exact up i st) fun g eb => ⟨rfl, I.turned (t' := s.toks) (fun c o hc' q => eb c o hc' q) f0 f1 f3 f4 f5⟩
  self := fun _ _ _ _ _ st h => by
    obtain ⟨⟨old, he⟩, _⟩ := st
    exact wpAny_pyIter_enum he h

/-! the iterator of enumerate(e) -/
def iEnum (K : PySem.W.Frag) (ta : TA) : TI := fun σ H R => ta σ H fun vs H1 => ∃ (b : Bool) (a : Addr), vs = [.ref a] ∧ (∃ xs, Sq K b H1 a xs) ∧ R (Ite K b a) H1
theorem pi_enum {X : Cx} {elts : List Expr} {k : Nat} {pos p pos' : Pos} {a : Expr} {ta : TA} (hg : Gl X "enumerate") (hm : X.mg "enumerate" = none) (ha : PA X [a] ta) (hs : starEach [a] X.env = [(false, eval a X.env)] := by rfl) :
    PI X (.Tuple elts k pos) (.Call (.Name "enumerate" p) [a] [] pos') (iEnum X.K ta) := by
  intro pins s σ H R I h
  refine Call_ (ld_blt I hg hm PyProof.Rows.boot_enumerate (PyProof.Rows.callWith_type1 (thn (ha pos' pins s σ H _ I h) fun us s1 ⟨vs, H1, I1, r1, q1⟩ => ?_) hs rfl))
  obtain ⟨b, c, rfl, ⟨xs, hq⟩, q⟩ := q1
  obtain ⟨u, rfl, ru⟩ := vals1 r1
  cases ru
  have fin : ∀ g : Heap, IsEnum g (s1.heap.objs.size + 1) s1.heap.objs.size 0 .none → enIt b g s1.heap.objs.size c 0 → (∀ d o, s1.heap.get? d = some o → g.get? d = some o) → c < s1.heap.objs.size →
      wpAny (model X.prog X.w) X.A (pyIter (.ref (s1.heap.objs.size + 1))) (PIE X pins σ (.Tuple elts k pos) R) X.xe { s1 with heap := g } := fun g he hi kk cl => by
    refine wpAny_pyIter_enum he ?_
    refine ⟨s1.heap.objs.size + 1, [s1.heap.objs.size + 1, s1.heap.objs.size], _, _, H1, rfl, I1.kept (t' := s1.toks) kk, turn_enum b c _ _ (Nat.succ_ne_self _) (Nat.ne_of_lt (Nat.lt_succ_of_lt cl)) (Nat.ne_of_lt cl), ⟨⟨.none, he⟩, hi⟩, fun d hd => ?_, q⟩
    have le : s1.heap.objs.size ≤ d := by
      rcases List.mem_cons.mp hd with z | z
      · rw [z]; exact Nat.le_succ _
      · rw [List.mem_singleton.mp z]; exact Nat.le_refl _
    exact I1.fpOk le (I1.hok.fresh le)
  cases b with
  | true =>
    obtain ⟨its, rv, pt, _⟩ := I1.tuple hq
    exact call_enumT (show s1.heap.IsTuple c its.toArray from pt) fun g he hi kk => fin g he hi kk pt.lt
  | false =>
    obtain ⟨its, rv, pl, _⟩ := I1.list hq
    have hl := pl.isList
    exact call_enumerate_list hl fun g he hi _ kk => fin g he hi kk (by obtain ⟨o, e, _⟩ := hl; exact Heap.lt_size e)
/-- a loop over enumerate of a sequence that stays as it is -/
theorem for_enum {K : PySem.W.Frag} {b : Bool} {a : Addr} {xs : List V} {g : TG} {tb : TS} {D : Ends} {σ : St} {H : Hp} (Pv : Nat → St → Hp → Prop) (h0 : Pv 0 σ H) (hl : ∀ i σ H, i ≤ xs.length → Pv i σ H → Sq K b H a xs)
    (hs : ∀ i x σ H, xs[i]? = some x → Pv i σ H → ∀ T, H T = none → g (.ref T) σ (upd H T (.tup [.int i, x])) fun σ2 H2 => tb { D with nx := Pv (i + 1), ct := Pv (i + 1), bk := D.nx } σ2 H2) (hd : ∀ σ H, Pv xs.length σ H → D.nx σ H) :
    ∃ W : Nat → Nat → St → Hp → Prop, (∃ m, W 0 m σ H) ∧ ∀ i m σ H, W i m σ H →
      ((Ite K b a).stop i H ∧ D.nx σ H) ∨ ((Ite K b a).go i H ∧ ∃ N : St → Hp → Prop, (∀ σ' H', N σ' H' → ∃ m', m' < m ∧ W (i + 1) m' σ' H') ∧ ∀ x H', (Ite K b a).yld i H x H' → g x σ H' fun σ2 H2 => tb { D with nx := N, ct := N, bk := D.nx } σ2 H2) := by
  refine ⟨fun i m σ H => m = xs.length - i ∧ i ≤ xs.length ∧ Pv i σ H, ⟨xs.length, by simp, Nat.zero_le _, h0⟩, ?_⟩
  rintro i m σ H ⟨rfl, hi, p⟩
  have q := hl i σ H hi p
  by_cases hlt : i < xs.length
  · refine .inr ⟨⟨xs, xs[i], q, by simp [hlt]⟩, Pv (i + 1), fun σ' H' p' => ⟨xs.length - (i + 1), by omega, rfl, hlt, p'⟩, fun x H' y => ?_⟩
    obtain ⟨T, v, rfl, hT, rfl, hv⟩ := y
    exact hs i v σ H (hv xs q) p T hT
  · have e : i = xs.length := by omega
    subst e
    exact .inl ⟨⟨xs, q, rfl⟩, hd σ H p⟩
end L2

set_option maxRecDepth 100000
set_option maxHeartbeats 4000000
namespace L2
open PySem PySem.Spec PyProof.Rows
/-! ### D. More built-ins -/
section
variable {X : Cx}
/-- sorted of a list of ints -/
theorem call_sorted : CallR X (.builtin "sorted") (fun xs H Q => ∃ (p : Addr) (ns : List Int), xs = [.ref p] ∧ SqL X.K H p (ns.map V.int) ∧ ns.length < 64 ∧ ∀ ms : List Int, ms.Perm ns → ms.Pairwise (· ≤ ·) → ∀ l, H l = none → Q (.ref l) (upd H l (.lst (ms.map V.int)))) := by
  intro pins s σ H xs us Q I r h
  obtain ⟨p, ns, rfl, hq, hz, q⟩ := h
  obtain ⟨u, rfl, rx⟩ := vals1 r
  cases rx
  obtain ⟨its, rv, pl, hz'⟩ := I.list hq
  have hlen := rv.length
  rw [List.length_map] at hlen hz'
  refine sorted_ints pl.isList (intsAre_of rv) (by omega) fun out ms a1 a2 a3 => ?_
  obtain ⟨e, he⟩ := sortedAll_at s.heap its out
  have hm : ms.length = ns.length := a2.length_eq
  refine ⟨.ref (s.heap.objs.size + 1), _, I.laid (t' := s.toks) (fun b o => sortedAll_old) (Nat.le_succ _) (show ObjOk X.prog X.w _ _ _ (.lst (ms.map V.int)) from ⟨by rw [List.length_map, hm]; exact hz', out.toList, e, vals_ints a1, he⟩), rfl, q ms a2 a3 _ (I.hok.fresh (Nat.le_succ _))⟩
/-- range(a, b) as a value -/
theorem call_rng : CallR X (.type "range") (fun xs H Q => ∃ i j : Int, xs = [.int i, .int j] ∧ ∀ p, H p = none → Q (.ref p) (upd H p (.rng i j))) := by
  intro pins s σ H xs us Q I r h
  obtain ⟨i, j, rfl, q⟩ := h
  obtain ⟨u, w', rfl, ⟨t, rfl⟩, ⟨t', rfl⟩⟩ := vals2 r
  refine call_range_2 ⟨.ref s.heap.objs.size, _, I.laid (fun b o e => Heap.get?_push_of_some _ e) (Nat.le_refl _) (show ObjOk X.prog X.w _ _ _ (.rng i j) from ⟨t, t', _, Heap.get?_push_size _ rfl⟩), rfl, q _ (I.hok.fresh (Nat.le_refl _))⟩
theorem vals_of {P : Nat → Value → Prop} {f : Nat → V} (hP : ∀ i v, P i v → RelV (f i) v) : ∀ (n k : Nat) (l : List Value), l.length = n → (∀ j v, l[j]? = some v → P (k + j) v) → Vals ((List.range' k n).map f) l
  | 0, k, [], _, _ => .nil
  | n + 1, k, v :: r, hl, h => by
    rw [List.range'_succ, List.map_cons]
    refine .cons (hP _ _ (h 0 v rfl)) (vals_of hP n (k + 1) r (by simpa using hl) fun j v' e => ?_)
    have := h (j + 1) v' (by simpa using e)
    rw [show k + 1 + j = k + (j + 1) by omega]
    exact this
  | 0, _, _ :: _, hl, _ => by simp at hl
  | n + 1, _, [], hl, _ => by simp at hl
/-- list(range) -/
theorem call_list_rng (hc : X.calm = true) : CallR X (.type "list") (fun xs H Q => ∃ (p : Addr) (lo hi : Int), xs = [.ref p] ∧ H p = some (.rng lo hi) ∧ -(2 ^ 62) ≤ lo ∧ lo < 2 ^ 62 ∧ -(2 ^ 62) ≤ hi ∧ hi < 2 ^ 62 ∧ (hi - lo).toNat ≤ 1000 ∧ ∀ l, H l = none → Q (.ref l) (upd H l (.lst ((List.range' 0 (hi - lo).toNat).map fun i : Nat => V.int (lo + i))))) := by
  intro pins s σ H xs us Q I r h
  obtain ⟨p, lo, hi, rfl, hp, b1, b2, b3, b4, hz, q⟩ := h
  obtain ⟨u, rfl, rx⟩ := vals1 r
  cases rx
  obtain ⟨t, u, v, e⟩ := (show ObjOk X.prog X.w H s.heap p (.rng lo hi) from I.hok p _ hp)
  have hn : Builtin.Range.rangeSize lo hi 1 = (((hi - lo).toNat : Nat) : Int) := by
    rw [rangeSize_one]
    split <;> omega
  refine call_list_range (I.ok.hd hc) e (small_one b1 b2 b3 b4) hn (Nat.le_trans hz (by decide)) fun g tk acc c kk eg hi' => ?_
  obtain ⟨sz, it⟩ := hi'
  have vv : Vals ((List.range' 0 (hi - lo).toNat).map fun i : Nat => V.int (lo + i)) acc.toList := by
    refine vals_of (P := fun i v => ∃ t, v = .int (lo + i * 1) t) (fun i v hv => ?_) _ 0 acc.toList (by simpa using sz) fun j v ej => ?_
    · obtain ⟨t, rfl⟩ := hv
      exact ⟨t, by rw [Int.mul_one]⟩
    · have := it j v (by simpa using ej)
      rw [Nat.zero_add]
      exact this
  refine ⟨.ref s.heap.objs.size, _, I.laid (t' := tk) kk (Nat.le_refl _) (show ObjOk X.prog X.w _ _ _ (.lst _) from ⟨?_, acc.toList, c, vv, eg⟩), rfl, q _ (I.hok.fresh (Nat.le_refl _))⟩
  rw [List.length_map, List.length_range']
  exact Nat.le_of_lt (small1000 hz)
open AutoSeq1 (wpAny_loadPart') in
theorem meets_extT (l : Addr) (its : Array Value) (n : Nat) (b : Addr) (its2 : Array Value) (n2 : Nat) (dct : Option Addr) (sl : Array (Option Value)) (h0 : ¬(!its.isEmpty && Builtin.List.listTooLong (its.size + its2.size)) = true) (h1 : its.size ≤ sizeLine) (h2 : its.size + its2.size ≤ sizeLine + 1) :
    Meets (Builtin.«list.extend» ⟨[.ref l, .ref b], []⟩) (fun _ R s => s.heap.get? l = some { cls := .type "list", dict := none, data := .seq its n, slots := #[] } ∧ s.heap.get? b = some { cls := .type "tuple", dict := dct, data := .seq its2 n2, slots := sl } ∧ R (.ok (.ret Value.none)) { s with heap := s.heap.update l (Obj.mapSeq fun x => x ++ its2), toks := s.toks }) :=
  .of_wp fun prog w A R s h => by
    obtain ⟨hp, g, d, tk, os⟩ := s
    obtain ⟨hl, hb, h⟩ := h
    have f1 := sub_tuple_tuple; have f2 := sub_list_list; have f3 := sub_tuple_list; have f4 := sub_list_tuple
    have hz : (its ++ its2).size ≤ sizeLine + 1 := by
      rw [Array.size_append]
      exact h2
    wp_walk using (wpAny_updateSeq hl rfl (hz := h1) (_hz' := hz)), wpAny_loadPart' hl, wpAny_loadPart' hb
    exact ⟨_, rfl, h⟩
/-- list.extend by a tuple -/
theorem mt_extendT : MtM X "list.extend" (fun x vs H Q => ∃ l b xs zs, x = .ref l ∧ vs = [.ref b] ∧ H l = some (.lst xs) ∧ H b = some (.tup zs) ∧ xs.length + zs.length ≤ sizeLine ∧ Q .non (upd H l (.lst (xs ++ zs)))) := by
  intro pins s σ H x vs v us Q I rx rv h
  obtain ⟨l, b, xs, zs, rfl, rfl, hH, hB, hz, q⟩ := h
  cases rx
  obtain ⟨u, rfl, ru⟩ := rv.one
  cases ru
  obtain ⟨z, its, n, r, hl, e⟩ := I.lstM hH
  obtain ⟨its2, r2, ⟨⟨c2, d2, dt2, sl2⟩, e2, hc2, n2, hd2⟩, z2⟩ := I.tuple (.inl (.inl hB))
  cases (show c2 = .type "tuple" from hc2)
  cases (show dt2 = .seq its2.toArray n2 from hd2)
  have hl2 := r2.length
  have hsz : its.toArray.size + its2.toArray.size ≤ sizeLine := by rw [List.size_toArray, List.size_toArray]; omega
  refine call_meets F.slot_list_extend ⟨_, e, rfl⟩ F.entry_list_extend (F.args_list_extend_2 _ _) (meets_extT l its.toArray n b its2.toArray n2 d2 sl2 (by rw [notLongL hsz, Bool.and_false]; exact Bool.false_ne_true) (by rw [List.size_toArray]; omega) (by omega)) ⟨e, e2, ?_⟩
  refine ⟨.non, _, I.lset (its' := its ++ its2) hH e (by simp) (r.append r2) ?_, rfl, q⟩
  rw [List.length_append]
  omega
/-- a list or a tuple walked -/
def iSeq (K : PySem.W.Frag) (tl : TE) : TI := fun σ H R => tl σ H fun x H1 => ∃ a, x = .ref a ∧ (((∃ xs, SqL K H1 a xs) ∧ R (Itl K a) H1) ∨ ((∃ xs, SqT K H1 a xs) ∧ R (Itt K a) H1))
theorem pi_seq {tg l : Expr} {tl : TE} (hl : PE X l tl) : PI X tg l (iSeq X.K tl) := by
  intro pins s σ H R I h
  refine thn (hl pins s σ H _ I h) fun v s1 ⟨x, H1, I1, r1, q1⟩ => ?_
  obtain ⟨a, rfl, q⟩ := q1
  cases r1
  rcases q with ⟨⟨xs, hq⟩, q⟩ | ⟨⟨xs, hq⟩, q⟩
  · obtain ⟨its, rv, p, hz⟩ := I1.list hq
    refine wpAny_pyIter_list p.isList ⟨s1.heap.objs.size, [s1.heap.objs.size], _, _, H1, rfl, I1.kept (t' := s1.toks) fun b o e => Heap.get?_push_of_some _ e, turn_list a _, ⟨_, Heap.get?_push_size _ rfl, rfl, rfl⟩, fun b hb => ?_, q⟩
    rw [List.mem_singleton.mp hb]
    exact I1.fpOk (Nat.le_refl _) (I1.hok.fresh (Nat.le_refl _))
  · obtain ⟨its, rv, p, hz⟩ := I1.tuple hq
    refine wpAny_pyIter_tuple (show s1.heap.IsTuple a its.toArray from p) ⟨s1.heap.objs.size, [s1.heap.objs.size], _, _, H1, rfl, I1.kept (t' := s1.toks) fun b o e => Heap.get?_push_of_some _ e, turn_tuple a _, ⟨_, Heap.get?_push_size _ rfl, rfl, rfl⟩, fun b hb => ?_, q⟩
    rw [List.mem_singleton.mp hb]
    exact I1.fpOk (Nat.le_refl _) (I1.hok.fresh (Nat.le_refl _))
/-- the sum of a list of ints -/
theorem call_sum_ints (hc : X.calm = true) : CallR X (.builtin "sum") (fun xs H Q => ∃ (p : Addr) (ns : List Int), xs = [.ref p] ∧ SqL X.K H p (ns.map V.int) ∧ Q (.int ns.sum) H) := by
  intro pins s σ H xs us Q I r h
  obtain ⟨p, ns, rfl, hq, q⟩ := h
  obtain ⟨u, rfl, rx⟩ := vals1 r
  cases rx
  obtain ⟨its, rv, pl, hz'⟩ := I.list hq
  have ia := intsAre_of rv
  obtain ⟨ps, hx⟩ := ia.allInts.items
  have hl' : s.heap.IsList p (intItems ps) := hx ▸ pl.isList
  refine sum_intListG (I.ok.hd hc) hl' fun g tk t' hk => ?_
  have e1 : ns = ps.toList.map (·.1) := by
    rw [← nums_intItems, ← hx]
    exact (show numsOf its.toArray.toList = ns from ia.numsOf).symm
  have e2 : preSum (numAt ps) ps.size = ns.sum := by
    rw [preSum_eq, List.take_of_length_le (by simp), e1]
  rw [e2]
  exact ⟨.int _, H, I.kept (t' := tk) hk, ⟨t', rfl⟩, q⟩
end

/-! the layer's rules with the text's heap named (for blocks) -/
section
variable {X : Cx} {K : PySem.W.Frag}
theorem ixT (h : X.K = K := by rfl) : IxR X (rIxT K) := h ▸ ix_tup
theorem ixL (h : X.K = K := by rfl) : IxR X (rIxL K) := h ▸ ix_list
theorem lenS (h : X.K = K := by rfl) : CallR X (.builtin "len") (fun xs H Q => ∃ p ys, xs = [.ref p] ∧ (SqL K H p ys ∨ SqT K H p ys) ∧ Q (.int ys.length) H) := h ▸ call_len_seq
theorem inS (h : X.K = K := by rfl) : OpR X (compareOp .In) (rIn K false) := h ▸ op_in_seq
theorem isiK (h : X.K = K := by rfl) : CallR X (.builtin "isinstance") (fun xs H Q => ∃ (x : V) (T C : String) (b : Bool), xs = [x, .ty C] ∧ TyOf K H x (.type T) ∧ kitTy T C = some b ∧ Q (.bl b) H) := h ▸ call_isi
end
/-! ### E. Data: what a value stands for -/
mutual
def Dn (H : Hp) : PyData → V → Prop
  | .none, v => v = .non
  | .bool b, v => v = .bl b
  | .int i, v => v = .int i
  | .str x, v => v = .str x
  | .list ds, v => ∃ a xs, v = .ref a ∧ H a = some (.lst xs) ∧ DnL H ds xs
  | .tuple ds, v => ∃ a xs, v = .ref a ∧ H a = some (.tup xs) ∧ DnL H ds xs
  | .dict kvs, v => kvs = [] ∧ ∃ a, v = .ref a ∧ H a = some (.dK [])
def DnL (H : Hp) : List PyData → List V → Prop
  | [], xs => xs = []
  | d :: ds, xs => ∃ x r, xs = x :: r ∧ Dn H d x ∧ DnL H ds r
end
mutual
theorem Dn.same {H H' : Hp} (h : Same H H') : ∀ (d : PyData) (v : V), Dn H d v → Dn H' d v
  | .none, _, q => q
  | .bool _, _, q => q
  | .int _, _, q => q
  | .str _, _, q => q
  | .list ds, _, ⟨a, xs, e, q, r⟩ => ⟨a, xs, e, h _ _ q, DnL.same h ds xs r⟩
  | .tuple ds, _, ⟨a, xs, e, q, r⟩ => ⟨a, xs, e, h _ _ q, DnL.same h ds xs r⟩
  | .dict _, _, ⟨e, a, q, r⟩ => ⟨e, a, q, h _ _ r⟩
theorem DnL.same {H H' : Hp} (h : Same H H') : ∀ (ds : List PyData) (xs : List V), DnL H ds xs → DnL H' ds xs
  | [], _, q => q
  | d :: ds, _, ⟨x, r, e, q, z⟩ => ⟨x, r, e, Dn.same h d x q, DnL.same h ds r z⟩
end
theorem DnL.length {H : Hp} : ∀ {ds : List PyData} {xs : List V}, DnL H ds xs → ds.length = xs.length
  | [], _, q => by cases (show _ = [] from q); rfl
  | d :: ds, _, ⟨x, r, e, _, z⟩ => by rw [e, List.length_cons, List.length_cons, DnL.length z]
theorem DnL.get {H : Hp} : ∀ {ds : List PyData} {xs : List V} {i : Nat} {x : V}, DnL H ds xs → xs[i]? = some x → ∃ d, ds[i]? = some d ∧ Dn H d x
  | [], _, i, x, q, e => by rw [(show _ = [] from q)] at e; simp at e
  | d :: ds, _, 0, x, ⟨y, r, e, q, z⟩, h => by rw [e] at h; cases h; exact ⟨d, rfl, q⟩
  | d :: ds, _, i + 1, x, ⟨y, r, e, q, z⟩, h => by
    rw [e] at h
    obtain ⟨d', h1, h2⟩ := DnL.get (i := i) z (by simpa using h)
    exact ⟨d', by simpa using h1, h2⟩
theorem DnL.get' {H : Hp} : ∀ {ds : List PyData} {xs : List V} {i : Nat} {d : PyData}, DnL H ds xs → ds[i]? = some d → ∃ x, xs[i]? = some x ∧ Dn H d x
  | [], _, i, x, q, e => by simp at e
  | d :: ds, _, 0, x, ⟨y, r, e, q, z⟩, h => by cases h; exact ⟨y, by rw [e]; rfl, q⟩
  | d :: ds, _, i + 1, x, ⟨y, r, e, q, z⟩, h => by
    obtain ⟨d', h1, h2⟩ := DnL.get' (i := i) z (by simpa using h)
    exact ⟨d', by rw [e]; simpa using h1, h2⟩
theorem DnL.append {H : Hp} : ∀ {ds es : List PyData} {xs ys : List V}, DnL H ds xs → DnL H es ys → DnL H (ds ++ es) (xs ++ ys)
  | [], es, xs, ys, q, r => by rw [(show xs = [] from q)]; exact r
  | d :: ds, es, _, ys, ⟨x, t, e, q, z⟩, r => ⟨x, t ++ ys, by rw [e]; rfl, q, DnL.append z r⟩
end L2

set_option maxRecDepth 100000
set_option maxHeartbeats 4000000
/-! ### F. Woods as data -/
namespace Wd
open PySem L2
def tyN : PyData → String
  | .none => "NoneType" | .bool _ => "bool" | .int _ => "int" | .str _ => "str" | .list _ => "list" | .tuple _ => "tuple" | .dict _ => "dict"
def isW : PyData → Bool
  | .int _ => true
  | _ => false
def isInt : PyData → Bool
  | .int _ => true
  | .bool _ => true
  | _ => false
def isBool : PyData → Bool
  | .bool _ => true
  | _ => false
def isTup : PyData → Bool
  | .tuple _ => true
  | _ => false
def isStr : PyData → Bool
  | .str _ => true
  | _ => false
theorem dn_ty {K : PySem.W.Frag} {H : Hp} : ∀ {d : PyData} {v : V}, Dn H d v → TyOf K H v (.type (tyN d))
  | .none, v, q => by cases (show v = .non from q); exact .non
  | .bool b, v, q => by cases (show v = .bl b from q); exact .bl b
  | .int i, v, q => by cases (show v = .int i from q); exact .int i
  | .str x, v, q => by cases (show v = .str x from q); exact .str x
  | .list ds, _, ⟨a, xs, rfl, q, _⟩ => .lst q
  | .tuple ds, _, ⟨a, xs, rfl, q, _⟩ => .tup q
  | .dict k, _, ⟨_, a, rfl, q⟩ => .dK q
theorem ty_int : ∀ d : PyData, kitTy (tyN d) "int" = some (isInt d)
  | .none => (by decide +kernel : kitTy "NoneType" "int" = some false)
  | .bool _ => (by decide +kernel : kitTy "bool" "int" = some true)
  | .int _ => (by decide +kernel : kitTy "int" "int" = some true)
  | .str _ => (by decide +kernel : kitTy "str" "int" = some false)
  | .list _ => (by decide +kernel : kitTy "list" "int" = some false)
  | .tuple _ => (by decide +kernel : kitTy "tuple" "int" = some false)
  | .dict _ => (by decide +kernel : kitTy "dict" "int" = some false)
theorem ty_bool : ∀ d : PyData, kitTy (tyN d) "bool" = some (isBool d)
  | .none => (by decide +kernel : kitTy "NoneType" "bool" = some false)
  | .bool _ => (by decide +kernel : kitTy "bool" "bool" = some true)
  | .int _ => (by decide +kernel : kitTy "int" "bool" = some false)
  | .str _ => (by decide +kernel : kitTy "str" "bool" = some false)
  | .list _ => (by decide +kernel : kitTy "list" "bool" = some false)
  | .tuple _ => (by decide +kernel : kitTy "tuple" "bool" = some false)
  | .dict _ => (by decide +kernel : kitTy "dict" "bool" = some false)
theorem ty_tup : ∀ d : PyData, kitTy (tyN d) "tuple" = some (isTup d)
  | .none => (by decide +kernel : kitTy "NoneType" "tuple" = some false)
  | .bool _ => (by decide +kernel : kitTy "bool" "tuple" = some false)
  | .int _ => (by decide +kernel : kitTy "int" "tuple" = some false)
  | .str _ => (by decide +kernel : kitTy "str" "tuple" = some false)
  | .list _ => (by decide +kernel : kitTy "list" "tuple" = some false)
  | .tuple _ => (by decide +kernel : kitTy "tuple" "tuple" = some true)
  | .dict _ => (by decide +kernel : kitTy "dict" "tuple" = some false)
theorem ty_str : ∀ d : PyData, kitTy (tyN d) "str" = some (isStr d)
  | .none => (by decide +kernel : kitTy "NoneType" "str" = some false)
  | .bool _ => (by decide +kernel : kitTy "bool" "str" = some false)
  | .int _ => (by decide +kernel : kitTy "int" "str" = some false)
  | .str _ => (by decide +kernel : kitTy "str" "str" = some true)
  | .list _ => (by decide +kernel : kitTy "list" "str" = some false)
  | .tuple _ => (by decide +kernel : kitTy "tuple" "str" = some false)
  | .dict _ => (by decide +kernel : kitTy "dict" "str" = some false)
/-! the program's looks at data, as functions -/
def within (d : PyData) (lo hi : Int) : Bool := match d with
  | .int i => decide (lo ≤ i) && decide (i ≤ hi)
  | _ => false
def tupLen (d : PyData) (n : Int) : Bool := match d with
  | .tuple ds => decide ((ds.length : Int) = n)
  | _ => false
def tupFull (d : PyData) : Bool := match d with
  | .tuple ds => decide (0 < ds.length)
  | _ => false
def rising (many : Int) : List PyData → Int → Bool
  | [], _ => true
  | .int i :: ds, last => decide (last + 1 ≤ i) && decide (i ≤ many - 1) && rising many ds i
  | _ :: _, _ => false
def risK (many : Int) : PyData → PyData → Bool
  | .int up, .tuple ks => rising many ks up
  | _, _ => false
def highK (h : PyData) : PyData → Bool
  | .tuple ks => within h 1 ks.length
  | _ => false
def lowH (l : PyData) : PyData → Bool
  | .int hi => within l 0 hi
  | _ => false
def isBough (many : Int) (d : PyData) : Bool := match d with
  | .tuple [u, l, h, k] => within u 0 (many - 1) && (tupFull k && (risK many u k && (highK h k && lowH l h)))
  | _ => false
def fstD : PyData → PyData
  | .tuple (x :: _) => x
  | _ => .none
def pairOk : PyData → Bool
  | .tuple [_, n] => isW n
  | _ => false
def arePairs (many : Int) (d : PyData) : Bool := match d with
  | .tuple ds => decide (0 < ds.length) && ds.all pairOk && rising many (ds.map fstD) (-1)
  | _ => false
def neI : PyData → PyData → Bool
  | .int i, .int j => !decide (i = j)
  | _, _ => false
def tieK (many : Int) (s : Str) (x y : PyData) : Bool := if s = ("most" : Str) then isW x && arePairs many y else if s = ("needs" : Str) ∨ s = ("bans" : Str) then within x 0 (many - 1) && (within y 0 (many - 1) && neI x y) else false
def tieD (many : Int) (x y : PyData) : PyData → Bool
  | .str s => tieK many s x y
  | _ => false
def isTie (many : Int) (d : PyData) : Bool := match d with
  | .tuple [k, x, y] => tieD many x y k
  | _ => false
def toI : PyData → Int
  | .int i => i
  | _ => 0
def kidsOf : PyData → List Int
  | .tuple [_, _, _, .tuple ks] => ks.map toI
  | _ => []
/-- the boughs are those of a wood -/
structure GoodB (many : Int) (bs : List PyData) : Prop where
  each : ∀ b ∈ bs, isBough many b = true
  kids : (bs.flatMap kidsOf).Perm ((List.range' 0 (many - 1).toNat).map fun i : Nat => (1 : Int) + i)
theorem same_new {H : Hp} {p : Addr} (h : H p = none) (o : HO) : Same H (upd H p o) := same_of fun b u q => by rw [upd_ne (ne_of_none q h)]; exact q
theorem small {n : Nat} (h : n ≤ 1000) : n ≤ sizeLine := Nat.le_of_lt (small1000 h)
theorem dn_int {H : Hp} {i : Int} {v : V} (h : Dn H (.int i) v) : v = .int i := h
theorem dn_tup {H : Hp} {ds : List PyData} {v : V} (h : Dn H (.tuple ds) v) : ∃ a xs, v = .ref a ∧ H a = some (.tup xs) ∧ DnL H ds xs := h
theorem isW_int {d : PyData} (h : isW d = true) : ∃ i, d = .int i := by
  cases d <;> first | exact ⟨_, rfl⟩ | cases h
theorem isTup_tup {d : PyData} (h : isTup d = true) : ∃ ds, d = .tuple ds := by
  cases d <;> first | exact ⟨_, rfl⟩ | cases h
theorem sqT {K : PySem.W.Frag} {H : Hp} {a : Addr} {xs : List V} (h : H a = some (.tup xs)) : SqT K H a xs := .inl (.inl h)
theorem at0 {x : V} {r : List V} : atI (x :: r) 0 = some x := atI_nat (j := 0) rfl
theorem at1 {x y : V} {r : List V} : atI (x :: y :: r) 1 = some y := atI_nat (j := 1) rfl
theorem at2 {x y z : V} {r : List V} : atI (x :: y :: z :: r) 2 = some z := atI_nat (j := 2) rfl
theorem at3 {x y z w : V} {r : List V} : atI (x :: y :: z :: w :: r) 3 = some w := atI_nat (j := 3) rfl
theorem within_int {d : PyData} {lo hi : Int} (h : within d lo hi = true) : ∃ i, d = .int i ∧ lo ≤ i ∧ i ≤ hi := by
  cases d with
  | int i =>
    have z : (decide (lo ≤ i) && decide (i ≤ hi)) = true := h
    simp only [Bool.and_eq_true, decide_eq_true_eq] at z
    exact ⟨i, rfl, z.1, z.2⟩
  | _ => cases h
theorem tupFull_tup {d : PyData} (h : tupFull d = true) : ∃ ds, d = .tuple ds ∧ 0 < ds.length := by
  cases d with
  | tuple ds => exact ⟨ds, rfl, of_decide_eq_true h⟩
  | _ => cases h
theorem tupLen_tup {d : PyData} {n : Nat} (h : tupLen d n = true) : ∃ ds, d = .tuple ds ∧ ds.length = n := by
  cases d with
  | tuple ds =>
    have z : ((ds.length : Int) = (n : Int)) := of_decide_eq_true h
    exact ⟨ds, rfl, by omega⟩
  | _ => cases h
theorem rising_ints {many : Int} : ∀ {ks : List PyData} {last : Int}, rising many ks last = true → ks = (ks.map toI).map PyData.int
  | [], _, _ => rfl
  | .int i :: ks, last, h => by
    have z : (decide (last + 1 ≤ i) && decide (i ≤ many - 1) && rising many ks i) = true := h
    rw [Bool.and_eq_true] at z
    show PyData.int i :: ks = PyData.int i :: (ks.map toI).map PyData.int
    rw [← rising_ints z.2]
  | .none :: _, _, h => by cases h
  | .bool _ :: _, _, h => by cases h
  | .str _ :: _, _, h => by cases h
  | .list _ :: _, _, h => by cases h
  | .tuple _ :: _, _, h => by cases h
  | .dict _ :: _, _, h => by cases h
theorem dnl_ints {H : Hp} : ∀ {ns : List Int} {xs : List V}, DnL H (ns.map PyData.int) xs → xs = ns.map V.int
  | [], xs, h => h
  | n :: r, _, ⟨x, t, rfl, hx, ht⟩ => by rw [dnl_ints ht, dn_int hx]; rfl
theorem ints_dnl {H : Hp} : ∀ (ns : List Int), DnL H (ns.map PyData.int) (ns.map V.int)
  | [] => rfl
  | n :: r => ⟨_, _, rfl, rfl, ints_dnl r⟩
theorem range_sorted (lo : Int) : ∀ (n k : Nat), (((List.range' k n).map fun i : Nat => lo + (i : Int))).Pairwise (· ≤ ·)
  | 0, _ => List.Pairwise.nil
  | n + 1, k => by
    rw [List.range'_succ, List.map_cons]
    refine List.Pairwise.cons (fun b hb => ?_) (range_sorted lo n (k + 1))
    obtain ⟨i, hi, rfl⟩ := List.mem_map.mp hb
    have := (List.mem_range'_1.mp hi).1
    omega
end Wd

set_option maxRecDepth 100000
set_option maxHeartbeats 4000000
namespace Ow
open PySem L2 Wd
-- woods
/-! ### the program's looks -/
def spWhole : Sp := fun vs H Q _ => ∃ (d : PyData) (v : V), vs = [v] ∧ Dn H d v ∧ Q (.bl (isW d)) H
def spWithin : Sp := fun vs H Q _ => ∃ (d : PyData) (v : V) (lo hi : Int), vs = [v, .int lo, .int hi] ∧ Dn H d v ∧ Q (.bl (within d lo hi)) H
def spOption : Sp := fun vs H Q _ => ∃ (d : PyData) (v : V) (many : Int), vs = [.int many, v] ∧ Dn H d v ∧ Q (.bl (within d 0 (many - 1))) H
def spTupLen : Sp := fun vs H Q _ => ∃ (d : PyData) (v : V) (n : Int), vs = [v, .int n] ∧ Dn H d v ∧ Q (.bl (tupLen d n)) H
def spFull : Sp := fun vs H Q _ => ∃ (d : PyData) (v : V), vs = [v] ∧ Dn H d v ∧ Q (.bl (tupFull d)) H
def spRising (K : PySem.W.Frag) : Sp := fun vs H Q _ => ∃ (many floor : Int) (a : Addr) (b : Bool) (ds : List PyData) (xs : List V), vs = [.int many, .ref a, .int floor] ∧ Sq K b H a xs ∧ DnL H ds xs ∧ Q (.bl (rising many ds floor)) H
def spBough : Sp := fun vs H Q _ => ∃ (d : PyData) (v : V) (many : Int), vs = [.int many, v] ∧ Dn H d v ∧ Q (.bl (isBough many d)) H
def lenOk : PyData → Prop
  | .tuple ds => ds.length ≤ 1000
  | _ => True
def thirdOk : PyData → Prop
  | .tuple (_ :: _ :: y :: _) => lenOk y
  | _ => True
def spPairs : Sp := fun vs H Q _ => ∃ (d : PyData) (v : V) (many : Int), vs = [.int many, v] ∧ Dn H d v ∧ lenOk d ∧ ∀ H', Same H H' → Q (.bl (arePairs many d)) H'
def spTie : Sp := fun vs H Q _ => ∃ (d : PyData) (v : V) (many : Int), vs = [.int many, v] ∧ Dn H d v ∧ thirdOk d ∧ ∀ H', Same H H' → Q (.bl (isTie many d)) H'
def nextR (many : Int) (d : PyData) (r : List PyData) : Bool := match d with
  | .int j => rising many r j
  | _ => false
theorem rising_at {many last : Int} {ds : List PyData} {i : Nat} {d : PyData} (h : ds[i]? = some d) : rising many (ds.drop i) last = (within d (last + 1) (many - 1) && nextR many d (ds.drop (i + 1))) := by
  obtain ⟨hi, e⟩ := List.getElem?_eq_some_iff.mp h
  rw [List.drop_eq_getElem_cons hi, e]
  cases d <;> rfl
def rPv (many floor : Int) (p : Addr) (ds : List PyData) (H : Hp) (i : Nat) (σ : St) (H2 : Hp) : Prop :=
  (∃ (last : Int) (v : Option V), σ = [some (.int many), some (.ref p), some (.int floor), some (.int last), v] ∧ rising many (ds.drop i) last = rising many ds floor) ∧ H2 = H
-- woods2
theorem four {ds : List PyData} (h : ds.length = 4) : ∃ u l h k, ds = [u, l, h, k] := by
  match ds, h with
  | [u, l, h, k], _ => exact ⟨u, l, h, k, rfl⟩
theorem three {ds : List PyData} (h : ds.length = 3) : ∃ u l h, ds = [u, l, h] := by
  match ds, h with
  | [u, l, h], _ => exact ⟨u, l, h, rfl⟩
theorem two {ds : List PyData} (h : ds.length = 2) : ∃ u l, ds = [u, l] := by
  match ds, h with
  | [u, l], _ => exact ⟨u, l, rfl⟩
theorem noBough {many : Int} {d : PyData} (h : tupLen d 4 = false) : isBough many d = false := by
  cases d with
  | tuple ds =>
    match ds with
    | [u, l, h', k] => cases h
    | [] => rfl
    | [_] => rfl
    | [_, _] => rfl
    | [_, _, _] => rfl
    | _ :: _ :: _ :: _ :: _ :: _ => rfl
  | _ => rfl
theorem noTie {many : Int} {d : PyData} (h : tupLen d 3 = false) : isTie many d = false := by
  cases d with
  | tuple ds =>
    match ds with
    | [u, l, h'] => cases h
    | [] => rfl
    | [_] => rfl
    | [_, _] => rfl
    | _ :: _ :: _ :: _ :: _ => rfl
  | _ => rfl
theorem noPair {d : PyData} (h : tupLen d 2 = false) : pairOk d = false := by
  cases d with
  | tuple ds =>
    match ds with
    | [u, l] => cases h
    | [] => rfl
    | [_] => rfl
    | _ :: _ :: _ :: _ => rfl
  | _ => rfl
theorem take_all {α : Type} {f : α → Bool} {ds : List α} {i : Nat} {d : α} (h : ds[i]? = some d) (ha : (ds.take i).all f = true) (hd : f d = true) : (ds.take (i + 1)).all f = true := by
  obtain ⟨hi, e⟩ := List.getElem?_eq_some_iff.mp h
  rw [List.take_succ_eq_append_getElem hi, List.all_append, ha, e]
  simp [hd]
theorem all_not {α : Type} {f : α → Bool} {ds : List α} {i : Nat} {d : α} (h : ds[i]? = some d) (hd : f d = false) : ds.all f = false := by
  rw [Bool.eq_false_iff]
  intro z
  rw [List.all_eq_true] at z
  rw [z d (List.mem_of_getElem? h)] at hd
  cases hd
-- woods3a
/-- what wood_of, check_boughs and check_cross_ties do with what tells a wood -/
def tiesOk (many : Int) (cs : List PyData) : Prop := ∀ c ∈ cs, isTie many c = true ∧ thirdOk c
def spCheckB : Sp := fun vs H Q _ => ∃ (many : Int) (p : Addr) (xs : List V) (bs : List PyData), vs = [.int many, .ref p] ∧ H p = some (.tup xs) ∧ DnL H bs xs ∧ GoodB many bs ∧ 1 ≤ many ∧ many ≤ 9 ∧ bs.length ≤ 9 ∧ ∀ H', Same H H' → Q .non H'
def spCheckC : Sp := fun vs H Q _ => ∃ (many : Int) (p : Addr) (xs : List V) (cs : List PyData), vs = [.int many, .ref p] ∧ H p = some (.tup xs) ∧ DnL H cs xs ∧ tiesOk many cs ∧ cs.length ≤ 8 ∧ ∀ H', Same H H' → Q .non H'
def spWood : Sp := fun vs H Q _ => ∃ (many : Int) (p r : Addr) (xs ys : List V) (bs cs : List PyData), vs = [.int many, .ref p, .ref r] ∧ H p = some (.lst xs) ∧ H r = some (.lst ys) ∧ DnL H bs xs ∧ DnL H cs ys ∧ GoodB many bs ∧ 1 ≤ many ∧ many ≤ 9 ∧ bs.length ≤ 9 ∧ tiesOk many cs ∧ cs.length ≤ 8 ∧
  ∀ (wd tb tc : Addr) (H' : Hp), Same H H' → H' wd = some (.tup [.int many, .ref tb, .ref tc]) → H' tb = some (.tup xs) → H' tc = some (.tup ys) → Q (.ref wd) H'
/-- a wood in the heap -/
structure WoodAt (H : Hp) (wd : Addr) (many : Int) (xs ys : List V) : Prop where
  ex : ∃ tb tc, H wd = some (.tup [.int many, .ref tb, .ref tc]) ∧ H tb = some (.tup xs) ∧ H tc = some (.tup ys)
def spMany : Sp := fun vs H Q _ => ∃ (wd : Addr) (many : Int) (xs ys : List V), vs = [.ref wd] ∧ WoodAt H wd many xs ys ∧ Q (.int ((xs.length : Int) + (ys.length : Int))) H
def spTieAt : Sp := fun vs H Q _ => ∃ (wd : Addr) (many : Int) (xs ys : List V) (t : Nat) (v : V), vs = [.ref wd, .int t] ∧ WoodAt H wd many xs ys ∧ (xs ++ ys)[t]? = some v ∧ Q v H
theorem dec_strs (s t : Str) : decide (V.str s = V.str t) = decide (s = t) := by
  by_cases h : s = t
  · subst h
    simp
  · rw [decide_eq_false h, decide_eq_false (fun z => h (by injection z))]
theorem bough_kids {H : Hp} {many : Int} {b : PyData} {v : V} (hb : isBough many b = true) (hd : Dn H b v) : ∃ p xu xl xh pk, v = .ref p ∧ H p = some (.tup [xu, xl, xh, .ref pk]) ∧ H pk = some (.tup ((kidsOf b).map V.int)) := by
  cases b with
  | tuple ds =>
    match ds, hb, hd with
    | [u, l, h, k], hb, hd =>
      obtain ⟨p, xs, rfl, hp, xu, r1, rfl, hu, xl, r2, rfl, hlo, xh, r3, rfl, hh, xk, r4, rfl, hk, hnil⟩ := dn_tup hd
      cases (show r4 = [] from hnil)
      have z : (within u 0 (many - 1) && (tupFull k && (risK many u k && (highK h k && lowH l h)))) = true := hb
      simp only [Bool.and_eq_true] at z
      obtain ⟨z1, z2, z3, _, _⟩ := z
      obtain ⟨up, rfl, _, _⟩ := within_int z1
      obtain ⟨ks, rfl, _⟩ := tupFull_tup z2
      obtain ⟨pk, ys, rfl, hpk, hks⟩ := dn_tup hk
      have e := rising_ints (show rising many ks up = true from z3)
      rw [e] at hks
      rw [dnl_ints hks] at hpk
      exact ⟨p, xu, xl, xh, pk, rfl, hp, hpk⟩
  | _ => cases hb
theorem kids_few {many : Int} {bs : List PyData} (G : GoodB many bs) (h9 : many ≤ 9) (i : Nat) : ((bs.take i).flatMap kidsOf).length ≤ 8 := by
  have e := G.kids.length_eq
  rw [List.length_map, List.length_range'] at e
  have s : ((bs.take i).flatMap kidsOf).length ≤ (bs.flatMap kidsOf).length := by
    have e2 : bs.flatMap kidsOf = (bs.take i).flatMap kidsOf ++ (bs.drop i).flatMap kidsOf := by
      rw [← List.flatMap_append, List.take_append_drop]
    rw [e2, List.length_append]
    omega
  omega
theorem flatMap_take {α β : Type} {f : α → List β} {ds : List α} {i : Nat} {d : α} (h : ds[i]? = some d) : (ds.take (i + 1)).flatMap f = (ds.take i).flatMap f ++ f d := by
  obtain ⟨hi, e⟩ := List.getElem?_eq_some_iff.mp h
  rw [List.take_succ_eq_append_getElem hi, List.flatMap_append, e]
  simp
-- woods3t
-- laws
/-! ### the statement's own helpers -/
def spCell (K : PySem.W.Frag) : Sp := fun vs H Q _ => ∃ (a : Addr) (ns : List Int) (k : Int), vs = [.ref a, .int k] ∧ SqL K H a (ns.map V.int) ∧ ns.length ≤ 63 ∧ 0 ≤ k ∧ k < 1000 ∧ ∀ c : Int, 0 ≤ c → c < 2147483629 → Q (.int c) H
def spMany9 (K : PySem.W.Frag) : Sp := fun vs H Q _ => ∃ (a : Addr) (ns : List Int), vs = [.ref a] ∧ SqL K H a (ns.map V.int) ∧ ns.length ≤ 63 ∧ ∀ m : Int, 1 ≤ m → m ≤ 9 → Q (.int m) H
/-- data of tuples, texts and ints alone, so deep at most -/
def flatD : Nat → PyData → Bool
  | _, .int _ => true
  | _, .str s => PyData.strOk s
  | n + 1, .tuple ds => decide (ds.length ≤ 1000) && ds.all (flatD n)
  | _, _ => false
def spTieMade : Sp := fun vs H Q _ => ∃ cell many : Int, vs = [.int cell, .int many] ∧ 0 ≤ cell ∧ cell < 2147483629 ∧ 1 ≤ many ∧ many ≤ 9 ∧ ∀ (d : PyData) (v : V) (H' : Hp), Same H H' → Dn H' d v → isTie many d = true → thirdOk d → flatD 3 d = true → Q v H'
def spCross (K : PySem.W.Frag) : Sp := fun vs H Q _ => ∃ (a : Addr) (ns : List Int) (many : Int), vs = [.ref a, .int many] ∧ SqL K H a (ns.map V.int) ∧ ns.length ≤ 63 ∧ 1 ≤ many ∧ many ≤ 9 ∧
  ∀ (l : Addr) (cs : List PyData) (xs : List V) (H' : Hp), Same H H' → H' l = some (.lst xs) → H l = none → DnL H' cs xs → tiesOk many cs → cs.length ≤ 8 → cs.all (flatD 3) = true → Q (.ref l) H'
/-! a tie made -/
theorem mod_near {many one x : Int} (h1 : 1 < many) (h9 : many ≤ 9) (o0 : 0 ≤ one) (o1 : one < many) (x0 : 0 ≤ x) (x1 : x < many - 1) : 0 ≤ (one + 1 + x) % many ∧ (one + 1 + x) % many < many ∧ one ≠ (one + 1 + x) % many := by
  have e : many = 2 ∨ many = 3 ∨ many = 4 ∨ many = 5 ∨ many = 6 ∨ many = 7 ∨ many = 8 ∨ many = 9 := by omega
  rcases e with rfl | rfl | rfl | rfl | rfl | rfl | rfl | rfl <;> omega
theorem some_bit : ∀ m : _root_.Fin 10, ∀ s : _root_.Fin 512, 0 < s.val → s.val < 2 ^ m.val → ∃ k : _root_.Fin 9, k.val < m.val ∧ s.val / 2 ^ k.val % 2 = 1 := by decide +kernel
theorem strOk_most : PyData.strOk ("most" : Str) = true := by decide +kernel
theorem strOk_needs : PyData.strOk ("needs" : Str) = true := by decide +kernel
theorem strOk_bans : PyData.strOk ("bans" : Str) = true := by decide +kernel
theorem pow_le {m : Nat} (h : m ≤ 9) : 2 ^ m ≤ 512 := Nat.pow_le_pow_right (by decide) h
/-- the pairs of a most tie so far: options below i, rising -/
structure PairsTo (H : Hp) (i : Nat) (ps : List PyData) (xs : List V) : Prop where
  dn : DnL H ps xs
  ok : ps.all pairOk = true
  flat : ps.all (flatD 1) = true
  ris : rising (i : Int) (ps.map fstD) (-1) = true
  few : ps.length ≤ i
theorem rising_mono {m m' : Int} (h : m ≤ m') : ∀ {ks : List PyData} {u : Int}, rising m ks u = true → rising m' ks u = true
  | [], _, _ => rfl
  | .int i :: ks, u, z => by
    have z' : (decide (u + 1 ≤ i) && decide (i ≤ m - 1) && rising m ks i) = true := z
    show (decide (u + 1 ≤ i) && decide (i ≤ m' - 1) && rising m' ks i) = true
    simp only [Bool.and_eq_true, decide_eq_true_eq] at z' ⊢
    exact ⟨⟨z'.1.1, by omega⟩, rising_mono h z'.2⟩
  | .none :: _, _, z => by cases z
  | .bool _ :: _, _, z => by cases z
  | .str _ :: _, _, z => by cases z
  | .list _ :: _, _, z => by cases z
  | .tuple _ :: _, _, z => by cases z
  | .dict _ :: _, _, z => by cases z
theorem rising_snoc {m j : Int} (h : j < m) : ∀ {ks : List PyData} {u : Int}, rising j ks u = true → u < j → rising m (ks ++ [.int j]) u = true
  | [], u, _, hu => by
    show (decide (u + 1 ≤ j) && decide (j ≤ m - 1) && true) = true
    rw [decide_eq_true (by omega), decide_eq_true (by omega)]
    rfl
  | .int i :: ks, u, z, hu => by
    have z' : (decide (u + 1 ≤ i) && decide (i ≤ j - 1) && rising j ks i) = true := z
    show (decide (u + 1 ≤ i) && decide (i ≤ m - 1) && rising m (ks ++ [.int j]) i) = true
    simp only [Bool.and_eq_true, decide_eq_true_eq] at z' ⊢
    exact ⟨⟨z'.1.1, by omega⟩, rising_snoc h z'.2 (by omega)⟩
  | .none :: _, _, z, _ => by cases z
  | .bool _ :: _, _, z, _ => by cases z
  | .str _ :: _, _, z, _ => by cases z
  | .list _ :: _, _, z, _ => by cases z
  | .tuple _ :: _, _, z, _ => by cases z
  | .dict _ :: _, _, z, _ => by cases z
theorem bit_eq (n : Int) (k : Nat) : Builtin.bitAnd (n / 2 ^ k) 1 = n / 2 ^ k % 2 := PySem.W.kbt_mask (n / 2 ^ k) 1
theorem DnL.keepT {H H' : Hp} {f : PyData → Bool} (k : ∀ d v, f d = true → Dn H d v → Dn H' d v) : ∀ (ds : List PyData) (xs : List V), ds.all f = true → DnL H ds xs → DnL H' ds xs
  | [], _, _, q => q
  | d :: ds, _, c, ⟨x, r, e, q, z⟩ => by
    rw [List.all_cons, Bool.and_eq_true] at c
    exact ⟨x, r, e, k d x c.1 q, DnL.keepT k ds r c.2 z⟩
theorem Dn.keepT {H H' : Hp} (h : ∀ b xs, H b = some (.tup xs) → H' b = some (.tup xs)) : ∀ (n : Nat) (d : PyData) (v : V), flatD n d = true → Dn H d v → Dn H' d v
  | _, .int _, _, _, q => q
  | _, .str _, _, _, q => q
  | n + 1, .tuple ds, _, c, ⟨p, xs, e, q, z⟩ => ⟨p, xs, e, h _ _ q, DnL.keepT (Dn.keepT h n) ds xs ((Bool.and_eq_true _ _).mp c).2 z⟩
  | 0, .tuple ds, _, c, _ => by cases c
  | 0, .none, _, c, _ => by cases c
  | n + 1, .none, _, c, _ => by cases c
  | 0, .bool _, _, c, _ => by cases c
  | n + 1, .bool _, _, c, _ => by cases c
  | 0, .list _, _, c, _ => by cases c
  | n + 1, .list _, _, c, _ => by cases c
  | 0, .dict _, _, c, _ => by cases c
  | n + 1, .dict _, _, c, _ => by cases c
theorem keep_lst {H : Hp} {p : Addr} {xs ys : List V} (h : H p = some (.lst xs)) : ∀ b zs, H b = some (.tup zs) → upd H p (.lst ys) b = some (.tup zs) := fun b zs q => by
  rw [upd_ne (ne_of q h (by intro z; cases z))]
  exact q
-- boughs
/-! ### the boughs made -/
structure Grp where
  t : Addr
  up : Int
  l : Addr
  kids : List Int
/-- the groups stand at g; H0 is the heap at the entry -/
structure GAt (H0 H : Hp) (g : Addr) (gs : List Grp) : Prop where
  at_ : H g = some (.lst (gs.map fun x => V.ref x.t))
  new : H0 g = none
  tup : ∀ x ∈ gs, H x.t = some (.tup [.int x.up, .ref x.l])
  lst : ∀ x ∈ gs, H x.l = some (.lst (x.kids.map V.int)) ∧ H0 x.l = none ∧ g ≠ x.l
  nd : (gs.map (·.l)).Nodup
/-- what holds of the groups when the options below k are dealt out -/
structure GOk (k : Int) (gs : List Grp) : Prop where
  each : ∀ x ∈ gs, 0 ≤ x.up ∧ x.kids ≠ [] ∧ rising k (x.kids.map PyData.int) x.up = true
  perm : (gs.flatMap (·.kids)).Perm ((List.range' 0 (k - 1).toNat).map fun i : Nat => (1 : Int) + i)
theorem GOk.few {k : Int} {gs : List Grp} (G : GOk k gs) : gs.length ≤ (k - 1).toNat := by
  have e := G.perm.length_eq
  rw [List.length_map, List.length_range'] at e
  rw [← e]
  have go : ∀ l : List Grp, (∀ x ∈ l, x.kids ≠ []) → l.length ≤ (l.flatMap (·.kids)).length := by
    intro l
    induction l with
    | nil => intro _; exact Nat.le_refl _
    | cons x r ih =>
      intro h
      rw [List.flatMap_cons, List.length_append, List.length_cons]
      have h1 := List.length_pos_iff.mpr (h x List.mem_cons_self)
      have h2 := ih fun y hy => h y (List.mem_cons_of_mem _ hy)
      omega
  exact go gs fun x hx => (G.each x hx).2.1
theorem range_snoc (k : Nat) : ((List.range' 0 k).map fun i : Nat => (1 : Int) + i) ++ [((k : Int) + 1)] = (List.range' 0 (k + 1)).map fun i : Nat => (1 : Int) + i := by
  rw [List.range'_concat, List.map_append]
  simp
  omega
theorem GOk.new {k : Nat} {gs : List Grp} {t l : Addr} {u : Int} (G : GOk ((k : Int) + 1) gs) (u0 : 0 ≤ u) (u1 : u < (k : Int) + 1) : GOk ((k : Int) + 2) (gs ++ [⟨t, u, l, [(k : Int) + 1]⟩]) where
  each := fun x hx => by
    rcases List.mem_append.mp hx with z | z
    · obtain ⟨a, b, c⟩ := G.each x z
      exact ⟨a, b, rising_mono (by omega) c⟩
    · rw [List.mem_singleton.mp z]
      refine ⟨u0, by simp, ?_⟩
      show (decide (u + 1 ≤ (k : Int) + 1) && decide ((k : Int) + 1 ≤ (k : Int) + 2 - 1) && true) = true
      rw [decide_eq_true (by omega), decide_eq_true (by omega)]
      rfl
  perm := by
    rw [List.flatMap_append]
    have e : ((k : Int) + 2 - 1).toNat = k + 1 := by omega
    have e' : ((k : Int) + 1 - 1).toNat = k := by omega
    have p := G.perm
    rw [e'] at p
    rw [e, ← range_snoc]
    exact p.append (by simp)
theorem GOk.put {k : Nat} {pre post : List Grp} {x : Grp} (G : GOk ((k : Int) + 1) (pre ++ x :: post)) : GOk ((k : Int) + 2) (pre ++ ⟨x.t, x.up, x.l, x.kids ++ [(k : Int) + 1]⟩ :: post) where
  each := fun y hy => by
    have old : ∀ z ∈ pre ++ x :: post, 0 ≤ z.up ∧ z.kids ≠ [] ∧ rising ((k : Int) + 2) (z.kids.map PyData.int) z.up = true := fun z hz => by
      obtain ⟨a, b, c⟩ := G.each z hz
      exact ⟨a, b, rising_mono (by omega) c⟩
    rcases List.mem_append.mp hy with z | z
    · exact old y (List.mem_append_left _ z)
    · rcases List.mem_cons.mp z with z | z
      · subst z
        obtain ⟨a, b, c⟩ := G.each x (by simp)
        refine ⟨a, by simp, ?_⟩
        show rising ((k : Int) + 2) ((x.kids ++ [(k : Int) + 1]).map PyData.int) x.up = true
        rw [List.map_append]
        refine rising_snoc (by omega) c ?_
        cases hk : x.kids with
        | nil => exact absurd hk b
        | cons n r =>
          rw [hk] at c
          have c' : (decide (x.up + 1 ≤ n) && decide (n ≤ (k : Int) + 1 - 1) && rising ((k : Int) + 1) (r.map PyData.int) n) = true := c
          simp only [Bool.and_eq_true, decide_eq_true_eq] at c'
          omega
      · exact old y (by simp [z])
  perm := by
    have e : ((k : Int) + 2 - 1).toNat = k + 1 := by omega
    have e' : ((k : Int) + 1 - 1).toNat = k := by omega
    have p := G.perm
    rw [e'] at p
    rw [e, ← range_snoc]
    refine List.Perm.trans ?_ (p.append (List.Perm.refl [((k : Int) + 1)]))
    rw [List.flatMap_append, List.flatMap_append, List.flatMap_cons, List.flatMap_cons, List.append_assoc, List.append_assoc, List.append_assoc]
    exact (List.Perm.refl _).append ((List.Perm.refl _).append List.perm_append_comm)
theorem GAt.add {H0 H : Hp} {g l t : Addr} {gs : List Grp} {u k : Int} (G : GAt H0 H g gs) (sm : Same H0 H) (hl : H l = none) (ht : upd H l (.lst [.int k]) t = none) :
    GAt H0 (upd (upd (upd H l (.lst [.int k])) t (.tup [.int u, .ref l])) g (.lst ((gs.map fun x => V.ref x.t) ++ [.ref t]))) g (gs ++ [⟨t, u, l, [k]⟩]) := by
  have ngl : g ≠ l := ne_of_none G.at_ hl
  have s1 := same_new hl (.lst [.int k])
  have s2 := s1.trans (same_new ht (.tup [.int u, .ref l]))
  have ntl : t ≠ l := fun z => by rw [z, upd_same] at ht; cases ht
  have ngt : g ≠ t := ne_of_none (s1 _ _ G.at_) ht
  refine ⟨?_, G.new, fun x hx => ?_, fun x hx => ?_, ?_⟩
  · rw [upd_same, List.map_append]
    rfl
  · rcases List.mem_append.mp hx with z | z
    · rw [upd_ne (ne_of (G.tup x z) G.at_ (by intro q; cases q))]
      exact s2 _ _ (G.tup x z)
    · rw [List.mem_singleton.mp z]
      show upd _ g _ t = _
      rw [upd_ne (Ne.symm ngt), upd_same]
  · rcases List.mem_append.mp hx with z | z
    · obtain ⟨a, b, c⟩ := G.lst x z
      refine ⟨?_, b, c⟩
      rw [upd_ne (Ne.symm c)]
      exact s2 _ _ a
    · rw [List.mem_singleton.mp z]
      refine ⟨?_, sm.free hl, ngl⟩
      show upd _ g _ l = _
      rw [upd_ne (Ne.symm ngl), upd_ne (Ne.symm ntl), upd_same]
      rfl
  · rw [List.map_append]
    refine List.nodup_append.mpr ⟨G.nd, by simp, fun x hx y hy => ?_⟩
    obtain ⟨z, hz, rfl⟩ := List.mem_map.mp hx
    have e : y = l := by simpa using hy
    rw [e]
    exact ne_of_none (G.lst z hz).1 hl
theorem GAt.put {H0 H : Hp} {g : Addr} {pre post : List Grp} {x : Grp} {k : Int} (G : GAt H0 H g (pre ++ x :: post)) : GAt H0 (upd H x.l (.lst (x.kids.map V.int ++ [.int k]))) g (pre ++ ⟨x.t, x.up, x.l, x.kids ++ [k]⟩ :: post) := by
  have hx : x ∈ pre ++ x :: post := by simp
  obtain ⟨a, b, c⟩ := G.lst x hx
  have nd := G.nd
  rw [List.map_append, List.map_cons] at nd
  obtain ⟨_, n2, n3⟩ := List.nodup_append.mp nd
  have oth : ∀ y, y ∈ pre ∨ y ∈ post → y.l ≠ x.l := fun y hy e => by
    rcases hy with hy | hy
    · exact n3 y.l (List.mem_map.mpr ⟨y, hy, rfl⟩) x.l (by simp) e
    · exact (List.nodup_cons.mp n2).1 (by rw [← e]; exact List.mem_map.mpr ⟨y, hy, rfl⟩)
  have mem : ∀ y ∈ pre ++ (⟨x.t, x.up, x.l, x.kids ++ [k]⟩ : Grp) :: post, (y ∈ pre ∨ y ∈ post) ∨ y = ⟨x.t, x.up, x.l, x.kids ++ [k]⟩ := fun y hy => by
    rcases List.mem_append.mp hy with z | z
    · exact .inl (.inl z)
    · rcases List.mem_cons.mp z with z | z
      · exact .inr z
      · exact .inl (.inr z)
  have old : ∀ y, y ∈ pre ∨ y ∈ post → y ∈ pre ++ x :: post := fun y hy => by
    rcases hy with z | z <;> simp [z]
  refine ⟨?_, G.new, fun y hy => ?_, fun y hy => ?_, ?_⟩
  · rw [upd_ne c, G.at_, List.map_append, List.map_append, List.map_cons, List.map_cons]
  · rcases mem y hy with z | rfl
    · rw [upd_ne (ne_of (G.tup y (old y z)) a (by intro q; cases q))]
      exact G.tup y (old y z)
    · show upd H x.l _ x.t = _
      rw [upd_ne (ne_of (G.tup x hx) a (by intro q; cases q))]
      exact G.tup x hx
  · rcases mem y hy with z | rfl
    · obtain ⟨a', b', c'⟩ := G.lst y (old y z)
      refine ⟨?_, b', c'⟩
      rw [upd_ne (oth y z)]
      exact a'
    · refine ⟨?_, b, c⟩
      show upd H x.l _ x.l = _
      rw [upd_same, List.map_append]
      rfl
  · have e : (pre ++ (⟨x.t, x.up, x.l, x.kids ++ [k]⟩ : Grp) :: post).map (·.l) = (pre ++ x :: post).map (·.l) := by
      rw [List.map_append, List.map_append, List.map_cons, List.map_cons]
    rw [e]
    exact G.nd
theorem GAt.same {H0 H H' : Hp} {g : Addr} {gs : List Grp} (G : GAt H0 H g gs) (s : Same H H') : GAt H0 H' g gs :=
  ⟨s _ _ G.at_, G.new, fun x hx => s _ _ (G.tup x hx), fun x hx => ⟨s _ _ (G.lst x hx).1, (G.lst x hx).2⟩, G.nd⟩
/-- the bough of a group -/
def bghD (u lo hi : Int) (kids : List Int) : PyData := .tuple [.int u, .int lo, .int hi, .tuple (kids.map PyData.int)]
theorem bgh_ok {m u lo hi : Int} {kids : List Int} (u0 : 0 ≤ u) (ne : kids ≠ []) (r : rising m (kids.map PyData.int) u = true) (l0 : 0 ≤ lo) (l1 : lo ≤ hi) (h0 : 1 ≤ hi) (h1 : hi ≤ kids.length) : isBough m (bghD u lo hi kids) = true := by
  have u1 : u ≤ m - 1 := by
    cases hk : kids with
    | nil => exact absurd hk ne
    | cons n t =>
      rw [hk] at r
      have c' : (decide (u + 1 ≤ n) && decide (n ≤ m - 1) && rising m (t.map PyData.int) n) = true := r
      simp only [Bool.and_eq_true, decide_eq_true_eq] at c'
      omega
  show (within (.int u) 0 (m - 1) && (tupFull (.tuple (kids.map PyData.int)) && (rising m (kids.map PyData.int) u && (within (.int hi) 1 ((kids.map PyData.int).length : Nat) && within (.int lo) 0 hi)))) = true
  have e1 : within (.int u) 0 (m - 1) = true := by
    show (decide (0 ≤ u) && decide (u ≤ m - 1)) = true
    rw [decide_eq_true u0, decide_eq_true u1]
    rfl
  have e2 : tupFull (.tuple (kids.map PyData.int)) = true := by
    refine decide_eq_true ?_
    rw [List.length_map]
    exact List.length_pos_iff.mpr ne
  have e3 : within (.int hi) 1 ((kids.map PyData.int).length : Nat) = true := by
    show (decide (1 ≤ hi) && decide (hi ≤ ((kids.map PyData.int).length : Nat))) = true
    rw [List.length_map, decide_eq_true h0, decide_eq_true h1]
    rfl
  have e4 : within (.int lo) 0 hi = true := by
    show (decide (0 ≤ lo) && decide (lo ≤ hi)) = true
    rw [decide_eq_true l0, decide_eq_true l1]
    rfl
  rw [e1, e2, r, e3, e4]
  rfl
theorem flat_ints1 (kids : List Int) : (kids.map PyData.int).all (flatD 1) = true := by
  rw [List.all_eq_true]
  intro x hx
  obtain ⟨i, _, rfl⟩ := List.mem_map.mp hx
  rfl
theorem bgh_flat (u lo hi : Int) (kids : List Int) (h : kids.length ≤ 1000) : flatD 3 (bghD u lo hi kids) = true := by
  show (true && (true && (true && (true && ((decide ((kids.map PyData.int).length ≤ 1000) && (kids.map PyData.int).all (flatD 1)) && true))))) = true
  rw [flat_ints1, List.length_map, decide_eq_true h]
  rfl
theorem bgh_kids (u lo hi : Int) (kids : List Int) : kidsOf (bghD u lo hi kids) = kids := by
  show (kids.map PyData.int).map toI = kids
  rw [List.map_map]
  have : (toI ∘ PyData.int) = id := rfl
  rw [this, List.map_id]

theorem cut_rot {α : Type} (f : α → V) (xs : List α) (t : Nat) (h : t ≤ xs.length) : cutV (xs.map f) (some (t : Int)) none ++ cutV (xs.map f) none (some (t : Int)) = (xs.drop t ++ xs.take t).map f := by
  unfold cutV
  rw [HT.sIx_nat, HT.sIx_nat, HT.sIx_none, HT.sIx_none, List.length_map, Nat.min_eq_left h, List.drop_zero, List.map_append, List.map_drop, List.map_take, Nat.sub_zero]
  congr 1
  rw [List.take_of_length_le]
  rw [List.length_drop, List.length_map]
  exact Nat.le_refl _
def spBoughs (K : PySem.W.Frag) : Sp := fun vs H Q _ => ∃ (p : Addr) (ns : List Int) (many : Int), vs = [.ref p, .int many] ∧ SqL K H p (ns.map V.int) ∧ ns.length ≤ 63 ∧ 1 ≤ many ∧ many ≤ 9 ∧
  ∀ (l : Addr) (bs : List PyData) (xs : List V) (H' : Hp), Same H H' → H' l = some (.lst xs) → H l = none → DnL H' bs xs → GoodB many bs → bs.length ≤ 8 → bs.all (flatD 3) = true → Q (.ref l) H'
theorem mem_at {α β : Type} {f : α → β} {l : List α} {j : Nat} (h : j < l.length) : ∃ x ∈ l, (l.map f)[j]? = some (f x) := ⟨l[j], List.getElem_mem h, by rw [List.getElem?_map, List.getElem?_eq_getElem h]; rfl⟩
end Ow

/-! ### Ties and sets: the mathematics -/
namespace Wd
inductive Tie where
  | bough (u : Nat) (lo hi : Int) (ks : List Nat)
  | needs (a b : Nat)
  | bans (a b : Nat)
  | most (top : Int) (ps : List (Nat × Int))
def cnt (ks : List Nat) (s : Nat) : Nat := (ks.filter fun k => s.testBit k).length
def sumP (ps : List (Nat × Int)) (f : Nat × Int → Bool) : Int := ((ps.filter f).map (·.2)).sum
def Tie.keep : Tie → Nat → Bool
  | .bough u lo hi ks, s => if s.testBit u = true then decide (lo ≤ (cnt ks s : Int)) && decide ((cnt ks s : Int) ≤ hi) else decide (cnt ks s = 0)
  | .needs a b, s => !s.testBit a || s.testBit b
  | .bans a b, s => !s.testBit a || !s.testBit b
  | .most top ps, s => decide (sumP ps (fun p => s.testBit p.1) ≤ top)
structure Tie.BoughOkW (m u : Nat) (lo hi : Int) (ks : List Nat) : Prop where
  um : u < m
  ks0 : ks ≠ []
  up : ∀ k ∈ ks, u < k ∧ k < m
  ris : ks.Pairwise (· < ·)
  few : ks.length ≤ m
  lo0 : 0 ≤ lo
  lohi : lo ≤ hi
structure Tie.BoughOk (m u : Nat) (lo hi : Int) (ks : List Nat) : Prop extends Tie.BoughOkW m u lo hi ks where
  hi1 : 1 ≤ hi
  hik : hi ≤ ks.length
theorem Tie.BoughOkW.nd {m u : Nat} {lo hi : Int} {ks : List Nat} (h : Tie.BoughOkW m u lo hi ks) : ks.Nodup := h.ris.imp fun a => Nat.ne_of_lt a
def Tie.Ok (m : Nat) : Tie → Prop
  | .bough u lo hi ks => Tie.BoughOkW m u lo hi ks
  | .needs a b => a < m ∧ b < m ∧ a ≠ b
  | .bans a b => a < m ∧ b < m ∧ a ≠ b
  | .most _ ps => ps ≠ [] ∧ (∀ p ∈ ps, p.1 < m) ∧ (ps.map (·.1)).Pairwise (· < ·) ∧ ps.length ≤ m
def leastSum (ps : List (Nat × Int)) (y n : Nat) : Int := sumP ps fun p => y.testBit p.1 || (decide (p.2 < 0) && !n.testBit p.1)
def greatSum (ps : List (Nat × Int)) (y n : Nat) : Int := sumP ps fun p => y.testBit p.1 || (decide (0 < p.2) && !n.testBit p.1)
def Tie.sb : Tie → Nat → Nat → Bool
  | .needs a b, y, n => y.testBit a && n.testBit b
  | .bans a b, y, n => y.testBit a && y.testBit b
  | .most top ps, y, n => decide (top < leastSum ps y n)
  | .bough u lo hi ks, y, n => !(!n.testBit u && (decide ((cnt ks y : Int) ≤ hi) && decide (lo ≤ (ks.length : Int) - cnt ks n))) && !(!y.testBit u && decide (cnt ks y = 0))
def Tie.sk : Tie → Nat → Nat → Bool
  | .needs a b, y, n => n.testBit a || y.testBit b
  | .bans a b, y, n => n.testBit a || n.testBit b
  | .most top ps, y, n => decide (greatSum ps y n ≤ top)
  | .bough u lo hi ks, y, n => (n.testBit u || (decide (lo ≤ (cnt ks y : Int)) && decide ((ks.length : Int) - cnt ks n ≤ hi))) && (y.testBit u || decide ((ks.length : Int) - cnt ks n = 0))
theorem keep_up {u : Nat} {lo hi : Int} {ks : List Nat} {s : Nat} (h : s.testBit u = true) : (Tie.bough u lo hi ks).keep s = (decide (lo ≤ (cnt ks s : Int)) && decide ((cnt ks s : Int) ≤ hi)) := by
  simp only [Tie.keep, h, if_true]
theorem keep_no {u : Nat} {lo hi : Int} {ks : List Nat} {s : Nat} (h : ¬ s.testBit u = true) : (Tie.bough u lo hi ks).keep s = decide (cnt ks s = 0) := by
  simp only [Tie.keep, if_neg h]
theorem sumP_cons (p : Nat × Int) (r : List (Nat × Int)) (f : Nat × Int → Bool) : sumP (p :: r) f = (if f p = true then p.2 else 0) + sumP r f := by
  unfold sumP
  by_cases h : f p = true
  · rw [List.filter_cons_of_pos h, if_pos h]; simp
  · rw [List.filter_cons_of_neg h, if_neg h]; simp
end Wd

set_option maxRecDepth 100000
set_option maxHeartbeats 4000000
/-! ### H. Ties as data -/
namespace Wd
open PySem L2
def pairD (p : Nat × Int) : PyData := .tuple [.int (p.1 : Int), .int p.2]
def Tie.toD : Tie → PyData
  | .bough u lo hi ks => .tuple [.int (u : Int), .int lo, .int hi, .tuple (ks.map fun k : Nat => PyData.int (k : Int))]
  | .needs a b => .tuple [.str ("needs" : Str), .int (a : Int), .int (b : Int)]
  | .bans a b => .tuple [.str ("bans" : Str), .int (a : Int), .int (b : Int)]
  | .most top ps => .tuple [.str ("most" : Str), .int top, .tuple (ps.map pairD)]
theorem rising_nats {m : Nat} : ∀ {ks : List PyData} {last : Int}, -1 ≤ last → last < m → rising m ks last = true →
    ∃ ns : List Nat, ks = ns.map (fun k : Nat => PyData.int (k : Int)) ∧ ns.Pairwise (· < ·) ∧ (∀ k ∈ ns, last < (k : Int) ∧ k < m) ∧ (ns.length : Int) + last + 1 ≤ m
  | [], last, h0, h1, _ => ⟨[], rfl, List.Pairwise.nil, (fun _ z => nomatch z), by simp; omega⟩
  | .int i :: ks, last, h0, h1, h => by
    have z : (decide (last + 1 ≤ i) && decide (i ≤ (m : Int) - 1) && rising m ks i) = true := h
    simp only [Bool.and_eq_true, decide_eq_true_eq] at z
    obtain ⟨ns, e, pw, ab, ln⟩ := rising_nats (by omega) (by omega) z.2
    obtain ⟨j, rfl⟩ : ∃ j : Nat, i = (j : Int) := ⟨i.toNat, by omega⟩
    refine ⟨j :: ns, by rw [e]; rfl, List.Pairwise.cons (fun k hk => ?_) pw, fun k hk => ?_, ?_⟩
    · have := (ab k hk).1; omega
    · rcases List.mem_cons.mp hk with rfl | hk
      · omega
      · have := ab k hk; omega
    · rw [List.length_cons]; omega
  | .none :: _, _, _, _, h => by cases h
  | .bool _ :: _, _, _, _, h => by cases h
  | .str _ :: _, _, _, _, h => by cases h
  | .list _ :: _, _, _, _, h => by cases h
  | .tuple _ :: _, _, _, _, h => by cases h
  | .dict _ :: _, _, _, _, h => by cases h
theorem tie_of_bough {m : Nat} {d : PyData} (h : isBough m d = true) : ∃ u lo hi ks, d = (Tie.bough u lo hi ks).toD ∧ Tie.BoughOk m u lo hi ks := by
  unfold isBough at h
  split at h
  next u l hd k =>
    simp only [Bool.and_eq_true] at h
    obtain ⟨hu, hk, hr, hh, hl⟩ := h
    obtain ⟨ui, rfl, u0, u1⟩ := within_int hu
    obtain ⟨kd, rfl, k0⟩ := tupFull_tup hk
    obtain ⟨hi, rfl, h0, h1⟩ := within_int (show within hd 1 kd.length = true from hh)
    obtain ⟨lo, rfl, l0, l1⟩ := within_int (show within l 0 hi = true from hl)
    obtain ⟨un, rfl⟩ : ∃ j : Nat, ui = (j : Int) := ⟨ui.toNat, by omega⟩
    obtain ⟨ns, rfl, pw, ab, ln⟩ := rising_nats (by omega) (by omega) (show rising m kd un = true from hr)
    rw [List.length_map] at k0 h1
    exact ⟨un, lo, hi, ns, rfl, ⟨⟨by omega, fun z => by rw [z] at k0; simp at k0, fun k hk => by have := ab k hk; omega, pw, by omega, l0, l1⟩, h0, h1⟩⟩
  next => cases h
theorem pairs_nats {m : Nat} : ∀ {ds : List PyData} {ns : List Nat}, ds.all pairOk = true → ds.map fstD = ns.map (fun k : Nat => PyData.int (k : Int)) → ∃ ps : List (Nat × Int), ds = ps.map pairD ∧ ps.map (·.1) = ns
  | [], [], _, _ => ⟨[], rfl, rfl⟩
  | [], _ :: _, _, e => by cases e
  | _ :: _, [], _, e => by cases e
  | d :: ds, n :: ns, h, e => by
    rw [List.all_cons, Bool.and_eq_true] at h
    rw [List.map_cons, List.map_cons] at e
    injection e with e1 e2
    obtain ⟨ps, rfl, rfl⟩ := pairs_nats (m := m) h.2 e2
    have h1 := h.1
    unfold pairOk at h1
    split at h1
    next x y =>
      obtain ⟨i, rfl⟩ := isW_int h1
      refine ⟨(n, i) :: ps, ?_, rfl⟩
      have e3 : x = PyData.int (n : Int) := e1
      rw [e3]
      rfl
    next => cases h1
theorem tie_of_cross {m : Nat} {d : PyData} (h : isTie m d = true) : ∃ t : Tie, d = t.toD ∧ t.Ok m ∧ ∀ u lo hi ks, t ≠ .bough u lo hi ks := by
  unfold isTie at h
  split at h
  next k x y =>
    unfold tieD at h
    split at h
    next s =>
      unfold tieK at h
      split at h
      next hs =>
        rw [Bool.and_eq_true] at h
        obtain ⟨top, rfl⟩ := isW_int h.1
        have h2 := h.2
        unfold arePairs at h2
        split at h2
        next ds =>
          simp only [Bool.and_eq_true, decide_eq_true_eq] at h2
          obtain ⟨⟨d0, dp⟩, dr⟩ := h2
          obtain ⟨ns, e, pw, ab, ln⟩ := rising_nats (by omega) (by omega) dr
          obtain ⟨ps, rfl, rfl⟩ := pairs_nats (m := m) dp e
          rw [List.length_map] at d0 ln
          refine ⟨.most top ps, by rw [hs]; rfl, ⟨fun z => by rw [z] at d0; simp at d0, fun p hp => (ab p.1 (List.mem_map.mpr ⟨p, hp, rfl⟩)).2, pw, by omega⟩, by intro _ _ _ _ z; cases z⟩
        next => cases h2
      next hs =>
        split at h
        next hn =>
          simp only [Bool.and_eq_true] at h
          obtain ⟨ha, hb, hne⟩ := h
          obtain ⟨a, rfl, a0, a1⟩ := within_int ha
          obtain ⟨b, rfl, b0, b1⟩ := within_int hb
          have ne : ¬ a = b := by
            have z : (!decide (a = b)) = true := hne
            simpa using z
          obtain ⟨an, rfl⟩ : ∃ j : Nat, a = (j : Int) := ⟨a.toNat, by omega⟩
          obtain ⟨bn, rfl⟩ : ∃ j : Nat, b = (j : Int) := ⟨b.toNat, by omega⟩
          rcases hn with rfl | rfl
          · exact ⟨.needs an bn, rfl, ⟨by omega, by omega, by omega⟩, by intro _ _ _ _ z; cases z⟩
          · exact ⟨.bans an bn, rfl, ⟨by omega, by omega, by omega⟩, by intro _ _ _ _ z; cases z⟩
        next => cases h
    next => cases h
  next => cases h
/-! what stands in the heap for a tie -/
theorem natsD (ks : List Nat) : (ks.map fun k : Nat => PyData.int (k : Int)) = (ks.map fun k : Nat => (k : Int)).map PyData.int := by rw [List.map_map]; rfl
theorem natsV (ks : List Nat) : (ks.map fun k : Nat => (k : Int)).map V.int = ks.map fun k : Nat => V.int (k : Int) := by rw [List.map_map]; rfl
theorem at_bough {H : Hp} {u : Nat} {lo hi : Int} {ks : List Nat} {v : V} (h : Dn H (Tie.bough u lo hi ks).toD v) : ∃ p pk, v = .ref p ∧ H p = some (.tup [.int (u : Int), .int lo, .int hi, .ref pk]) ∧ H pk = some (.tup (ks.map fun k : Nat => V.int (k : Int))) := by
  obtain ⟨p, xs, rfl, hp, xu, r1, rfl, hu, xl, r2, rfl, hlo, xh, r3, rfl, hh, xk, r4, rfl, hk, hnil⟩ := dn_tup h
  cases (show r4 = [] from hnil)
  cases dn_int hu
  cases dn_int hlo
  cases dn_int hh
  obtain ⟨pk, ys, rfl, hpk, hks⟩ := dn_tup hk
  rw [natsD] at hks
  rw [dnl_ints hks, natsV] at hpk
  exact ⟨p, pk, rfl, hp, hpk⟩
theorem at_word {H : Hp} {w : Str} {a b : Int} {v : V} (h : Dn H (.tuple [.str w, .int a, .int b]) v) : ∃ p, v = .ref p ∧ H p = some (.tup [.str w, .int a, .int b]) := by
  obtain ⟨p, xs, rfl, hp, xu, r1, rfl, hu, xl, r2, rfl, hlo, xh, r3, rfl, hh, hnil⟩ := dn_tup h
  cases (show r3 = [] from hnil)
  cases (show xu = .str w from hu)
  cases dn_int hlo
  cases dn_int hh
  exact ⟨p, rfl, hp⟩
theorem at_most {H : Hp} {top : Int} {ps : List (Nat × Int)} {v : V} (h : Dn H (Tie.most top ps).toD v) : ∃ p q xs, v = .ref p ∧ H p = some (.tup [.str ("most" : Str), .int top, .ref q]) ∧ H q = some (.tup xs) ∧ DnL H (ps.map pairD) xs := by
  obtain ⟨p, xs, rfl, hp, xu, r1, rfl, hu, xl, r2, rfl, hlo, xh, r3, rfl, hh, hnil⟩ := dn_tup h
  cases (show r3 = [] from hnil)
  cases (show xu = .str ("most" : Str) from hu)
  cases dn_int hlo
  obtain ⟨q, ys, rfl, hq, hks⟩ := dn_tup hh
  exact ⟨p, q, ys, rfl, hp, hq, hks⟩
theorem at_pair {H : Hp} {ps : List (Nat × Int)} {xs : List V} (h : DnL H (ps.map pairD) xs) {i : Nat} {x : V} (hx : xs[i]? = some x) : ∃ p r, ps[i]? = some p ∧ x = .ref r ∧ H r = some (.tup [.int (p.1 : Int), .int p.2]) := by
  obtain ⟨d, hd, hx'⟩ := h.get hx
  rw [List.getElem?_map] at hd
  obtain ⟨p, hp, rfl⟩ := Option.map_eq_some_iff.mp hd
  obtain ⟨r, ys, rfl, hr, xa, r1, rfl, ha, xb, r2, rfl, hb, hnil⟩ := dn_tup (show Dn H (.tuple [.int (p.1 : Int), .int p.2]) x from hx')
  cases (show r2 = [] from hnil)
  cases dn_int ha
  cases dn_int hb
  exact ⟨p, r, hp, rfl, hr⟩
/-! sets as ints -/
def hasV (n k : Int) : Bool := decide (0 ≤ k) && decide (n / 2 ^ k.toNat % 2 = 1)
theorem hasV_nat (s u : Nat) : hasV (s : Int) (u : Int) = s.testBit u := by
  unfold hasV
  rw [decide_eq_true (by omega), Bool.true_and, Nat.testBit_eq_decide_div_mod_eq, Int.toNat_natCast]
  have e : ((s : Int) / 2 ^ u % 2 = 1) ↔ (s / 2 ^ u % 2 = 1) := by
    have e3 : (2 : Int) ^ u = ((2 ^ u : Nat) : Int) := by rw [Int.natCast_pow]; rfl
    rw [e3]
    omega
  by_cases z : s / 2 ^ u % 2 = 1
  · rw [decide_eq_true z, decide_eq_true (e.mpr z)]
  · rw [decide_eq_false z, decide_eq_false (fun y => z (e.mp y))]
theorem bitI (n : Int) (k : Nat) : Builtin.bitAnd (n / 2 ^ k) 1 = n / 2 ^ k % 2 := PySem.W.kbt_mask (n / 2 ^ k) 1
/-- some >> k & 1 -/
theorem shr_bit (s k : Nat) : Builtin.bitAnd ((s : Int) / 2 ^ ((k : Nat) : Int).toNat) 1 = if s.testBit k = true then 1 else 0 := by
  rw [bitI, Int.toNat_natCast, Nat.testBit_eq_decide_div_mod_eq]
  have e3 : (2 : Int) ^ k = ((2 ^ k : Nat) : Int) := by rw [Int.natCast_pow]; rfl
  rw [e3]
  by_cases z : s / 2 ^ k % 2 = 1
  · rw [decide_eq_true z, if_pos rfl]
    omega
  · rw [decide_eq_false z, if_neg (by decide)]
    omega
theorem dec_shr1 (s k : Nat) : decide (V.int (Builtin.bitAnd ((s : Int) / 2 ^ ((k : Nat) : Int).toNat) 1) = V.int 1) = s.testBit k := by
  rw [shr_bit]
  cases s.testBit k <;> rfl
end Wd

set_option maxRecDepth 100000
set_option maxHeartbeats 4000000
namespace L2
open PySem PySem.Spec PyProof.Rows
section
variable {X : Cx} {o e : Expr} {es : List Expr} {to : TE} {t : TA} {name : Str} {apos cpos : Pos} {T id : String} {r : V → List V → Hp → VK → Prop}
/-- methods, with the fragment by its own name -/
theorem pe_bmK {K : PySem.W.Frag} (pa : PlainAttrs T) (slot : Slot T name id) (hty : typeOf (.builtin id) = pure (.type "method_descriptor")) (hm : MtR X id r) (ho : PE X o to) (ha : PA X (e :: es) t) (hK : X.K = K := by rfl)
    (hbase : attributeBase o name X.env (eval o X.env) = eval o X.env := by rfl)
    (hfew : ((backTo cpos (starEach (e :: es) X.env)).all (fun x => !x.1) && (backToKw cpos (keywordEach [] X.env)).all (fun x => x.1.isSome) && decide ((e :: es).length + ([] : List Keyword).length + (if ([] : List Keyword).isEmpty then 0 else 1) < 30)) = true := by rfl)
    (hline : (apos.endLine == cpos.line) = true := by rfl) (hs : starEach (e :: es) X.env = (false, eval e X.env) :: starEach es X.env := by rfl) (hplain : (backTo cpos (starEach es X.env)).any (·.1) = false := by rfl) :
    PE X (.Call (.Attribute o name apos) (e :: es) [] cpos) (tBM K T r to t) := hK ▸ pe_bm pa slot hty hm ho ha hbase hfew hline hs hplain
end
end L2

set_option maxRecDepth 100000
set_option maxHeartbeats 4000000
namespace L2
open PySem PySem.Spec PyProof.Rows
theorem Room.lv {A : Around} {j k : Nat} (hr : Room k A) (h : j ≤ k := by first | decide | omega) : Room j A := hr.mono h
/-- a def of the text: what stands at its name, and how its parameters bind -/
structure Df (K : PySem.W.Frag) (mg : Str → Option Value) (x : Str) (st : Stmt) (f : Addr) (fd : FuncData) (ps : List Str) : Prop extends Fun K x x st f fd where
  g : mg x = some (.ref f)
  B : Binds K fd ps []
theorem pe_callD {X : Cx} {k : Nat} {f : Addr} {fd : FuncData} {ps : List Str} {sp : Sp} {x : Str} {p pos : Pos} {e : Expr} {es : List Expr} {t : TA} {st : Stmt} (F : FnOk X.prog X.w X.K X.mg X.base CX0 k f fd ps sp) (hr : Room k X.A) (hg : Gl X x) (D : Df X.K X.mg x st f fd ps)
    (ha : PA X (e :: es) t) (hdb : (x == ("__debug__" : Str)) = false := by decide) (he : starEach (e :: es) X.env = (false, eval e X.env) :: starEach es X.env := by rfl) (hpl : (backTo pos (starEach es X.env)).any (·.1) = false := by rfl) :
    PE X (.Call (.Name x p) (e :: es) [] pos) (tCall sp [] E0 t) := pe_call F hr hg D.g D.kp D.B .nil pass0 ha hdb he hpl
theorem scm {N P : List Str} {sc : Scope} (a : sc.kind = .function) (b : sc.isCoroutine = false) (c : sc.isGenerator = false) (e : N.take P.length = P) (h : (decide N.Nodup && (decide (∀ x ∈ P, sc.names.lookup x = some .local ∨ sc.names.lookup x = some .cell) && decide (∀ y ∈ sc.names, y.2 ≠ .free))) = true) : FnScope N P sc := by
  rw [Bool.and_eq_true, Bool.and_eq_true] at h
  exact ⟨a, b, c, of_decide_eq_true h.1, e, of_decide_eq_true h.2.1, of_decide_eq_true h.2.2⟩
/-- as it stands in the fragment -/
def Dk (K : PySem.W.Frag) (x : Str) (st : Stmt) (f : Addr) (fd : FuncData) : Prop := PySem.W.nsIn K mainGlobals x = some (some (.ref f)) ∧ Fun K x x st f fd
section
variable {K : PySem.W.Frag} {x q : Str} {st : Stmt} {f C : Addr} {oc : Value} {od an : Option Addr} {osl : Array (Option Value)} {kV doc pm cdv ct : Value}
theorem dk (a : PySem.W.nsIn K mainGlobals x = some (some (.ref f))) (l : K.lookup f = some ⟨oc, od, .func (PySem.W.fnOf x x (defArgs st) (defBody st) (defScope st) .none kV doc pm an cdv ct), osl⟩) (c : PySem.W.codeIn K cdv x = true) (k : PySem.W.keepIn K (.ref f) = true) :
    Dk K x st f (PySem.W.fnOf x x (defArgs st) (defBody st) (defScope st) .none kV doc pm an cdv ct) := ⟨a, fun_mk l c k⟩
/-- how arguments bind, told for any function of this text -/
abbrev Bd (x q : Str) (st : Stmt) (us : List Value) (ps : List Str) : Prop := ∀ (kV doc pm : Value) (an : Option Addr) (cdv ct : Value), bindArgs (PySem.W.fnOf x q (defArgs st) (defBody st) (defScope st) .none kV doc pm an cdv ct) ⟨us, []⟩ = pure (ps.zip us)
theorem Dk.df {h : Heap} {mg : Str → Option Value} {fd : FuncData} {ps : List Str} (X : K.In h) (G : h.Ns mainGlobals mg) (D : Dk K x st f fd) (b : ∀ us, us.length = ps.length → Bd x x st us ps) : Df K mg x st f fd ps :=
  ⟨D.2, PySem.W.mg_of X G D.1, D.2.binds fun kV doc pm an cdv ct us hl => b us hl kV doc pm an cdv ct⟩
theorem bd1 {p : List Str} (h : ∀ a, Bd x q st [a] p) : ∀ us : List Value, us.length = 1 → Bd x q st us p | [a], _ => h a
theorem bd2 {p : List Str} (h : ∀ a b, Bd x q st [a, b] p) : ∀ us : List Value, us.length = 2 → Bd x q st us p | [a, b], _ => h a b
theorem bd3 {p : List Str} (h : ∀ a b c, Bd x q st [a, b, c] p) : ∀ us : List Value, us.length = 3 → Bd x q st us p | [a, b, c], _ => h a b c
theorem law_b {fd : FuncData} {y : Str} (F : Fun K x q st f fd) (h : ∀ v, Bd x q st [v] [y]) (s : Shared) (v : Value) : BindsTo s fd ⟨[v], []⟩ [(y, v)] := by
  obtain ⟨oc, od, kV, doc, pm, an, cdv, ct, osl, rfl, lk, hcd⟩ := F.ex
  exact .of_eq (h v kV doc pm an cdv ct)
end
end L2

set_option maxRecDepth 100000
set_option maxHeartbeats 4000000
namespace L2
open PySem PySem.Spec PyProof.Rows
section
variable {X : Cx}
/-- a tuple of targets, with the text's heap named (for blocks) -/
theorem pgT {K : PySem.W.Frag} {pos : Pos} {es : List Expr} {k : Nat} {t : TGs} {n : Nat} (hc : X.calm = true) (h : PGs X es t) (hn : (assignEach es X.env).length = n := by rfl) (hst : (assignEach es X.env).findIdx? (·.1) = none := by rfl) (hK : X.K = K := by rfl) : PG X (.Tuple es k pos) (gTup K n t) := hK ▸ pg_tup hc h hn hst
/-- range(b) as a value -/
theorem call_rng1 : CallR X (.type "range") (fun xs H Q => ∃ j : Int, xs = [.int j] ∧ ∀ p, H p = none → Q (.ref p) (upd H p (.rng 0 j))) := by
  intro pins s σ H xs us Q I r h
  obtain ⟨j, rfl, q⟩ := h
  obtain ⟨u, rfl, ⟨t, rfl⟩⟩ := vals1 r
  refine call_range_1 ⟨.ref s.heap.objs.size, _, I.laid (fun b o e => Heap.get?_push_of_some _ e) (Nat.le_refl _) (show ObjOk X.prog X.w _ _ _ (.rng 0 j) from ⟨_, _, _, Heap.get?_push_size _ rfl⟩), rfl, q _ (I.hok.fresh (Nat.le_refl _))⟩
end
end L2
namespace Wd
open PySem L2
/-- a tie and a set, told whether the set keeps it -/
def spKeeps : Sp := fun vs H Q _ => ∃ (t : Tie) (m n : Nat) (v : V), vs = [v, .int n] ∧ Dn H t.toD v ∧ t.Ok m ∧ m ≤ 1000 ∧ ∀ H', Same H H' → Q (.bl (t.keep n)) H'
def spLaw (K : PySem.W.Frag) : Sp := fun vs H Q _ => ∃ (p : Addr) (ns : List Int), vs = [.ref p] ∧ SqL K H p (ns.map V.int) ∧ ns.length ≤ 63 ∧ ∀ H', Q (.bl true) H'
theorem dec_cnt0 (k : Nat) : decide (V.int (k : Int) = V.int 0) = decide (k = 0) := by
  rw [dec_int]
  by_cases z : k = 0
  · rw [z]; rfl
  · rw [decide_eq_false z]
    simpa using z
theorem dec_int0 (g : Int) : decide (V.int g = V.int 0) = decide (g = 0) := by
  rw [dec_int]
  by_cases z : g = 0
  · rw [z]; rfl
  · rw [decide_eq_false z]
    simpa using z
/-- a tie and a stand, told a truth -/
def spTie3 (f : Tie → Nat → Nat → Bool) : Sp := fun vs H Q _ => ∃ (t : Tie) (m y n : Nat) (v : V), vs = [v, .int y, .int n] ∧ Dn H t.toD v ∧ t.Ok m ∧ m ≤ 1000 ∧ ∀ H', Same H H' → Q (.bl (f t y n)) H'
def spTie3B (f : Tie → Nat → Nat → Bool) : Sp := fun vs H Q _ => ∃ (u : Nat) (lo hi : Int) (ks : List Nat) (m y n : Nat) (v : V), vs = [v, .int y, .int n] ∧ Dn H (Tie.bough u lo hi ks).toD v ∧ Tie.BoughOkW m u lo hi ks ∧ m ≤ 1000 ∧ ∀ H', Same H H' → Q (.bl (f (Tie.bough u lo hi ks) y n)) H'
/-- pairs and a stand, told a number -/
def spSum (f : List (Nat × Int) → Nat → Nat → Int) : Sp := fun vs H Q _ => ∃ (q : Addr) (xs : List V) (ps : List (Nat × Int)) (y n : Nat), vs = [.ref q, .int y, .int n] ∧ H q = some (.tup xs) ∧ DnL H (ps.map pairD) xs ∧ ps.length ≤ 1000 ∧ ∀ H', Same H H' → Q (.int (f ps y n)) H'
theorem list_ties {P : Tie → Prop} : ∀ {l : List PyData}, (∀ d ∈ l, ∃ t : Tie, d = t.toD ∧ P t) → ∃ ts : List Tie, l = ts.map Tie.toD ∧ ∀ t ∈ ts, P t
  | [], _ => ⟨[], rfl, (fun _ z => nomatch z)⟩
  | d :: r, h => by
    obtain ⟨t, e, p⟩ := h d List.mem_cons_self
    obtain ⟨ts, e2, p2⟩ := list_ties fun x hx => h x (List.mem_cons_of_mem _ hx)
    refine ⟨t :: ts, by rw [e, e2]; rfl, fun x hx => ?_⟩
    rcases List.mem_cons.mp hx with rfl | z
    · exact p
    · exact p2 x z
theorem iteD {c A B : Prop} [Decidable c] (hc : c) (h : A) : if decide c = true then A else B := by
  rw [decide_eq_true hc]
  exact iteT h
theorem iteDN {c A B : Prop} [Decidable c] (hc : ¬ c) (h : B) : if decide c = true then A else B := by
  rw [decide_eq_false hc]
  exact iteF h
theorem vs_ne {x y : Str} (h : ¬ x = y) : ¬ V.str x = V.str y := fun z => by injection z with z; exact h z
theorem bans_needs : ¬ V.str ("bans" : Str) = V.str ("needs" : Str) := vs_ne (by decide +kernel)
theorem most_needs : ¬ V.str ("most" : Str) = V.str ("needs" : Str) := vs_ne (by decide +kernel)
theorem most_bans : ¬ V.str ("most" : Str) = V.str ("bans" : Str) := vs_ne (by decide +kernel)
theorem int_str {i : Int} {x : Str} : ¬ V.int i = V.str x := fun z => by cases z
end Wd

set_option maxRecDepth 100000
set_option maxHeartbeats 4000000
/-! ### I. Woods by their ties -/
namespace Wd
open PySem L2 Ow
structure WoodT (H : Hp) (wd : Addr) (m : Nat) (ts : List Tie) : Prop where
  ex : ∃ xs ys, WoodAt H wd m xs ys ∧ DnL H (ts.map Tie.toD) (xs ++ ys)
  ok : ∀ t ∈ ts, t.Ok m
  few : ts.length ≤ 900
  m9 : m ≤ 900
theorem WoodAt.same {H H' : Hp} {wd : Addr} {m : Int} {xs ys : List V} (s : Same H H') (h : WoodAt H wd m xs ys) : WoodAt H' wd m xs ys := by
  obtain ⟨tb, tc, h1, h2, h3⟩ := h.ex
  exact ⟨tb, tc, s _ _ h1, s _ _ h2, s _ _ h3⟩
theorem WoodT.same {H H' : Hp} {wd : Addr} {m : Nat} {ts : List Tie} (s : Same H H') (h : WoodT H wd m ts) : WoodT H' wd m ts := by
  obtain ⟨xs, ys, h1, h2⟩ := h.ex
  exact ⟨⟨xs, ys, WoodAt.same s h1, DnL.same s _ _ h2⟩, h.ok, h.few, h.m9⟩
def optN : Option Nat → V
  | none => .non
  | some i => .int (i : Int)
def firstB (ts : List Tie) (n : Nat) : Option Nat := ts.findIdx? fun t => !t.keep n
def wareB (ts : List Tie) (n : Nat) : Bool := n.testBit 0 && ts.all fun t => t.keep n
theorem firstB_some {ts : List Tie} {n i : Nat} {t : Tie} (h : ts[i]? = some t) (hk : t.keep n = false) (hp : ∀ j x, j < i → ts[j]? = some x → x.keep n = true) : firstB ts n = some i := by
  unfold firstB
  rw [List.findIdx?_eq_some_iff_getElem]
  obtain ⟨hi, e⟩ := List.getElem?_eq_some_iff.mp h
  refine ⟨hi, by rw [e, hk]; rfl, fun j hj => ?_⟩
  rw [hp j _ hj (List.getElem?_eq_getElem (by omega))]
  simp
theorem firstB_none {ts : List Tie} {n : Nat} (hp : ∀ j x, j < ts.length → ts[j]? = some x → x.keep n = true) : firstB ts n = none := by
  unfold firstB
  rw [List.findIdx?_eq_none_iff]
  intro x hx
  obtain ⟨j, hj, rfl⟩ := List.getElem_of_mem hx
  rw [hp j _ hj (List.getElem?_eq_getElem hj)]
  rfl
theorem wareB_first (ts : List Tie) (n : Nat) : wareB ts n = (n.testBit 0 && decide (firstB ts n = none)) := by
  unfold wareB firstB
  congr 1
  rw [Bool.eq_iff_iff, List.all_eq_true, decide_eq_true_eq, List.findIdx?_eq_none_iff]
  refine ⟨fun h x hx => by rw [h x hx]; rfl, fun h x hx => ?_⟩
  have := h x hx
  simpa using this
theorem optN_non (o : Option Nat) : decide (optN o = V.non) = decide (o = none) := by
  cases o <;> rfl
/-- all numbers of ties -/
def spEvery : Sp := fun vs H Q _ => ∃ (wd : Addr) (m : Nat) (ts : List Tie), vs = [.ref wd] ∧ WoodT H wd m ts ∧ ∀ (l : Addr) (H' : Hp), Same H H' → H l = none → H' l = some (.lst ((List.range ts.length).map fun i : Nat => V.int (i : Int))) → Q (.ref l) H'
def spFirstB : Sp := fun vs H Q _ => ∃ (wd : Addr) (m : Nat) (ts : List Tie) (n : Nat), vs = [.ref wd, .int n] ∧ WoodT H wd m ts ∧ ∀ H', Same H H' → Q (optN (firstB ts n)) H'
def spWareB : Sp := fun vs H Q _ => ∃ (wd : Addr) (m : Nat) (ts : List Tie) (n : Nat), vs = [.ref wd, .int n] ∧ WoodT H wd m ts ∧ ∀ H', Same H H' → Q (.bl (wareB ts n)) H'
theorem range_get {n i : Nat} {x : V} (h : ((List.range n).map fun i : Nat => V.int (i : Int))[i]? = some x) : i < n ∧ x = .int (i : Int) := by
  rw [List.getElem?_map] at h
  obtain ⟨j, hj, rfl⟩ := Option.map_eq_some_iff.mp h
  obtain ⟨hi, e⟩ := List.getElem?_eq_some_iff.mp hj
  rw [List.length_range] at hi
  rw [List.getElem_range] at e
  exact ⟨hi, by rw [e]⟩
end Wd

/-! ### Bits: sums and differences of sets -/
namespace Wd
theorem add_bits : ∀ (k a b : Nat), (∀ j, a.testBit j = true → b.testBit j = false) → (a + b).testBit k = (a.testBit k || b.testBit k)
  | k, a, b, h => by
    have h0 := h 0
    rw [Nat.testBit_zero, Nat.testBit_zero] at h0
    have p : a % 2 + b % 2 ≤ 1 := by
      by_cases z : a % 2 = 1
      · have := h0 (decide_eq_true z)
        have := of_decide_eq_false this
        omega
      · omega
    cases k with
    | zero =>
      rw [Nat.testBit_zero, Nat.testBit_zero, Nat.testBit_zero]
      by_cases z : a % 2 = 1
      · rw [decide_eq_true z, decide_eq_true (by omega), Bool.true_or]
      · rw [decide_eq_false z, Bool.false_or]
        by_cases y : b % 2 = 1
        · rw [decide_eq_true y, decide_eq_true (by omega)]
        · rw [decide_eq_false y, decide_eq_false (by omega)]
    | succ k =>
      rw [Nat.testBit_add_one, Nat.testBit_add_one, Nat.testBit_add_one]
      have e : (a + b) / 2 = a / 2 + b / 2 := by omega
      rw [e]
      refine add_bits k (a / 2) (b / 2) fun j hj => ?_
      have := h (j + 1)
      rw [Nat.testBit_add_one, Nat.testBit_add_one] at this
      exact this hj
theorem add_or {a b : Nat} (h : ∀ j, a.testBit j = true → b.testBit j = false) : a + b = a ||| b :=
  Nat.eq_of_testBit_eq fun k => by rw [add_bits k a b h, Nat.testBit_or]
theorem sub_bits : ∀ (k y a : Nat), (∀ j, a.testBit j = true → y.testBit j = true) → (y - a).testBit k = (y.testBit k && !a.testBit k)
  | k, y, a, h => by
    have le : a ≤ y := by
      have e : a = a &&& y := Nat.eq_of_testBit_eq fun j => by
        rw [Nat.testBit_and]
        cases e : a.testBit j with
        | false => rfl
        | true => rw [h j e]; rfl
      rw [e]
      exact Nat.and_le_right
    have h0 := h 0
    rw [Nat.testBit_zero, Nat.testBit_zero] at h0
    have p : a % 2 ≤ y % 2 := by
      by_cases z : a % 2 = 1
      · have := of_decide_eq_true (h0 (decide_eq_true z))
        omega
      · omega
    cases k with
    | zero =>
      rw [Nat.testBit_zero, Nat.testBit_zero, Nat.testBit_zero]
      by_cases z : a % 2 = 1
      · rw [decide_eq_true z, decide_eq_false (by omega)]; simp
      · rw [decide_eq_false z]
        by_cases x : y % 2 = 1
        · rw [decide_eq_true x, decide_eq_true (by omega)]; rfl
        · rw [decide_eq_false x, decide_eq_false (by omega)]; rfl
    | succ k =>
      rw [Nat.testBit_add_one, Nat.testBit_add_one, Nat.testBit_add_one]
      have e : (y - a) / 2 = y / 2 - a / 2 := by omega
      rw [e]
      refine sub_bits k (y / 2) (a / 2) fun j hj => ?_
      have := h (j + 1)
      rw [Nat.testBit_add_one, Nat.testBit_add_one] at this
      exact this hj
theorem or_as_sum (a b : Nat) : a ||| b = a + (b - (a &&& b)) := by
  have hb : ∀ j, (b - (a &&& b)).testBit j = (b.testBit j && !(a &&& b).testBit j) := fun j => sub_bits j b (a &&& b) fun i hi => by
    rw [Nat.testBit_and, Bool.and_eq_true] at hi
    exact hi.2
  rw [add_or fun j hj => by rw [hb, Nat.testBit_and, hj]; cases b.testBit j <;> rfl]
  refine Nat.eq_of_testBit_eq fun j => ?_
  rw [Nat.testBit_or, Nat.testBit_or, hb, Nat.testBit_and]
  cases a.testBit j <;> cases b.testBit j <;> rfl
/-! stands made finer -/
end Wd

set_option maxRecDepth 100000
set_option maxHeartbeats 4000000
/-! ### J. More forms of loops; bits of ints -/
namespace L2
open PySem
theorem for_range0 {n : Nat} {g : TG} {tb : TS} {D : Ends} {σ : St} {H : Hp} (Pv : Nat → St → Hp → Prop) (h0 : Pv 0 σ H)
    (hs : ∀ i σ H, i < n → Pv i σ H → g (.int (i : Int)) σ H fun σ2 H2 => tb { D with nx := Pv (i + 1), ct := Pv (i + 1), bk := D.nx } σ2 H2) (hd : ∀ σ H, Pv n σ H → D.nx σ H) :
    ∃ W : Nat → Nat → St → Hp → Prop, (∃ m, W 0 m σ H) ∧ ∀ i m σ H, W i m σ H →
      ((Itr 0 n).stop i H ∧ D.nx σ H) ∨ ((Itr 0 n).go i H ∧ ∃ N : St → Hp → Prop, (∀ σ' H', N σ' H' → ∃ m', m' < m ∧ W (i + 1) m' σ' H') ∧ ∀ x H', (Itr 0 n).yld i H x H' → g x σ H' fun σ2 H2 => tb { D with nx := N, ct := N, bk := D.nx } σ2 H2) :=
  for_range (lo := 0) Pv h0 (fun i σ H hi p => by rw [Int.zero_add]; exact hs i σ H hi p) hd
end L2
namespace Wd
open PySem L2 Ow
theorem land_nat (a b : Nat) : Builtin.bitAnd (a : Int) (b : Int) = ((a &&& b : Nat) : Int) := by
  rw [PyProof.Rows.bitAnd_pp (by omega) (by omega), Int.toNat_natCast, Int.toNat_natCast]
theorem lor_nat (a b : Nat) : Builtin.bitOr (a : Int) (b : Int) = ((a ||| b : Nat) : Int) := by
  have le : a &&& b ≤ b := Nat.and_le_right
  rw [PyProof.Rows.bitOr_and, PyProof.Rows.bitAnd_pp (by omega) (by omega), Int.toNat_natCast, Int.toNat_natCast, or_as_sum]
  omega
theorem shl1 (k : Nat) : 1 * (2 : Int) ^ ((k : Nat) : Int).toNat = ((2 ^ k : Nat) : Int) := by
  rw [Int.one_mul, Int.toNat_natCast, Int.natCast_pow]
  rfl
theorem pow_pos2 (k : Nat) : 0 < 2 ^ k := Nat.pow_pos (by decide)
/-- a stand drawn -/
def spStand (K : PySem.W.Frag) : Sp := fun vs H Q _ => ∃ (p : Addr) (ns : List Int) (m : Nat) (k : Int), vs = [.ref p, .int m, .int k] ∧ SqL K H p (ns.map V.int) ∧ ns.length ≤ 63 ∧ m ≤ 9 ∧ 0 ≤ k ∧ k < 900 ∧
  ∀ (l : Addr) (y n : Nat) (H' : Hp), Same H H' → H' l = some (.tup [.int y, .int n]) → (∀ j, y.testBit j = true → n.testBit j = false) → y < 2 ^ m → n < 2 ^ m → Q (.ref l) H'
end Wd

set_option maxRecDepth 100000
set_option maxHeartbeats 4000000
/-! ### K. Ranges with a step -/
namespace L2
open PySem PySem.Spec PyProof.Rows
section
variable {X : Cx} {tg : Expr}
end
end L2
namespace Wd
open PySem L2
end Wd

set_option maxRecDepth 100000
set_option maxHeartbeats 4000000
/-! ### L. A pen that turns: a list of the script and a place -/
namespace Wd
open PySem L2 Ow
/-- all but the object at one address stays -/
def KpX (pen : Addr) (H H' : Hp) (b : Addr) : HO → Prop
  | .tbl _ => (∃ ps, H' b = some (.tbl ps)) ∧ (TabOk H b → (∃ ys, H pen = some (.lst ys)) → TabOk H' b ∧ ∃ ys, H' pen = some (.lst ys))
  | o => H' b = some o
/-- all but the pen is as it was; tables of code may have grown -/
def SameX (pen : Addr) (H H' : Hp) : Prop := ∀ b o, b ≠ pen → H b = some o → KpX pen H H' b o
theorem SameX.refl (pen : Addr) (H : Hp) : SameX pen H H := fun _ o _ h => by
  cases o
  case tbl ps => exact ⟨⟨_, h⟩, fun a b => ⟨a, b⟩⟩
  all_goals exact h
theorem SameX.trans {pen : Addr} {H H1 H2 : Hp} (a : SameX pen H H1) (b : SameX pen H1 H2) : SameX pen H H2 := fun c o n h => by
  have z := a c o n h
  cases o
  case tbl ps =>
    obtain ⟨⟨qs, hq⟩, k⟩ := z
    obtain ⟨q2, k2⟩ := b c _ n hq
    exact ⟨q2, fun t y => k2 (k t y).1 (k t y).2⟩
  all_goals exact b c _ n z
theorem Same.x {pen : Addr} {H H' : Hp} (s : Same H H') : SameX pen H H' := fun b o _ h => by
  have z := s b o h
  cases o
  case tbl ps => exact ⟨z.1, fun t ⟨ys, y⟩ => ⟨z.2 t, ys, s pen _ y⟩⟩
  all_goals exact z
theorem sameX_pen {pen : Addr} {H : Hp} (o : HO) (ho : ∃ ys, o = .lst ys := by exact ⟨_, rfl⟩) : SameX pen H (upd H pen o) := fun b u n h => by
  cases u
  case tbl ps =>
    refine ⟨⟨ps, by rw [upd_ne n]; exact h⟩, ?_⟩
    rintro ⟨qs, hq, tr, hp⟩ ⟨ys, hy⟩
    obtain ⟨zs, rfl⟩ := ho
    refine ⟨⟨qs, by rw [upd_ne n]; exact hq, tr, fun pos => ?_⟩, ⟨zs, upd_same⟩⟩
    rcases hp pos with z | ⟨c, z1, z2⟩
    · exact .inl z
    · refine .inr ⟨c, z1, ?_⟩
      rw [upd_ne fun z => by rw [z, hy] at z2; cases z2]
      exact z2
  all_goals (show upd H pen o b = _; rw [upd_ne n]; exact h)
/-- a list that is new is written -/
theorem Same.put {H H1 : Hp} {p : Addr} {xs : List V} {o : HO} (s : Same H H1) (n : H p = none) (e : H1 p = some (.lst xs)) : Same H (upd H1 p o) := fun b u hb => by
  have ne : b ≠ p := ne_of_none hb n
  have z := s b u hb
  cases u
  case tbl ps =>
    refine ⟨⟨z.1.choose, by rw [upd_ne ne]; exact z.1.choose_spec⟩, fun t => ?_⟩
    obtain ⟨qs, hq, tr, hp⟩ := z.2 t
    refine ⟨qs, by rw [upd_ne ne]; exact hq, tr, fun pos => ?_⟩
    rcases hp pos with y | ⟨c, y1, y2⟩
    · exact .inl y
    · refine .inr ⟨c, y1, ?_⟩
      rw [upd_ne fun z => by rw [z, e] at y2; cases y2]
      exact y2
  all_goals (show upd H1 p o b = _; rw [upd_ne ne]; exact z)
theorem DnL.drop {H : Hp} : ∀ {ds : List PyData} {xs : List V} (t : Nat), DnL H ds xs → DnL H (ds.drop t) (xs.drop t)
  | _, _, 0, h => h
  | [], xs, t + 1, h => by rw [(show xs = [] from h)]; exact rfl
  | d :: ds, _, t + 1, ⟨x, r, e, q, z⟩ => by rw [e]; exact DnL.drop t z
theorem DnL.take {H : Hp} : ∀ {ds : List PyData} {xs : List V} (t : Nat), DnL H ds xs → DnL H (ds.take t) (xs.take t)
  | _, _, 0, h => by rw [List.take_zero, List.take_zero]; exact rfl
  | [], xs, t + 1, h => by rw [(show xs = [] from h)]; exact rfl
  | d :: ds, _, t + 1, ⟨x, r, e, q, z⟩ => by rw [e]; exact ⟨x, _, rfl, q, DnL.take t z⟩
end Wd

/-! ### Trees of cases and first sets: the mathematics -/
namespace Wd
/-! first sets -/
/-! trees of cases -/
end Wd

set_option maxRecDepth 100000
set_option maxHeartbeats 4000000
/-! ### M. Tuples joined, woods by named ties, trees as data -/
namespace L2
open PySem PySem.Spec PyProof.Rows
section
variable {X : Cx}
end
end L2
namespace Wd
open PySem L2 Ow
abbrev natsL (l : List Nat) : List V := l.map fun k : Nat => V.int (k : Int)
def spWithO : Sp := fun vs H Q _ => ∃ n k : Nat, vs = [.int n, .int k] ∧ k ≤ 1000 ∧ Q (.int ((n ||| 2 ^ k : Nat) : Int)) H
end Wd

set_option maxRecDepth 100000
set_option maxHeartbeats 4000000
/-! ### N. min of a list, a list against [] -/
namespace L2
open PySem PySem.Spec PyProof.Rows
section
variable {X : Cx}
end
end L2
namespace Wd
open PySem L2 Ow
end Wd

set_option maxRecDepth 100000
set_option maxHeartbeats 4000000
/-! ### Comprehensions with cells of their own: an inner one reads their names -/
namespace L2
open PySem PySem.Spec PyProof.Rows
section
variable {X : Cx} {tg iter elt : Expr} {cs : List Expr} {sc sc0 : Scope} {pos : Pos} {wi : TI} {g : TG} {tc : TT} {te : TE} {XN N' : List Str} {n : Nat} {kp : List Nat}

theorem piL {K : PySem.W.Frag} {l : Expr} {tl : TE} (hl : PE X l tl) (h : X.K = K := by rfl) : PI X tg l (iList K tl) := h ▸ pi_list hl
theorem piT {K : PySem.W.Frag} {l : Expr} {tl : TE} (hl : PE X l tl) (h : X.K = K := by rfl) : PI X tg l (iTup K tl) := h ▸ pi_tup hl
end
end L2

set_option maxRecDepth 100000
set_option maxHeartbeats 4000000
/-! ### O. What each tie's sets are, told in lists; bars -/
namespace Wd
open PySem L2 Ow
end Wd

set_option maxRecDepth 100000
set_option maxHeartbeats 4000000
/-! ### P. Ties left out; ties broken in every set of a stand, told by lists; trees of cases told so -/
namespace Wd
open PySem L2 Ow
theorem inV_nats (k : Nat) (op : List Nat) : inV (.int (k : Int)) (natsL op) = decide (k ∈ op) := by
  induction op with
  | nil => rfl
  | cons a r ih =>
    have e : inV (.int (k : Int)) (natsL (a :: r)) = (eqV (.int (a : Int)) (.int (k : Int)) || inV (.int (k : Int)) (natsL r)) := rfl
    rw [e, ih]
    have e2 : eqV (.int (a : Int)) (.int (k : Int)) = decide (k = a) := by
      show ((a : Int) == (k : Int)) = _
      by_cases z : k = a
      · subst z; simp
      · rw [decide_eq_false z]
        simpa using fun h => z (by omega)
    rw [e2]
    simp [List.mem_cons, Bool.decide_or]
theorem flat_nats (op : List Nat) : (natsL op).all flatV = true := by
  rw [List.all_eq_true]
  intro x hx
  obtain ⟨i, _, rfl⟩ := List.mem_map.mp hx
  rfl
end Wd

set_option maxRecDepth 100000
set_option maxHeartbeats 4000000
namespace L2
open PySem PySem.Spec PyProof.Rows

/-! ### lambdas -/
section
variable {X : Cx} {params : Arguments} {body : Expr} {scope : Scope} {pos : Pos} {c P : Addr}
end
/-! ### a call with a base that holds all that is untracked now -/
section
variable {X : Cx} {pins : List (Addr × Obj)} {σ : St} {H : Hp} {s : Shared}
end
section
variable {X : Cx} {k : Nat} {f : Addr} {fd : FuncData} {ps : List Str} {x : Str} {p pos : Pos} {e : Expr} {es : List Expr} {t : TA}
end

/-! ### a lambda keeps its promise -/
/-! ### a def that makes lambdas: its code object is known -/
/-! ### the head of a law that comes to lambdas: the tables of their defs are tracked -/
end L2

set_option maxRecDepth 100000
set_option maxHeartbeats 4000000
namespace Wd
open PySem L2 Ow
/-! ### trees told with leaves of a function -/
section
variable {ts : List Tie} {il : List Nat} {m f y n : Nat} {leaf : Nat → Nat → Option PyData}
end
end Wd

set_option maxRecDepth 100000
set_option maxHeartbeats 4000000
namespace L2
open PySem PySem.Spec PyProof.Rows

/-! ### zip of two tuples -/
section
variable {prog : Program} {w : World} {A : Around} {E : Value → Shared → Prop} {s : Shared}
end
/-- some records have turned, a pair is laid -/
theorem Inv.turnedL {X : Cx} {pins : List (Addr × Obj)} {σ : St} {H : Hp} {s : Shared} {h' : Heap} {t' : Nat} {ch : List Addr} {T : Addr} {v v2 : V} {u u2 : Value} (I : Inv X pins σ H s) (fc : ∀ c ∈ ch, FpOk X pins H c) (hT : s.heap.objs.size ≤ T) (rv : RelV v u) (rv2 : RelV v2 u2)
    (k : ∀ b o, b ∉ ch → s.heap.get? b = some o → h'.get? b = some o) (eT : h'.get? T = some { cls := .type "tuple", data := .seq #[u, u2] }) :
    Inv X pins σ (upd H T (.tup [v, v2])) { s with heap := h', toks := t' } := by
  have nT : H T = none := I.hok.fresh hT
  have ne : ∀ b o, H b = some o → b ∉ ch := fun b o q hb => by rw [(fc b hb).1] at q; cases q
  have un : Un (frs X.stack) ch H (upd H T (.tup [v, v2])) s.heap h' := by
    have lt : ∀ b o, s.heap.get? b = some o → b ≠ T := fun b o q => Nat.ne_of_lt (Nat.lt_of_lt_of_le (Heap.lt_size q) hT)
    exact ⟨fun b o q _ _ hx => k b o hx q, fun b o q _ _ hx => ⟨o.slots, k b o hx q⟩, fun b o q n _ => by rw [upd_ne (lt b o q)]; exact n, fun b o q hx => ⟨o, k b o hx q⟩,
      fun b xs q => by rw [upd_ne (ne_of_none q nT)]; exact q, fun b o xs q => by rw [upd_ne (ne_of_none q nT)]; exact q, fun b ps q => ⟨#[], by rw [upd_ne (ne_of_none q nT), q]; simp⟩⟩
  refine I.call (g' := s.gens) (d' := s.drawn) (ch := ch) un (fun a o q => ?_) I.bare fun b hb => ⟨(fc b hb).2.2.2.1, (fc b hb).2.1, (fc b hb).2.2.2.2.1, (fc b hb).2.2.2.2.2⟩
  by_cases ea : a = T
  · subst ea
    rw [upd_same] at q
    cases q
    exact ⟨Nat.le_of_lt (small1000 (by show 2 ≤ 1000; decide)), [u, u2], .cons rv (.cons rv2 .nil), ⟨_, eT, rfl, _, rfl⟩⟩
  · rw [upd_ne ea] at q
    refine (I.hok a o q).stay (fun b z hb r => k b z ?_ r) (fun b r => by rw [upd_ne (ne_of_none r nT)]; exact r) fun b xs r => by rw [upd_ne (ne_of_none r nT)]; exact r
    rcases hb with rfl | hb
    · exact ne _ _ q
    · exact ne _ _ hb
/-- .. and nothing is laid -/
theorem Inv.turnedE {X : Cx} {pins : List (Addr × Obj)} {σ : St} {H : Hp} {s : Shared} {h' : Heap} {t' : Nat} {ch : List Addr} (I : Inv X pins σ H s) (fc : ∀ c ∈ ch, FpOk X pins H c) (k : ∀ b o, b ∉ ch → s.heap.get? b = some o → h'.get? b = some o) :
    Inv X pins σ H { s with heap := h', toks := t' } := by
  have ne : ∀ b o, H b = some o → b ∉ ch := fun b o q hb => by rw [(fc b hb).1] at q; cases q
  have un : Un (frs X.stack) ch H H s.heap h' := ⟨fun b o q _ _ hx => k b o hx q, fun b o q _ _ hx => ⟨o.slots, k b o hx q⟩, fun b o q n _ => n, fun b o q hx => ⟨o, k b o hx q⟩, fun b xs q => q, fun b o xs q => q, fun b ps q => ⟨#[], by rw [q]; simp⟩⟩
  refine I.call (g' := s.gens) (d' := s.drawn) (ch := ch) un (fun a o q => ?_) I.bare fun b hb => ⟨(fc b hb).2.2.2.1, (fc b hb).2.1, (fc b hb).2.2.2.2.1, (fc b hb).2.2.2.2.2⟩
  refine (I.hok a o q).stay (fun b z hb r => k b z ?_ r) (fun b r => r) fun b xs r => r
  rcases hb with rfl | hb
  · exact ne _ _ q
  · exact ne _ _ hb
theorem zip_apart (n ca cb : Nat) (la : ca < n) (lb : cb < n) : ZipApart (n + 4) (n + 2) (n + 3) n (n + 1) ca cb :=
  have g : ∀ {i j : Nat}, i < j → i ≠ j := fun h => Nat.ne_of_lt h
  have u : ∀ {i j : Nat}, j < i → i ≠ j := fun h => Nat.ne_of_gt h
  ⟨g (by omega), g (by omega), g (by omega), g (by omega), g (by omega), u (by omega), u (by omega), u (by omega), u (by omega), g (by omega), g (by omega), g (by omega), g (by omega), g (by omega), g (by omega), g (by omega), g (by omega), g (by omega)⟩
end L2
namespace Wd
open PySem L2 Ow
end Wd

set_option maxRecDepth 100000
set_option maxHeartbeats 4000000
namespace Wd
open PySem L2 Ow
/-! ### the wares of a wood, in their order -/
end Wd

set_option maxHeartbeats 4000000
namespace Srt
open PySem PyProof PyProof.Rows

def gallopR : Bool → Keyed → Array Keyed → Nat → Nat → Nat → StateT SortSt Sem (Option Nat) := sortPriv% PySem.Builtin.gallop
def mergeLoR : Array Keyed → Array Keyed → StateT SortSt Sem (Array Keyed) := sortPriv% PySem.Builtin.mergeLo
def mergeHiR : Array Keyed → Array Keyed → StateT SortSt Sem (Array Keyed) := sortPriv% PySem.Builtin.mergeHi

def kn (p : Keyed) : Int := numOf p.1
def IntK (p : Keyed) : Prop := ∃ n t, p.1 = .int n t
theorem K_kn {arr : Array Keyed} {i : Nat} {p : Keyed} (h : arr[i]? = some p) : K arr i = kn p := by unfold K; rw [h]; rfl
def gp (left : Bool) (key : Keyed) (arr : Array Keyed) (base i : Nat) : Bool := if left then decide (K arr (base + i) < kn key) else !decide (kn key < K arr (base + i))

section
variable {prog : Program} {w : World} {A : Around} {E : Value → Shared → Prop} {s : Shared}

theorem wpS_lt {st : SortSt} {x y : Keyed} {Q : Option Bool → SortSt → Prop} (hk : kindOf st = oneType') (hx : IntK x) (hy : IntK y) (h : Q (some (decide (kn x < kn y))) st) :
    wpS (model prog w) A E s (lt' x y) Q st := by
  obtain ⟨a, t, e1⟩ := hx
  obtain ⟨b, u, e2⟩ := hy
  obtain ⟨x1, x2⟩ := x
  obtain ⟨y1, y2⟩ := y
  cases e1; cases e2
  rw [lt'_eq]
  refine wpS_bind (wpS_get ?_)
  rw [hk, keyLt'_oneType]
  refine wpS_bind (wpS_lift (wpAny_attempt (oneLt_int ⟨rfl, ?_⟩)))
  exact wpS_pure h

theorem wpS_elem {st : SortSt} {arr : Array Keyed} {i : Nat} {p : Keyed} {Q : Keyed → SortSt → Prop} (hp : arr[i]? = some p) (h : Q p st) : wpS (model prog w) A E s (elem' arr i) Q st := by
  rw [elem'_eq, hp]; exact wpS_pure h

theorem wpS_gallop {st : SortSt} {left : Bool} {key : Keyed} {arr : Array Keyed} {base n hint : Nat} {Q : Option Nat → SortSt → Prop} (hk : kindOf st = oneType') (hkey : IntK key)
    (hall : ∀ i, i < n → ∃ p, arr[base + i]? = some p ∧ IntK p) (hs : ∀ i j, i ≤ j → j < n → K arr (base + i) ≤ K arr (base + j)) (hn : hint < n)
    (h : ∀ k, k ≤ n → (∀ i, i < k → gp left key arr base i = true) → (∀ i, k ≤ i → i < n → gp left key arr base i = false) → Q (some k) st) :
    wpS (model prog w) A E s (gallopR left key arr base n hint) Q st := by
  have hb : ∀ (i : Nat) (R : Option Bool → SortSt → Prop), i < n → R (some (gp left key arr base i)) st →
      wpS (model prog w) A E s (elem' arr (base + i) >>= fun x => if left = true then lt' x key else lt' key x >>= fun b => pure (b.map (!·))) R st := by
    intro i R hi hR
    obtain ⟨p, hp, ip⟩ := hall i hi
    refine wpS_bind (wpS_elem hp ?_)
    unfold gp at hR
    rw [K_kn hp] at hR
    cases left with
    | true => exact wpS_lt hk ip hkey hR
    | false => exact wpS_bind (wpS_lt hk hkey ip (wpS_pure hR))
  have mono : ∀ i j, i ≤ j → j < n → gp left key arr base j = true → gp left key arr base i = true := by
    intro i j hij hj hg
    have := hs i j hij hj
    unfold gp at hg ⊢
    cases left <;> simp at hg ⊢ <;> omega
  have anti : ∀ i j, i ≤ j → j < n → gp left key arr base i = false → gp left key arr base j = false := by
    intro i j hij hj hg
    cases hgj : gp left key arr base j with
    | false => rfl
    | true => rw [mono i j hij hj hgj] at hg; cases hg
  refine wpS_bind (hb hint _ hn ?_)
  dsimp only
  cases hr : gp left key arr base hint with
  | true =>
    rw [if_pos rfl]
    refine wpS_bind (wpS_mono (wpS_forRange
      (I := fun x c st' => st = st' ∧ ∃ la of, c = (none, la, of) ∧ la < of ∧ hint + la < n ∧ x + 1 ≤ of ∧ gp left key arr base (hint + la) = true)
      (Q := fun c st' => st = st' ∧ ∃ la of, c = (none, la, of) ∧ la < of ∧ hint + la < n ∧ gp left key arr base (hint + la) = true ∧ (of ≥ n - hint ∨ (hint + of < n ∧ gp left key arr base (hint + of) = false)))
      ?_ ?_ ⟨rfl, 0, 1, rfl, by omega, by omega, by omega, hr⟩) ?_)
    · rintro x c st' _ hx ⟨rfl, la, of, rfl, k1, k2, k3, k4⟩
      dsimp only
      by_cases hge : of ≥ n - hint
      · rw [if_pos hge]
        exact wpS_pure ⟨rfl, la, of, rfl, k1, k2, k4, .inl hge⟩
      · rw [if_neg hge]
        refine wpS_bind (hb _ _ (by omega) ?_)
        dsimp only
        cases hm : gp left key arr base (hint + of) with
        | true => exact wpS_pure ⟨rfl, of, 2 * of + 1, rfl, by omega, by omega, by omega, hm⟩
        | false => exact wpS_pure ⟨rfl, la, of, rfl, k1, k2, k4, .inr ⟨by omega, hm⟩⟩
    · rintro c st' ⟨rfl, la, of, rfl, k1, k2, k3, k4⟩
      exact ⟨rfl, la, of, rfl, k1, k2, k4, .inl (by omega)⟩
    · rintro c st' ⟨rfl, la, of, rfl, k1, k2, k4, k5⟩
      dsimp only
      have g1 : hint + la + 1 ≤ hint + min of (n - hint) := by omega
      have g2 : hint + min of (n - hint) ≤ n := by omega
      have g3 : ∀ i, i < hint + la + 1 → gp left key arr base i = true := fun i hi => mono i _ (by omega) k2 k4
      have g4 : ∀ i, hint + min of (n - hint) ≤ i → i < n → gp left key arr base i = false := fun i h1 h2 => by
        rcases k5 with z | ⟨z, hz⟩
        · omega
        · exact anti _ i (by omega) h2 hz
      refine wpS_bind (wpS_mono (wpS_forRange
        (I := fun x c st' => st = st' ∧ ∃ lo hi, c = (none, lo, hi) ∧ lo ≤ hi ∧ hi ≤ n ∧ hi - lo ≤ n - x ∧ (∀ i, i < lo → gp left key arr base i = true) ∧ (∀ i, hi ≤ i → i < n → gp left key arr base i = false))
        (Q := fun c st' => st = st' ∧ ∃ hi, c = (none, hi, hi) ∧ hi ≤ n ∧ (∀ i, i < hi → gp left key arr base i = true) ∧ (∀ i, hi ≤ i → i < n → gp left key arr base i = false))
        ?_ ?_ ⟨rfl, _, _, rfl, g1, g2, by omega, g3, g4⟩) ?_)
      · rintro x c st' _ hx ⟨rfl, lo, hi, rfl, k1, k2, k3, k4, k5⟩
        dsimp only
        by_cases hge : lo ≥ hi
        · rw [if_pos hge]
          have : lo = hi := by omega
          subst this
          exact wpS_pure ⟨rfl, lo, rfl, k2, k4, k5⟩
        · rw [if_neg hge]
          refine wpS_bind (hb _ _ (by omega) ?_)
          dsimp only
          by_cases hm : gp left key arr base (lo + (hi - lo) / 2) = true
          · rw [if_pos hm]
            exact wpS_pure ⟨rfl, _, _, rfl, by omega, k2, by omega, fun i hi' => mono i _ (by omega) (by omega) hm, k5⟩
          · rw [if_neg hm]
            exact wpS_pure ⟨rfl, _, _, rfl, by omega, by omega, by omega, k4, fun i h1 h2 => anti _ i h1 h2 (by simpa using hm)⟩
      · rintro c st' ⟨rfl, lo, hi, rfl, k1, k2, k3, k4, k5⟩
        have : lo = hi := by omega
        subst this
        exact ⟨rfl, lo, rfl, k2, k4, k5⟩
      · rintro c st' ⟨rfl, hi, rfl, k2, k4, k5⟩
        exact wpS_pure (h hi k2 k4 k5)
  | false =>
    rw [if_neg (by decide)]
    refine wpS_bind (wpS_mono (wpS_forRange
      (I := fun x c st' => st = st' ∧ ∃ la of, c = (none, la, of) ∧ la < of ∧ la ≤ hint ∧ x + 1 ≤ of ∧ gp left key arr base (hint - la) = false)
      (Q := fun c st' => st = st' ∧ ∃ la of, c = (none, la, of) ∧ la < of ∧ la ≤ hint ∧ gp left key arr base (hint - la) = false ∧ (of ≥ hint + 1 ∨ (of ≤ hint ∧ gp left key arr base (hint - of) = true)))
      ?_ ?_ ⟨rfl, 0, 1, rfl, by omega, by omega, by omega, hr⟩) ?_)
    · rintro x c st' _ hx ⟨rfl, la, of, rfl, k1, k2, k3, k4⟩
      dsimp only
      by_cases hge : of ≥ hint + 1
      · rw [if_pos hge]
        exact wpS_pure ⟨rfl, la, of, rfl, k1, k2, k4, .inl hge⟩
      · rw [if_neg hge]
        refine wpS_bind (hb _ _ (by omega) ?_)
        dsimp only
        cases hm : gp left key arr base (hint - of) with
        | false => exact wpS_pure ⟨rfl, of, 2 * of + 1, rfl, by omega, by omega, by omega, hm⟩
        | true => exact wpS_pure ⟨rfl, la, of, rfl, k1, k2, k4, .inr ⟨by omega, hm⟩⟩
    · rintro c st' ⟨rfl, la, of, rfl, k1, k2, k3, k4⟩
      exact ⟨rfl, la, of, rfl, k1, k2, k4, .inl (by omega)⟩
    · rintro c st' ⟨rfl, la, of, rfl, k1, k2, k4, k5⟩
      dsimp only
      have g1 : hint + 1 - min of (hint + 1) ≤ hint - la := by omega
      have g2 : hint - la ≤ n := by omega
      have g3 : ∀ i, i < hint + 1 - min of (hint + 1) → gp left key arr base i = true := fun i hi => by
        rcases k5 with z | ⟨z, hz⟩
        · omega
        · exact mono i _ (by omega) (by omega) hz
      have g4 : ∀ i, hint - la ≤ i → i < n → gp left key arr base i = false := fun i h1 h2 => anti _ i h1 h2 k4
      refine wpS_bind (wpS_mono (wpS_forRange
        (I := fun x c st' => st = st' ∧ ∃ lo hi, c = (none, lo, hi) ∧ lo ≤ hi ∧ hi ≤ n ∧ hi - lo ≤ n - x ∧ (∀ i, i < lo → gp left key arr base i = true) ∧ (∀ i, hi ≤ i → i < n → gp left key arr base i = false))
        (Q := fun c st' => st = st' ∧ ∃ hi, c = (none, hi, hi) ∧ hi ≤ n ∧ (∀ i, i < hi → gp left key arr base i = true) ∧ (∀ i, hi ≤ i → i < n → gp left key arr base i = false))
        ?_ ?_ ⟨rfl, _, _, rfl, g1, g2, by omega, g3, g4⟩) ?_)
      · rintro x c st' _ hx ⟨rfl, lo, hi, rfl, k1, k2, k3, k4, k5⟩
        dsimp only
        by_cases hge : lo ≥ hi
        · rw [if_pos hge]
          have : lo = hi := by omega
          subst this
          exact wpS_pure ⟨rfl, lo, rfl, k2, k4, k5⟩
        · rw [if_neg hge]
          refine wpS_bind (hb _ _ (by omega) ?_)
          dsimp only
          by_cases hm : gp left key arr base (lo + (hi - lo) / 2) = true
          · rw [if_pos hm]
            exact wpS_pure ⟨rfl, _, _, rfl, by omega, k2, by omega, fun i hi' => mono i _ (by omega) (by omega) hm, k5⟩
          · rw [if_neg hm]
            exact wpS_pure ⟨rfl, _, _, rfl, by omega, by omega, by omega, k4, fun i h1 h2 => anti _ i h1 h2 (by simpa using hm)⟩
      · rintro c st' ⟨rfl, lo, hi, rfl, k1, k2, k3, k4, k5⟩
        have : lo = hi := by omega
        subst this
        exact ⟨rfl, lo, rfl, k2, k4, k5⟩
      · rintro c st' ⟨rfl, hi, rfl, k2, k4, k5⟩
        exact wpS_pure (h hi k2 k4 k5)
end
end Srt

set_option maxHeartbeats 4000000
namespace Srt
open PySem PyProof PyProof.Rows

def kle (x y : Keyed) : Prop := kn x ≤ kn y
theorem kle_trans {x y z : Keyed} (h : kle x y) (g : kle y z) : kle x z := Int.le_trans h g

structure MI (A B out : List Keyed) (ia ib : Nat) : Prop where
  perm : out.Perm (A.take ia ++ B.take ib)
  srt : out.Pairwise kle
  la : ∀ x ∈ out, ∀ y ∈ A.drop ia, kle x y
  lb : ∀ x ∈ out, ∀ y ∈ B.drop ib, kle x y

def SP (A B R : List Keyed) : Prop := R.Perm (A ++ B) ∧ R.Pairwise kle

theorem MI.swap {A B out : List Keyed} {ia ib : Nat} (m : MI A B out ia ib) : MI B A out ib ia :=
  ⟨m.perm.trans List.perm_append_comm, m.srt, m.lb, m.la⟩

theorem MI.more {A B out : List Keyed} {ia ib : Nat} (hA : A.Pairwise kle) (m : MI A B out ia ib) (k : Nat) (hx : ∀ x ∈ (A.drop ia).take k, ∀ y ∈ B.drop ib, kle x y) :
    MI A B (out ++ (A.drop ia).take k) (ia + k) ib := by
  have hd : (A.drop ia).Pairwise kle := hA.sublist (List.drop_sublist _ _)
  have hs : ((A.drop ia).take k ++ (A.drop ia).drop k).Pairwise kle := by rw [List.take_append_drop]; exact hd
  obtain ⟨p1, p2, p3⟩ := List.pairwise_append.mp hs
  refine ⟨?_, List.pairwise_append.mpr ⟨m.srt, p1, fun x h y g => m.la x h y (List.mem_of_mem_take g)⟩, fun x h y g => ?_, fun x h y g => ?_⟩
  · rw [List.take_add]
    refine (List.Perm.append_right _ m.perm).trans ?_
    rw [List.append_assoc, List.append_assoc]
    exact List.Perm.append_left _ List.perm_append_comm
  · rw [← List.drop_drop] at g
    rcases List.mem_append.mp h with z | z
    · exact m.la x z y (List.mem_of_mem_drop g)
    · exact p3 x z y g
  · rcases List.mem_append.mp h with z | z
    · exact m.lb x z y g
    · exact hx x z y g

theorem MI.fin {A B out : List Keyed} {ia ib : Nat} (m : MI A B out ia ib) (ha : A.length ≤ ia) (hb : B.length ≤ ib) : SP A B out := by
  have := m.perm
  rw [List.take_of_length_le ha, List.take_of_length_le hb] at this
  exact ⟨this, m.srt⟩

theorem MI.done {A B out : List Keyed} {ia ib : Nat} (hA : A.Pairwise kle) (m : MI A B out ia ib) (hb : B.length ≤ ib) : SP A B (out ++ A.drop ia ++ B.drop ib) := by
  have h := m.more hA A.length (fun x _ y g => by rw [List.drop_of_length_le hb] at g; cases g)
  rw [List.take_of_length_le (by rw [List.length_drop]; omega)] at h
  rw [List.drop_of_length_le hb, List.append_nil]
  exact h.fin (by omega) hb

theorem MI.last {A B out : List Keyed} {ia ib : Nat} (hA : A.Pairwise kle) (hB : B.Pairwise kle) (m : MI A B out ia ib) (hx : ∀ x ∈ B.drop ib, ∀ y ∈ A.drop ia, kle x y) :
    SP A B (out ++ B.drop ib ++ A.drop ia) := by
  have h := (m.swap.more hB B.length (fun x g y g2 => hx x (List.mem_of_mem_take g) y g2)).swap
  rw [List.take_of_length_le (by rw [List.length_drop]; omega)] at h
  have := h.done hA (Nat.le_add_left _ _)
  rwa [List.drop_of_length_le (l := B) (Nat.le_add_left _ _), List.append_nil] at this

theorem ext_all {a : Array Keyed} {i : Nat} : (a.extract i a.size).toList = a.toList.drop i := by
  rw [Array.toList_extract, List.extract_eq_drop_take]
  rw [List.take_of_length_le]
  rw [List.length_drop, Array.length_toList]
  exact Nat.le_refl _
theorem ext_k {a : Array Keyed} {i k : Nat} : (a.extract i (i + k)).toList = (a.toList.drop i).take k := by
  rw [Array.toList_extract, List.extract_eq_drop_take, Nat.add_sub_cancel_left]
theorem drop_one {a : Array Keyed} {i : Nat} {p : Keyed} (h : a[i]? = some p) : (a.toList.drop i).take 1 = [p] := by
  have hi : i < a.toList.length := by
    rw [Array.length_toList]; exact (Array.getElem?_eq_some_iff.mp h).1
  have e : a.toList[i] = p := by
    obtain ⟨h1, h2⟩ := Array.getElem?_eq_some_iff.mp h
    rw [← h2]; exact Array.getElem_toList h1
  rw [List.drop_eq_getElem_cons hi, e]; rfl
theorem mem_at {a : Array Keyed} {i : Nat} {p : Keyed} (h : a[i]? = some p) : p ∈ a.toList := by
  obtain ⟨h1, h2⟩ := Array.getElem?_eq_some_iff.mp h
  rw [← h2]; exact Array.getElem_mem_toList h1
theorem MI.one {a b out : Array Keyed} {ia ib : Nat} {p : Keyed} (hA : a.toList.Pairwise kle) (m : MI a.toList b.toList out.toList ia ib) (hp : a[ia]? = some p) (hx : ∀ y ∈ b.toList.drop ib, kle p y) :
    MI a.toList b.toList (out.push p).toList (ia + 1) ib := by
  have := m.more hA 1 (by rw [drop_one hp]; intro x hx' y hy; rw [List.mem_singleton.mp hx']; exact hx y hy)
  rw [drop_one hp] at this
  rwa [Array.toList_push]
theorem MI.blk {a b out : Array Keyed} {ia ib k : Nat} (hA : a.toList.Pairwise kle) (m : MI a.toList b.toList out.toList ia ib) (hx : ∀ x ∈ (a.toList.drop ia).take k, ∀ y ∈ b.toList.drop ib, kle x y) :
    MI a.toList b.toList (out ++ a.extract ia (ia + k)).toList (ia + k) ib := by
  rw [Array.toList_append, ext_k]
  exact m.more hA k hx
theorem MI.doneA {a b out : Array Keyed} {ia ib : Nat} (hA : a.toList.Pairwise kle) (m : MI a.toList b.toList out.toList ia ib) (hb : b.size ≤ ib) :
    SP a.toList b.toList (out ++ a.extract ia a.size ++ b.extract ib b.size).toList := by
  rw [Array.toList_append, Array.toList_append, ext_all, ext_all]
  exact m.done hA hb
theorem MI.doneB {a b out : Array Keyed} {ia ib : Nat} (hB : b.toList.Pairwise kle) (m : MI a.toList b.toList out.toList ia ib) (ha : a.size ≤ ia) :
    SP a.toList b.toList (out ++ a.extract ia a.size ++ b.extract ib b.size).toList := by
  rw [Array.toList_append, Array.toList_append, ext_all, ext_all, List.drop_of_length_le (l := a.toList) (by rw [Array.length_toList]; exact ha), List.append_nil]
  have h := m.swap.done hB (by rw [Array.length_toList]; exact ha)
  rw [List.drop_of_length_le (l := a.toList) (by rw [Array.length_toList]; exact ha), List.append_nil] at h
  exact ⟨h.1.trans List.perm_append_comm, h.2⟩
theorem MI.lastA {a b out : Array Keyed} {ia ib : Nat} (hA : a.toList.Pairwise kle) (hB : b.toList.Pairwise kle) (m : MI a.toList b.toList out.toList ia ib) (hx : ∀ x ∈ b.toList, ∀ y ∈ a.toList.drop ia, kle x y) :
    SP a.toList b.toList (out ++ b.extract ib b.size ++ a.extract ia a.size).toList := by
  rw [Array.toList_append, Array.toList_append, ext_all, ext_all]
  exact m.last hA hB fun x h => hx x (List.mem_of_mem_drop h)
theorem MI.lastE {a b out : Array Keyed} {ia ib : Nat} (hA : a.toList.Pairwise kle) (hB : b.toList.Pairwise kle) (m : MI a.toList b.toList out.toList ia ib) (e : ia + 1 = a.size)
    (hx : ∀ x ∈ b.toList, ∀ y ∈ a.toList.drop (a.size - 1), kle x y) : SP a.toList b.toList (out ++ b.extract ib b.size ++ a.extract ia a.size).toList :=
  m.lastA hA hB (by rw [show ia = a.size - 1 by omega]; exact hx)
section
variable {prog : Program} {w : World} {A : Around} {E : Value → Shared → Prop} {s : Shared}
theorem wpS_ite' {α : Type} {c : Prop} [Decidable c] {t e : StateT SortSt Sem α} {Q : α → SortSt → Prop} {st : SortSt} (h1 : c → wpS (model prog w) A E s t Q st) (h2 : ¬ c → wpS (model prog w) A E s e Q st) :
    wpS (model prog w) A E s (if c then t else e) Q st := by
  by_cases hc : c
  · rw [if_pos hc]; exact h1 hc
  · rw [if_neg hc]; exact h2 hc
abbrev setG (st : SortSt) (g : Nat) : SortSt := SortSt.mk' (kindOf st) (arrOf st) (pendingOf st) g (failedOf st)
theorem kle_at {a b : Array Keyed} {i j : Nat} {p q : Keyed} (hB : b.toList.Pairwise kle) (hq : b[j]? = some q) (h : kle p q) : ∀ y ∈ b.toList.drop j, kle p y := by
  intro y hy
  obtain ⟨h1, h2⟩ := Array.getElem?_eq_some_iff.mp hq
  have hi : j < b.toList.length := by rw [Array.length_toList]; exact h1
  have e : b.toList[j] = q := by rw [← h2]; exact Array.getElem_toList h1
  have hd := hB.sublist (List.drop_sublist j b.toList)
  rw [List.drop_eq_getElem_cons hi, e] at hy hd
  rcases List.mem_cons.mp hy with z | z
  · rw [z]; exact h
  · exact kle_trans h ((List.pairwise_cons.mp hd).1 y z)

theorem K_pw {a : Array Keyed} (hA : a.toList.Pairwise kle) {i j : Nat} (hij : i ≤ j) (hj : j < a.size) : K a i ≤ K a j := by
  have hi : i < a.size := by omega
  rw [K_kn (Array.getElem?_eq_getElem hi), K_kn (Array.getElem?_eq_getElem hj)]
  by_cases e : i = j
  · subst e; exact Int.le_refl _
  · have := List.pairwise_iff_getElem.mp hA i j (by rw [Array.length_toList]; exact hi) (by rw [Array.length_toList]; exact hj) (by omega)
    rw [Array.getElem_toList, Array.getElem_toList] at this
    exact this
theorem mem_drop_at {a : Array Keyed} {i : Nat} {x : Keyed} (h : x ∈ a.toList.drop i) : ∃ j, i ≤ j ∧ j < a.size ∧ a[j]? = some x := by
  obtain ⟨j, hj, e⟩ := List.mem_iff_getElem.mp h
  rw [List.length_drop, Array.length_toList] at hj
  rw [List.getElem_drop, Array.getElem_toList] at e
  exact ⟨i + j, by omega, by omega, by rw [Array.getElem?_eq_getElem (by omega), e]⟩
theorem mem_take_at {a : Array Keyed} {i k : Nat} {x : Keyed} (h : x ∈ (a.toList.drop i).take k) : ∃ j, j < k ∧ i + j < a.size ∧ a[i + j]? = some x := by
  obtain ⟨j, hj, e⟩ := List.mem_iff_getElem.mp h
  rw [List.length_take, List.length_drop, Array.length_toList] at hj
  rw [List.getElem_take, List.getElem_drop, Array.getElem_toList] at e
  exact ⟨j, by omega, by omega, by rw [Array.getElem?_eq_getElem (by omega), e]⟩
theorem gp_false {q : Keyed} {a : Array Keyed} {i j : Nat} {x : Keyed} (h : gp false q a i j = true) (hx : a[i + j]? = some x) : kle x q := by
  unfold gp at h; rw [K_kn hx] at h
  simp at h; exact h
theorem gp_false' {q : Keyed} {a : Array Keyed} {i j : Nat} {x : Keyed} (h : gp false q a i j = false) (hx : a[i + j]? = some x) : kle q x := by
  unfold gp at h; rw [K_kn hx] at h
  simp at h; exact Int.le_of_lt h
theorem gp_true {q : Keyed} {a : Array Keyed} {i j : Nat} {x : Keyed} (h : gp true q a i j = true) (hx : a[i + j]? = some x) : kle x q := by
  unfold gp at h; rw [K_kn hx] at h
  simp at h; exact Int.le_of_lt h
theorem gp_true' {q : Keyed} {a : Array Keyed} {i j : Nat} {x : Keyed} (h : gp true q a i j = false) (hx : a[i + j]? = some x) : kle q x := by
  unfold gp at h; rw [K_kn hx] at h
  simp at h; exact h

structure MV (a b out : Array Keyed) (ia ib : Nat) : Prop where
  m : MI a.toList b.toList out.toList ia ib
  ha : ia + 2 ≤ a.size
  hb : ib < b.size

theorem wpS_mergeLo {st : SortSt} {a b : Array Keyed} {Q : Array Keyed → SortSt → Prop} (hk : kindOf st = oneType') (iA : ∀ x ∈ a.toList, IntK x) (iB : ∀ x ∈ b.toList, IntK x)
    (hA : a.toList.Pairwise kle) (hB : b.toList.Pairwise kle) (na : 0 < a.size) (nb : 0 < b.size)
    (hb0 : ∀ x ∈ b.toList.take 1, ∀ y ∈ a.toList, kle x y) (hla : ∀ x ∈ b.toList, ∀ y ∈ a.toList.drop (a.size - 1), kle x y)
    (h : ∀ r g, SP a.toList b.toList r.toList → Q r (setG st g)) :
    wpS (model prog w) A E s (mergeLoR a b) Q st := by
  refine wpS_bind (wpS_lift (wpAny_rule ⟨rfl, ?_⟩))
  refine wpS_bind (wpS_elem (Array.getElem?_eq_getElem nb) ?_)
  have m0 : MI a.toList b.toList (#[b[0]] : Array Keyed).toList 0 1 := by
    have z : MI b.toList a.toList (#[] : Array Keyed).toList 0 0 := ⟨List.Perm.refl _, List.Pairwise.nil, nofun, nofun⟩
    exact (z.one hB (Array.getElem?_eq_getElem nb) (fun y hy => hb0 _ (by have := drop_one (Array.getElem?_eq_getElem nb); rw [List.drop_zero] at this; rw [this]; exact List.mem_singleton.mpr rfl) y hy)).swap
  have pA : ∀ {i}, i < a.size → ∃ p, a[i]? = some p ∧ IntK p := fun hi => ⟨_, Array.getElem?_eq_getElem hi, iA _ (Array.getElem_mem_toList hi)⟩
  have pB : ∀ {i}, i < b.size → ∃ p, b[i]? = some p ∧ IntK p := fun hi => ⟨_, Array.getElem?_eq_getElem hi, iB _ (Array.getElem_mem_toList hi)⟩
  refine wpS_ite' (fun c1 => wpS_pure (h _ (gallopOf st) (m0.doneA hA (Nat.le_of_eq (beq_iff_eq.mp c1).symm)))) (fun c1 => ?_)
  refine wpS_ite' (fun c2 => wpS_pure (h _ (gallopOf st) (m0.lastE hA hB (beq_iff_eq.mp c2) hla))) (fun c2 => ?_)
  replace c1 : 1 ≠ b.size := fun z => c1 (beq_iff_eq.mpr z)
  replace c2 : 0 + 1 ≠ a.size := fun z => c2 (beq_iff_eq.mpr z)
  refine wpS_bind (wpS_get ?_)
  refine wpS_bind (wpS_mono (wpS_forRange
    (I := fun x c st' => (∃ g, setG st g = st') ∧ ∃ out ia ib mg, c = (none, out, ia, ib, mg) ∧ MV a b out ia ib ∧ x + 1 ≤ ia + ib)
    (Q := fun c st' => (∃ g, setG st g = st') ∧ ∃ r rest, c = (some r, rest) ∧ SP a.toList b.toList r.toList)
    ?_ ?_ ⟨⟨gallopOf st, rfl⟩, _, 0, 1, _, rfl, ⟨m0, by omega, by omega⟩, by omega⟩) ?_)
  · rintro x0 c st' _ hx0 ⟨⟨g, rfl⟩, out, ia, ib, mg, rfl, v, hx⟩
    refine wpS_bind (wpS_mono (wpS_forRange
      (I := fun x c st' => setG st g = st' ∧ ∃ out ia ib ac bc, c = (none, out, ia, ib, ac, bc) ∧ MV a b out ia ib ∧ x0 + 1 + x ≤ ia + ib)
      (Q := fun c st' => setG st g = st' ∧ ((∃ r rest, c = (some r, rest) ∧ SP a.toList b.toList r.toList) ∨ ∃ out ia ib ac bc, c = (none, out, ia, ib, ac, bc) ∧ MV a b out ia ib ∧ x0 + 2 ≤ ia + ib))
      ?_ ?_ ⟨rfl, out, ia, ib, 0, 0, rfl, v, by omega⟩) ?_)
    · rintro x c st' _ hx1 ⟨rfl, out, ia, ib, ac, bc, rfl, v, hx⟩
      obtain ⟨p, hp, ip⟩ := pA (show ia < a.size by have := v.ha; omega)
      obtain ⟨q, hq, iq⟩ := pB v.hb
      refine wpS_bind (wpS_elem hq (wpS_bind (wpS_elem hp (wpS_bind (wpS_lt hk iq ip ?_)))))
      dsimp only
      have va := v.ha
      have vb := v.hb
      refine wpS_ite' (fun c3 => ?_) (fun c3 => ?_)
      · have c3' : kle q p := Int.le_of_lt (of_decide_eq_true c3)
        have m2 := (v.m.swap.one hB hq (kle_at (a := b) (i := ib) hA hp c3')).swap
        refine wpS_bind (wpS_elem hq ?_)
        refine wpS_ite' (fun c4 => wpS_pure ⟨rfl, .inl ⟨_, _, rfl, m2.doneA hA (Nat.le_of_eq (beq_iff_eq.mp c4).symm)⟩⟩) (fun c4 => ?_)
        have c4' : ib + 1 ≠ b.size := fun z => c4 (beq_iff_eq.mpr z)
        exact wpS_ite' (fun c5 => wpS_pure ⟨rfl, .inr ⟨_, _, _, _, _, rfl, ⟨m2, va, by omega⟩, by omega⟩⟩) (fun c5 => wpS_pure ⟨rfl, _, _, _, _, _, rfl, ⟨m2, va, by omega⟩, by omega⟩)
      · have c3' : kle p q := Int.not_lt.mp (fun z => c3 (decide_eq_true z))
        have m2 := v.m.one hA hp (kle_at (a := a) (i := ia) hB hq c3')
        refine wpS_bind (wpS_elem hp ?_)
        refine wpS_ite' (fun c4 => wpS_pure ⟨rfl, .inl ⟨_, _, rfl, m2.lastE hA hB (beq_iff_eq.mp c4) hla⟩⟩) (fun c4 => ?_)
        have c4' : ia + 1 + 1 ≠ a.size := fun z => c4 (beq_iff_eq.mpr z)
        exact wpS_ite' (fun c5 => wpS_pure ⟨rfl, .inr ⟨_, _, _, _, _, rfl, ⟨m2, by omega, vb⟩, by omega⟩⟩) (fun c5 => wpS_pure ⟨rfl, _, _, _, _, _, rfl, ⟨m2, by omega, vb⟩, by omega⟩)
    · rintro c st' ⟨rfl, out, ia, ib, ac, bc, rfl, v, hx⟩
      have va := v.ha
      have vb := v.hb
      omega
    · rintro c st' ⟨rfl, ⟨r, rest, rfl, hr⟩ | ⟨out, ia, ib, ac, bc, rfl, v, hx⟩⟩
      · exact wpS_pure ⟨⟨g, rfl⟩, r, _, rfl, hr⟩
      refine wpS_bind (wpS_lift (wpAny_rule ⟨rfl, ?_⟩))
      refine wpS_bind (wpS_mono (wpS_forRange
        (I := fun x c st' => (∃ g, setG st g = st') ∧ ∃ out ia ib mg ac bc, c = (none, out, ia, ib, mg, ac, bc) ∧ MV a b out ia ib ∧ x0 + 2 + x ≤ ia + ib)
        (Q := fun c st' => (∃ g, setG st g = st') ∧ ((∃ r rest, c = (some r, rest) ∧ SP a.toList b.toList r.toList) ∨ ∃ out ia ib mg ac bc, c = (none, out, ia, ib, mg, ac, bc) ∧ MV a b out ia ib ∧ x0 + 2 ≤ ia + ib))
        ?_ ?_ ⟨⟨g, rfl⟩, out, ia, ib, _, ac, bc, rfl, v, by omega⟩) ?_)
      · rintro x c st' _ hx1 ⟨⟨g, rfl⟩, out, ia, ib, mg, ac, bc, rfl, v, hx⟩
        have va := v.ha
        have vb := v.hb
        obtain ⟨q, hq, iq⟩ := pB vb
        dsimp (config := { zeta := false, zetaHave := false, zetaUnused := false }) only
        extract_lets _ _ _ _ _ _ _ _ _ _ _ _ jp
        suffices hj : ∀ mg', wpS (model prog w) A E s (jp () mg') _ (setG st g) from wpS_ite' (fun _ => hj _) (fun _ => hj _)
        intro mg'
        refine wpS_bind (wpS_modify ?_)
        refine wpS_bind (wpS_elem hq ?_)
        refine wpS_bind (wpS_gallop (left := false) (arr := a) (base := ia) (n := a.size - ia) (hint := 0) hk iq (fun i hi => pA (i := ia + i) (by omega)) (fun i j hij hj => K_pw hA (by omega) (by omega)) (by omega) fun k k1 k2 k3 => ?_)
        have le1 : ∀ x ∈ (a.toList.drop ia).take k, ∀ y ∈ b.toList.drop ib, kle x y := fun x hx y hy => by
          obtain ⟨j, h1, h2, h3⟩ := mem_take_at hx
          exact kle_at (a := a) (i := 0) hB hq (gp_false (k2 j h1) h3) y hy
        have le2 : ∀ y ∈ a.toList.drop (ia + k), kle q y := fun y hy => by
          obtain ⟨j, h1, h2, h3⟩ := mem_drop_at hy
          exact gp_false' (k3 (j - ia) (by omega) (by omega)) (by rw [show ia + (j - ia) = j by omega]; exact h3)
        dsimp (config := { zeta := false, zetaHave := false, zetaUnused := false }) only
        extract_lets _ jp2
        suffices hj2 : ∀ (o2 : Array Keyed) (i2 : Nat), MI a.toList b.toList o2.toList i2 ib → i2 + 2 ≤ a.size → ia ≤ i2 → (∀ y ∈ a.toList.drop i2, kle q y) → wpS (model prog w) A E s (jp2 () o2 i2) _ (setG st mg') by
          refine wpS_ite' (fun c3 => ?_) (fun c3 => hj2 out ia v.m va (Nat.le_refl _) (by rw [show ia = ia + k by omega]; exact le2))
          have m2 := v.m.blk hA le1
          refine wpS_ite' (fun c4 => wpS_pure ⟨⟨mg', rfl⟩, .inl ⟨_, _, rfl, m2.lastE hA hB (beq_iff_eq.mp c4) hla⟩⟩) (fun c4 => ?_)
          refine wpS_ite' (fun c5 => wpS_pure ⟨⟨mg', rfl⟩, .inl ⟨_, _, rfl, m2.doneB hB (Nat.le_of_eq (beq_iff_eq.mp c5).symm)⟩⟩) (fun c5 => ?_)
          have c4' : ia + k + 1 ≠ a.size := fun z => c4 (beq_iff_eq.mpr z)
          have c5' : ia + k ≠ a.size := fun z => c5 (beq_iff_eq.mpr z)
          exact hj2 _ (ia + k) m2 (by omega) (by omega) le2
        intro o2 i2 m2 hi2 hle qle
        obtain ⟨p, hp, ip⟩ := pA (show i2 < a.size by omega)
        refine wpS_bind (wpS_elem hq ?_)
        have m3 := (m2.swap.one hB hq qle).swap
        refine wpS_ite' (fun c4 => wpS_pure ⟨⟨mg', rfl⟩, .inl ⟨_, _, rfl, m3.doneA hA (Nat.le_of_eq (beq_iff_eq.mp c4).symm)⟩⟩) (fun c4 => ?_)
        have c4' : ib + 1 ≠ b.size := fun z => c4 (beq_iff_eq.mpr z)
        refine wpS_bind (wpS_elem hp ?_)
        refine wpS_bind (wpS_gallop (left := true) (arr := b) (base := ib + 1) (n := b.size - (ib + 1)) (hint := 0) hk ip (fun i hi => pB (i := ib + 1 + i) (by omega)) (fun i j hij hj => K_pw hB (by omega) (by omega)) (by omega) fun k' l1 l2 l3 => ?_)
        have le3 : ∀ x ∈ (b.toList.drop (ib + 1)).take k', ∀ y ∈ a.toList.drop i2, kle x y := fun x hx y hy => by
          obtain ⟨j, h1, h2, h3⟩ := mem_take_at hx
          exact kle_at (a := a) (i := 0) hA hp (gp_true (l2 j h1) h3) y hy
        have le4 : ∀ y ∈ b.toList.drop (ib + 1 + k'), kle p y := fun y hy => by
          obtain ⟨j, h1, h2, h3⟩ := mem_drop_at hy
          exact gp_true' (l3 (j - (ib + 1)) (by omega) (by omega)) (by rw [show ib + 1 + (j - (ib + 1)) = j by omega]; exact h3)
        dsimp (config := { zeta := false, zetaHave := false, zetaUnused := false }) only
        extract_lets _ _ jp3
        suffices hj3 : ∀ (o3 : Array Keyed) (i3 : Nat), MI a.toList b.toList o3.toList i2 i3 → i3 < b.size → ib + 1 ≤ i3 → (∀ y ∈ b.toList.drop i3, kle p y) → wpS (model prog w) A E s (jp3 () o3 i3) _ (setG st mg') by
          refine wpS_ite' (fun c3 => ?_) (fun c3 => hj3 _ (ib + 1) m3 (by omega) (Nat.le_refl _) (by rw [show ib + 1 = ib + 1 + k' by omega]; exact le4))
          have m4 := (m3.swap.blk hB le3).swap
          refine wpS_ite' (fun c5 => wpS_pure ⟨⟨mg', rfl⟩, .inl ⟨_, _, rfl, m4.doneA hA (Nat.le_of_eq (beq_iff_eq.mp c5).symm)⟩⟩) (fun c5 => ?_)
          have c5' : ib + 1 + k' ≠ b.size := fun z => c5 (beq_iff_eq.mpr z)
          exact hj3 _ (ib + 1 + k') m4 (by omega) (by omega) le4
        intro o3 i3 m4 hi3 hle3 ple
        refine wpS_bind (wpS_elem hp ?_)
        have m5 := m4.one hA hp ple
        refine wpS_ite' (fun c5 => wpS_pure ⟨⟨mg', rfl⟩, .inl ⟨_, _, rfl, m5.lastE hA hB (beq_iff_eq.mp c5) hla⟩⟩) (fun c5 => ?_)
        have c5' : i2 + 1 + 1 ≠ a.size := fun z => c5 (beq_iff_eq.mpr z)
        exact wpS_ite' (fun c6 => wpS_pure ⟨⟨mg', rfl⟩, .inr ⟨_, _, _, _, _, _, rfl, ⟨m5, by omega, hi3⟩, by omega⟩⟩) (fun c6 => wpS_pure ⟨⟨mg', rfl⟩, _, _, _, _, _, _, rfl, ⟨m5, by omega, hi3⟩, by omega⟩)
      · rintro c st' ⟨⟨g, rfl⟩, out, ia, ib, mg, ac, bc, rfl, v, hx⟩
        have va := v.ha
        have vb := v.hb
        omega
      · rintro c st' ⟨⟨g, rfl⟩, ⟨r, rest, rfl, hr⟩ | ⟨out, ia, ib, mg, ac, bc, rfl, v, hx⟩⟩
        · exact wpS_pure ⟨⟨g, rfl⟩, r, _, rfl, hr⟩
        · exact wpS_bind (wpS_modify (wpS_pure ⟨⟨_, rfl⟩, _, _, _, _, rfl, v, by omega⟩))
  · rintro c st' ⟨⟨g, rfl⟩, out, ia, ib, mg, rfl, v, hx⟩
    have va := v.ha
    have vb := v.hb
    omega
  · rintro c st' ⟨⟨g, rfl⟩, r, rest, rfl, hr⟩
    exact wpS_pure (h r g hr)
end
end Srt

set_option maxHeartbeats 4000000
namespace Srt
open PySem PyProof PyProof.Rows

structure MH (A B out : List Keyed) (na nb : Nat) : Prop where
  perm : out.Perm (A.drop na ++ B.drop nb)
  srt : out.Pairwise fun x y => kle y x
  la : ∀ x ∈ out, ∀ y ∈ A.take na, kle y x
  lb : ∀ x ∈ out, ∀ y ∈ B.take nb, kle y x

theorem MH.swap {A B out : List Keyed} {na nb : Nat} (m : MH A B out na nb) : MH B A out nb na :=
  ⟨m.perm.trans List.perm_append_comm, m.srt, m.lb, m.la⟩

theorem MH.more {A B out : List Keyed} {na nb : Nat} (hA : A.Pairwise kle) (m : MH A B out na nb) {k : Nat} (hk : k ≤ na) (hn : na ≤ A.length) (hx : ∀ x ∈ (A.take na).drop k, ∀ y ∈ B.take nb, kle y x) :
    MH A B (out ++ ((A.take na).drop k).reverse) k nb := by
  have hd : (A.take na).Pairwise kle := hA.sublist (List.take_sublist _ _)
  have hs : ((A.take na).take k ++ (A.take na).drop k).Pairwise kle := by rw [List.take_append_drop]; exact hd
  obtain ⟨p1, p2, p3⟩ := List.pairwise_append.mp hs
  rw [List.take_take, Nat.min_eq_left hk] at p3
  have ed : A.drop k = (A.take na).drop k ++ A.drop na := by
    conv => lhs; rw [← List.take_append_drop na A]
    rw [List.drop_append_of_le_length (by rw [List.length_take]; omega)]
  refine ⟨?_, List.pairwise_append.mpr ⟨m.srt, List.pairwise_reverse.mpr p2, fun x h y g => m.la x h y (List.mem_of_mem_drop (List.mem_reverse.mp g))⟩, fun x h y g => ?_, fun x h y g => ?_⟩
  · rw [ed]
    refine (List.Perm.append m.perm (List.reverse_perm _)).trans ?_
    refine List.perm_append_comm.trans ?_
    rw [List.append_assoc]
  · rcases List.mem_append.mp h with z | z
    · exact m.la x z y (by have : A.take k = (A.take na).take k := by rw [List.take_take, Nat.min_eq_left hk]
                           rw [this] at g; exact List.mem_of_mem_take g)
    · exact p3 y g x (List.mem_reverse.mp z)
  · rcases List.mem_append.mp h with z | z
    · exact m.lb x z y g
    · exact hx x (List.mem_reverse.mp z) y g

theorem MH.fin {A B out : List Keyed} (m : MH A B out 0 0) : SP A B out.reverse :=
  ⟨(List.reverse_perm _).trans m.perm, List.pairwise_reverse.mpr m.srt⟩

theorem MH.allA {A B out : List Keyed} {na : Nat} (hA : A.Pairwise kle) (m : MH A B out na 0) (hn : na ≤ A.length) : SP A B (A.take na ++ out.reverse) := by
  have h := (m.more hA (Nat.zero_le _) hn (fun x _ y g => by rw [List.take_zero] at g; cases g)).fin
  rwa [List.drop_zero, List.reverse_append, List.reverse_reverse] at h

theorem MH.allB {A B out : List Keyed} {nb : Nat} (hB : B.Pairwise kle) (m : MH A B out 0 nb) (hn : nb ≤ B.length) : SP A B (B.take nb ++ out.reverse) := by
  have h := m.swap.allA hB hn
  exact ⟨h.1.trans List.perm_append_comm, h.2⟩

theorem MH.first {A B out : List Keyed} {na nb : Nat} (hA : A.Pairwise kle) (hB : B.Pairwise kle) (m : MH A B out na nb) (ha : na ≤ A.length) (hb : nb ≤ B.length) (hx : ∀ x ∈ B.take nb, ∀ y ∈ A.take na, kle x y) :
    SP A B (B.take nb ++ A.take na ++ out.reverse) := by
  have h := (m.more hA (Nat.zero_le _) ha (fun x g y g2 => hx y g2 x (by rwa [List.drop_zero] at g))).allB hB hb
  rwa [List.drop_zero, List.reverse_append, List.reverse_reverse, ← List.append_assoc] at h

theorem ext0 {a : Array Keyed} {k : Nat} : (a.extract 0 k).toList = a.toList.take k := by
  rw [Array.toList_extract, List.extract_eq_drop_take, List.drop_zero, Nat.sub_zero]
theorem ext2 {a : Array Keyed} {i k : Nat} : (a.extract i k).toList = (a.toList.take k).drop i := by
  rw [Array.toList_extract, List.extract_eq_drop_take, List.drop_take]
theorem drop_last {a : Array Keyed} {n : Nat} {p : Keyed} (h : a[n - 1]? = some p) (hn : 0 < n) (hs : n ≤ a.size) : (a.toList.take n).drop (n - 1) = [p] := by
  have := drop_one h
  rw [List.drop_take, show n - (n - 1) = 1 by omega]
  exact this
theorem MH.one {a b out : Array Keyed} {na nb : Nat} {p : Keyed} (hA : a.toList.Pairwise kle) (m : MH a.toList b.toList out.toList na nb) (hp : a[na - 1]? = some p) (hn : 0 < na) (hs : na ≤ a.size) (hx : ∀ y ∈ b.toList.take nb, kle y p) :
    MH a.toList b.toList (out.push p).toList (na - 1) nb := by
  have := m.more hA (k := na - 1) (by omega) (by rw [Array.length_toList]; exact hs) (by rw [drop_last hp hn hs]; intro x hx' y hy; rw [List.mem_singleton.mp hx']; exact hx y hy)
  rw [drop_last hp hn hs] at this
  rwa [Array.toList_push]
theorem MH.blk {a b out : Array Keyed} {na nb k : Nat} (hA : a.toList.Pairwise kle) (m : MH a.toList b.toList out.toList na nb) (hk : k ≤ na) (hs : na ≤ a.size) (hx : ∀ x ∈ (a.toList.take na).drop k, ∀ y ∈ b.toList.take nb, kle y x) :
    MH a.toList b.toList (out ++ (a.extract k na).reverse).toList k nb := by
  rw [Array.toList_append, Array.toList_reverse, ext2]
  exact m.more hA hk (by rw [Array.length_toList]; exact hs) hx
theorem MH.done0 {a b out : Array Keyed} {na nb : Nat} (hA : a.toList.Pairwise kle) (m : MH a.toList b.toList out.toList na nb) (e : nb = 0) (hs : na ≤ a.size) :
    SP a.toList b.toList (a.extract 0 na ++ b.extract 0 nb ++ out.reverse).toList := by
  subst e
  rw [Array.toList_append, Array.toList_append, Array.toList_reverse, ext0, ext0, List.take_zero, List.append_nil]
  exact m.allA hA (by rw [Array.length_toList]; exact hs)
theorem MH.doneZ {a b out : Array Keyed} {na nb : Nat} (hB : b.toList.Pairwise kle) (m : MH a.toList b.toList out.toList na nb) (e : na = 0) (hs : nb ≤ b.size) :
    SP a.toList b.toList (a.extract 0 na ++ b.extract 0 nb ++ out.reverse).toList := by
  subst e
  rw [Array.toList_append, Array.toList_append, Array.toList_reverse, ext0, ext0, List.take_zero, List.nil_append]
  exact m.allB hB (by rw [Array.length_toList]; exact hs)
theorem MH.firstB {a b out : Array Keyed} {na nb : Nat} (hA : a.toList.Pairwise kle) (hB : b.toList.Pairwise kle) (m : MH a.toList b.toList out.toList na nb) (e : nb = 1) (ha : na ≤ a.size) (hb : 0 < b.size)
    (hx : ∀ x ∈ b.toList.take 1, ∀ y ∈ a.toList, kle x y) : SP a.toList b.toList (b.extract 0 nb ++ a.extract 0 na ++ out.reverse).toList := by
  subst e
  rw [Array.toList_append, Array.toList_append, Array.toList_reverse, ext0, ext0]
  exact m.first hA hB (by rw [Array.length_toList]; exact ha) (by rw [Array.length_toList]; exact hb) fun x h y g => hx x h y (List.mem_of_mem_take g)
theorem mem_takeN_at {a : Array Keyed} {n : Nat} {x : Keyed} (h : x ∈ a.toList.take n) : ∃ j, j < n ∧ j < a.size ∧ a[j]? = some x := by
  obtain ⟨j, h1, h2, h3⟩ := mem_take_at (i := 0) (k := n) (by rw [List.drop_zero]; exact h)
  rw [Nat.zero_add] at h2 h3
  exact ⟨j, h1, h2, h3⟩
theorem mem_seg_at {a : Array Keyed} {n k : Nat} {x : Keyed} (h : x ∈ (a.toList.take n).drop k) : ∃ j, k ≤ j ∧ j < n ∧ j < a.size ∧ a[j]? = some x := by
  rw [List.drop_take] at h
  obtain ⟨j, h1, h2, h3⟩ := mem_take_at h
  exact ⟨k + j, by omega, by omega, h2, h3⟩
theorem kge_at {b : Array Keyed} {n : Nat} {p q : Keyed} (hB : b.toList.Pairwise kle) (hq : b[n - 1]? = some q) (h : kle q p) (hn : n ≤ b.size) (h0 : 0 < n) : ∀ y ∈ b.toList.take n, kle y p := by
  intro y hy
  obtain ⟨j, h1, h2, h3⟩ := mem_takeN_at hy
  have := K_pw hB (i := j) (j := n - 1) (by omega) (by omega)
  rw [K_kn h3, K_kn hq] at this
  exact kle_trans this h

structure MW (a b out : Array Keyed) (na nb : Nat) : Prop where
  m : MH a.toList b.toList out.toList na nb
  a1 : 1 ≤ na
  a2 : na ≤ a.size
  b1 : 2 ≤ nb
  b2 : nb ≤ b.size

section
variable {prog : Program} {w : World} {A : Around} {E : Value → Shared → Prop} {s : Shared}

theorem wpS_mergeHi {st : SortSt} {a b : Array Keyed} {Q : Array Keyed → SortSt → Prop} (hk : kindOf st = oneType') (iA : ∀ x ∈ a.toList, IntK x) (iB : ∀ x ∈ b.toList, IntK x)
    (hA : a.toList.Pairwise kle) (hB : b.toList.Pairwise kle) (na0 : 0 < a.size) (nb0 : 0 < b.size)
    (hb0 : ∀ x ∈ b.toList.take 1, ∀ y ∈ a.toList, kle x y) (hla : ∀ x ∈ b.toList, ∀ y ∈ a.toList.drop (a.size - 1), kle x y)
    (h : ∀ r g, SP a.toList b.toList r.toList → Q r (setG st g)) :
    wpS (model prog w) A E s (mergeHiR a b) Q st := by
  have pA : ∀ {i}, i < a.size → ∃ p, a[i]? = some p ∧ IntK p := fun hi => ⟨_, Array.getElem?_eq_getElem hi, iA _ (Array.getElem_mem_toList hi)⟩
  have pB : ∀ {i}, i < b.size → ∃ p, b[i]? = some p ∧ IntK p := fun hi => ⟨_, Array.getElem?_eq_getElem hi, iB _ (Array.getElem_mem_toList hi)⟩
  obtain ⟨z, hz, iz⟩ := pA (show a.size - 1 < a.size by omega)
  refine wpS_bind (wpS_lift (wpAny_rule ⟨rfl, ?_⟩))
  refine wpS_bind (wpS_elem hz ?_)
  have m0 : MH a.toList b.toList (#[z] : Array Keyed).toList (a.size - 1) b.size := by
    have e : MH a.toList b.toList (#[] : Array Keyed).toList a.size b.size := ⟨by rw [List.drop_of_length_le (Nat.le_of_eq Array.length_toList), List.drop_of_length_le (Nat.le_of_eq Array.length_toList)]; exact List.Perm.refl _, List.Pairwise.nil, nofun, nofun⟩
    exact e.one hA hz na0 (Nat.le_refl _) fun y hy => hla y (List.mem_of_mem_take hy) z (List.mem_of_mem_take (i := 1) (by rw [drop_one hz]; exact List.mem_singleton.mpr rfl))
  refine wpS_ite' (fun c1 => wpS_pure (h _ (gallopOf st) (m0.doneZ hB (beq_iff_eq.mp c1) (Nat.le_refl _)))) (fun c1 => ?_)
  refine wpS_ite' (fun c2 => wpS_pure (h _ (gallopOf st) (m0.firstB hA hB (beq_iff_eq.mp c2) (by omega) nb0 hb0))) (fun c2 => ?_)
  replace c1 : a.size - 1 ≠ 0 := fun z => c1 (beq_iff_eq.mpr z)
  replace c2 : b.size ≠ 1 := fun z => c2 (beq_iff_eq.mpr z)
  refine wpS_bind (wpS_get ?_)
  refine wpS_bind (wpS_mono (wpS_forRange
    (I := fun x c st' => (∃ g, setG st g = st') ∧ ∃ na nb out mg, c = (none, na, nb, out, mg) ∧ MW a b out na nb ∧ x + 1 + na + nb ≤ a.size + b.size)
    (Q := fun c st' => (∃ g, setG st g = st') ∧ ∃ r rest, c = (some r, rest) ∧ SP a.toList b.toList r.toList)
    ?_ ?_ ⟨⟨gallopOf st, rfl⟩, _, _, _, _, rfl, ⟨m0, by omega, by omega, by omega, by omega⟩, by omega⟩) ?_)
  · rintro x0 c st' _ hx0 ⟨⟨g, rfl⟩, na, nb, out, mg, rfl, v, hx⟩
    refine wpS_bind (wpS_mono (wpS_forRange
      (I := fun x c st' => setG st g = st' ∧ ∃ na nb out ac bc, c = (none, na, nb, out, ac, bc) ∧ MW a b out na nb ∧ x0 + 1 + x + na + nb ≤ a.size + b.size)
      (Q := fun c st' => setG st g = st' ∧ ((∃ r rest, c = (some r, rest) ∧ SP a.toList b.toList r.toList) ∨ ∃ na nb out ac bc, c = (none, na, nb, out, ac, bc) ∧ MW a b out na nb ∧ x0 + 2 + na + nb ≤ a.size + b.size))
      ?_ ?_ ⟨rfl, na, nb, out, 0, 0, rfl, v, by omega⟩) ?_)
    · rintro x c st' _ hx1 ⟨rfl, na, nb, out, ac, bc, rfl, v, hx⟩
      obtain ⟨vm, a1, a2, b1, b2⟩ := v
      obtain ⟨p, hp, ip⟩ := pA (show na - 1 < a.size by omega)
      obtain ⟨q, hq, iq⟩ := pB (show nb - 1 < b.size by omega)
      refine wpS_bind (wpS_elem hq (wpS_bind (wpS_elem hp (wpS_bind (wpS_lt hk iq ip ?_)))))
      dsimp only
      refine wpS_ite' (fun c3 => ?_) (fun c3 => ?_)
      · have c3' : kle q p := Int.le_of_lt (of_decide_eq_true c3)
        have m2 := vm.one hA hp a1 a2 (kge_at hB hq c3' b2 (by omega))
        refine wpS_bind (wpS_elem hp ?_)
        refine wpS_ite' (fun c4 => wpS_pure ⟨rfl, .inl ⟨_, _, rfl, m2.doneZ hB (beq_iff_eq.mp c4) b2⟩⟩) (fun c4 => ?_)
        have c4' : na - 1 ≠ 0 := fun z => c4 (beq_iff_eq.mpr z)
        exact wpS_ite' (fun c5 => wpS_pure ⟨rfl, .inr ⟨_, _, _, _, _, rfl, ⟨m2, by omega, by omega, b1, b2⟩, by omega⟩⟩) (fun c5 => wpS_pure ⟨rfl, _, _, _, _, _, rfl, ⟨m2, by omega, by omega, b1, b2⟩, by omega⟩)
      · have c3' : kle p q := Int.not_lt.mp (fun z => c3 (decide_eq_true z))
        have m2 := (vm.swap.one hB hq (by omega) b2 (kge_at hA hp c3' a2 a1)).swap
        refine wpS_bind (wpS_elem hq ?_)
        refine wpS_ite' (fun c4 => wpS_pure ⟨rfl, .inl ⟨_, _, rfl, m2.firstB hA hB (beq_iff_eq.mp c4) a2 nb0 hb0⟩⟩) (fun c4 => ?_)
        have c4' : nb - 1 ≠ 1 := fun z => c4 (beq_iff_eq.mpr z)
        exact wpS_ite' (fun c5 => wpS_pure ⟨rfl, .inr ⟨_, _, _, _, _, rfl, ⟨m2, a1, a2, by omega, by omega⟩, by omega⟩⟩) (fun c5 => wpS_pure ⟨rfl, _, _, _, _, _, rfl, ⟨m2, a1, a2, by omega, by omega⟩, by omega⟩)
    · rintro c st' ⟨rfl, na, nb, out, ac, bc, rfl, ⟨vm, a1, a2, b1, b2⟩, hx⟩
      omega
    · rintro c st' ⟨rfl, ⟨r, rest, rfl, hr⟩ | ⟨na, nb, out, ac, bc, rfl, v, hx⟩⟩
      · exact wpS_pure ⟨⟨g, rfl⟩, r, _, rfl, hr⟩
      refine wpS_bind (wpS_lift (wpAny_rule ⟨rfl, ?_⟩))
      refine wpS_bind (wpS_mono (wpS_forRange
        (I := fun x c st' => (∃ g, setG st g = st') ∧ ∃ na nb out mg ac bc, c = (none, na, nb, out, mg, ac, bc) ∧ MW a b out na nb ∧ x0 + 2 + x + na + nb ≤ a.size + b.size)
        (Q := fun c st' => (∃ g, setG st g = st') ∧ ((∃ r rest, c = (some r, rest) ∧ SP a.toList b.toList r.toList) ∨ ∃ na nb out mg ac bc, c = (none, na, nb, out, mg, ac, bc) ∧ MW a b out na nb ∧ x0 + 2 + na + nb ≤ a.size + b.size))
        ?_ ?_ ⟨⟨g, rfl⟩, na, nb, out, _, ac, bc, rfl, v, by omega⟩) ?_)
      · rintro x c st' _ hx1 ⟨⟨g, rfl⟩, na, nb, out, mg, ac, bc, rfl, ⟨vm, a1, a2, b1, b2⟩, hx⟩
        obtain ⟨q, hq, iq⟩ := pB (show nb - 1 < b.size by omega)
        dsimp (config := { zeta := false, zetaHave := false, zetaUnused := false }) only
        extract_lets _ _ _ _ _ _ _ _ _ _ _ _ jp
        suffices hj : ∀ mg', wpS (model prog w) A E s (jp () mg') _ (setG st g) from wpS_ite' (fun _ => hj _) (fun _ => hj _)
        intro mg'
        refine wpS_bind (wpS_modify ?_)
        refine wpS_bind (wpS_elem hq ?_)
        refine wpS_bind (wpS_gallop (left := false) (arr := a) (base := 0) (n := na) (hint := na - 1) hk iq (fun i hi => by rw [Nat.zero_add]; exact pA (i := i) (by omega)) (fun i j hij hj => by rw [Nat.zero_add, Nat.zero_add]; exact K_pw hA hij (by omega)) (by omega) fun k k1 k2 k3 => ?_)
        have le1 : ∀ x ∈ (a.toList.take na).drop k, ∀ y ∈ b.toList.take nb, kle y x := fun x hx y hy => by
          obtain ⟨j, h1, h2, h3, h4⟩ := mem_seg_at hx
          exact kge_at hB hq (gp_false' (k3 j h1 h2) (by rw [Nat.zero_add]; exact h4)) b2 (by omega) y hy
        have le2 : ∀ y ∈ a.toList.take k, kle y q := fun y hy => by
          obtain ⟨j, h1, h2, h3⟩ := mem_takeN_at hy
          exact gp_false (k2 j h1) (by rw [Nat.zero_add]; exact h3)
        dsimp (config := { zeta := false, zetaHave := false, zetaUnused := false }) only
        extract_lets _ _ jp2
        suffices hj2 : ∀ (n2 : Nat) (o2 : Array Keyed), MH a.toList b.toList o2.toList n2 nb → 1 ≤ n2 → n2 ≤ na → (∀ y ∈ a.toList.take n2, kle y q) → wpS (model prog w) A E s (jp2 () n2 o2) _ (setG st mg') by
          refine wpS_ite' (fun c3 => ?_) (fun c3 => hj2 na out vm a1 (Nat.le_refl _) (by have c3' : ¬ (na - k > 0) := c3; rw [show na = k by omega]; exact le2))
          have m2 := vm.blk hA k1 a2 le1
          refine wpS_ite' (fun c4 => wpS_pure ⟨⟨mg', rfl⟩, .inl ⟨_, _, rfl, m2.doneZ hB (beq_iff_eq.mp c4) b2⟩⟩) (fun c4 => ?_)
          have c4' : k ≠ 0 := fun z => c4 (beq_iff_eq.mpr z)
          exact hj2 k _ m2 (by omega) k1 le2
        intro n2 o2 m2 hn2 hle qle
        obtain ⟨p, hp, ip⟩ := pA (show n2 - 1 < a.size by omega)
        refine wpS_bind (wpS_elem hq ?_)
        have m3 := (m2.swap.one hB hq (by omega) b2 qle).swap
        refine wpS_ite' (fun c4 => wpS_pure ⟨⟨mg', rfl⟩, .inl ⟨_, _, rfl, m3.firstB hA hB (beq_iff_eq.mp c4) (by omega) nb0 hb0⟩⟩) (fun c4 => ?_)
        have c4' : nb - 1 ≠ 1 := fun z => c4 (beq_iff_eq.mpr z)
        refine wpS_bind (wpS_elem hp ?_)
        refine wpS_bind (wpS_gallop (left := true) (arr := b) (base := 0) (n := nb - 1) (hint := nb - 1 - 1) hk ip (fun i hi => by rw [Nat.zero_add]; exact pB (i := i) (by omega)) (fun i j hij hj => by rw [Nat.zero_add, Nat.zero_add]; exact K_pw hB hij (by omega)) (by omega) fun k' l1 l2 l3 => ?_)
        have le3 : ∀ x ∈ (b.toList.take (nb - 1)).drop k', ∀ y ∈ a.toList.take n2, kle y x := fun x hx y hy => by
          obtain ⟨j, h1, h2, h3, h4⟩ := mem_seg_at hx
          exact kge_at hA hp (gp_true' (l3 j h1 h2) (by rw [Nat.zero_add]; exact h4)) (by omega) hn2 y hy
        have le4 : ∀ y ∈ b.toList.take k', kle y p := fun y hy => by
          obtain ⟨j, h1, h2, h3⟩ := mem_takeN_at hy
          exact gp_true (l2 j h1) (by rw [Nat.zero_add]; exact h3)
        dsimp (config := { zeta := false, zetaHave := false, zetaUnused := false }) only
        extract_lets _ _ _ jp3
        suffices hj3 : ∀ (n3 : Nat) (o3 : Array Keyed), MH a.toList b.toList o3.toList n2 n3 → 2 ≤ n3 → n3 ≤ nb - 1 → (∀ y ∈ b.toList.take n3, kle y p) → wpS (model prog w) A E s (jp3 () n3 o3) _ (setG st mg') by
          refine wpS_ite' (fun c3 => ?_) (fun c3 => hj3 (nb - 1) _ m3 (by omega) (Nat.le_refl _) (by have c3' : ¬ (nb - 1 - k' > 0) := c3; rw [show nb - 1 = k' by omega]; exact le4))
          have m4 := (m3.swap.blk hB l1 (by omega) le3).swap
          refine wpS_ite' (fun c5 => wpS_pure ⟨⟨mg', rfl⟩, .inl ⟨_, _, rfl, m4.firstB hA hB (beq_iff_eq.mp c5) (by omega) nb0 hb0⟩⟩) (fun c5 => ?_)
          refine wpS_ite' (fun c6 => wpS_pure ⟨⟨mg', rfl⟩, .inl ⟨_, _, rfl, m4.done0 hA (beq_iff_eq.mp c6) (by omega)⟩⟩) (fun c6 => ?_)
          have c5' : k' ≠ 1 := fun z => c5 (beq_iff_eq.mpr z)
          have c6' : k' ≠ 0 := fun z => c6 (beq_iff_eq.mpr z)
          exact hj3 k' _ m4 (by omega) l1 le4
        intro n3 o3 m4 hn3 hle3 ple
        refine wpS_bind (wpS_elem hp ?_)
        have m5 := m4.one hA hp hn2 (by omega) ple
        refine wpS_ite' (fun c5 => wpS_pure ⟨⟨mg', rfl⟩, .inl ⟨_, _, rfl, m5.doneZ hB (beq_iff_eq.mp c5) (by omega)⟩⟩) (fun c5 => ?_)
        have c5' : n2 - 1 ≠ 0 := fun z => c5 (beq_iff_eq.mpr z)
        exact wpS_ite' (fun c6 => wpS_pure ⟨⟨mg', rfl⟩, .inr ⟨_, _, _, _, _, _, rfl, ⟨m5, by omega, by omega, hn3, by omega⟩, by omega⟩⟩) (fun c6 => wpS_pure ⟨⟨mg', rfl⟩, _, _, _, _, _, _, rfl, ⟨m5, by omega, by omega, hn3, by omega⟩, by omega⟩)
      · rintro c st' ⟨⟨g, rfl⟩, na, nb, out, mg, ac, bc, rfl, ⟨vm, a1, a2, b1, b2⟩, hx⟩
        omega
      · rintro c st' ⟨⟨g, rfl⟩, ⟨r, rest, rfl, hr⟩ | ⟨na, nb, out, mg, ac, bc, rfl, v, hx⟩⟩
        · exact wpS_pure ⟨⟨g, rfl⟩, r, _, rfl, hr⟩
        · exact wpS_bind (wpS_modify (wpS_pure ⟨⟨_, rfl⟩, _, _, _, _, rfl, v, by omega⟩))
  · rintro c st' ⟨⟨g, rfl⟩, na, nb, out, mg, rfl, ⟨vm, a1, a2, b1, b2⟩, hx⟩
    omega
  · rintro c st' ⟨⟨g, rfl⟩, r, rest, rfl, hr⟩
    exact wpS_pure (h r g hr)
end
end Srt

set_option maxHeartbeats 4000000
namespace Srt
open PySem PyProof PyProof.Rows

def AllI (xs : Array Keyed) : Prop := ∀ p ∈ xs.toList, IntK p
theorem AllI.perm {xs ys : Array Keyed} (h : AllI xs) (hp : ys.Perm xs) : AllI ys := fun p hm => h p ((Array.perm_iff_toList_perm.mp hp).mem_iff.mp hm)
def SortedIn (xs : Array Keyed) (i j : Nat) : Prop := ∀ p q, i ≤ p → p ≤ q → q < j → K xs p ≤ K xs q

def putAll (xs : Array Keyed) (at' n : Nat) (l : List Keyed) : Array Keyed := (l.zipIdx n).foldl (fun a (p : Keyed × Nat) => a.setIfInBounds (at' + p.2) p.1) xs
theorem putAll_get : ∀ (l : List Keyed) (xs : Array Keyed) (at' n : Nat), at' + n + l.length ≤ xs.size → ∀ k : Nat,
    (putAll xs at' n l)[k]? = if at' + n ≤ k ∧ k < at' + n + l.length then l[k - (at' + n)]? else xs[k]?
  | [], xs, at', n, _, k => by
    show xs[k]? = _
    rw [if_neg (by rw [List.length_nil]; omega)]
  | p :: l, xs, at', n, h, k => by
    rw [List.length_cons] at h ⊢
    show (putAll (xs.setIfInBounds (at' + n) p) at' (n + 1) l)[k]? = _
    rw [putAll_get l _ at' (n + 1) (by rw [Array.size_setIfInBounds]; omega) k]
    by_cases e : k = at' + n
    · subst e
      rw [if_neg (by omega), if_pos (by omega), Nat.sub_self, List.getElem?_cons_zero, Array.getElem?_setIfInBounds_self_of_lt (by omega)]
    · by_cases g : at' + n ≤ k ∧ k < at' + n + (l.length + 1)
      · rw [if_pos g, if_pos (by omega), show k - (at' + n) = (k - (at' + (n + 1))) + 1 by omega, List.getElem?_cons_succ]
      · rw [if_neg g, if_neg (by omega), Array.getElem?_setIfInBounds_ne (by omega)]
theorem putAll_list {xs : Array Keyed} {at' : Nat} {l : List Keyed} (h : at' + l.length ≤ xs.size) :
    (putAll xs at' 0 l).toList = xs.toList.take at' ++ (l ++ xs.toList.drop (at' + l.length)) := by
  have hlt : (xs.toList.take at').length = at' := by rw [List.length_take, Array.length_toList]; omega
  apply List.ext_getElem?
  intro k
  have e := putAll_get l xs at' 0 (by omega) k
  rw [Nat.add_zero] at e
  rw [Array.getElem?_toList, e]
  by_cases h1 : k < at'
  · rw [if_neg (by omega), List.getElem?_append_left (by omega), List.getElem?_take, if_pos h1, Array.getElem?_toList]
  · rw [List.getElem?_append_right (by omega), hlt]
    by_cases h2 : k < at' + l.length
    · rw [if_pos (by omega), List.getElem?_append_left (by omega)]
    · rw [if_neg (by omega), List.getElem?_append_right (by omega), List.getElem?_drop, Array.getElem?_toList, show at' + l.length + (k - at' - l.length) = k by omega]
theorem seg_list {xs : Array Keyed} {i j : Nat} (h : i ≤ j) : xs.toList = xs.toList.take i ++ ((xs.extract i j).toList ++ xs.toList.drop j) := by
  rw [ext2, ← List.append_assoc]
  have : xs.toList.take i ++ (xs.toList.take j).drop i = xs.toList.take j := by
    conv => rhs; rw [← List.take_append_drop i (xs.toList.take j)]
    rw [List.take_take, Nat.min_eq_left h]
  rw [this, List.take_append_drop]
theorem pw_of {xs : Array Keyed} {i j : Nat} (h : SortedIn xs i j) (hj : j ≤ xs.size) : (xs.extract i j).toList.Pairwise kle := by
  rw [List.pairwise_iff_getElem]
  intro p q hp hq hpq
  rw [ext2, List.length_drop, List.length_take, Array.length_toList] at hp hq
  simp only [ext2, List.getElem_drop, List.getElem_take, Array.getElem_toList]
  have := h (i + p) (i + q) (by omega) (by omega) (by omega)
  rw [K_kn (Array.getElem?_eq_getElem (by omega)), K_kn (Array.getElem?_eq_getElem (by omega))] at this
  exact this

section
variable {prog : Program} {w : World} {A : Around} {E : Value → Shared → Prop} {s : Shared}

/-- two runs side by side made one -/
theorem wpS_mergeAt {st : SortSt} {i sa na sb nb pw pw2 : Nat} {Q : Bool → SortSt → Prop} (hk : kindOf st = oneType') (hf : failedOf st = none) (hI : AllI (arrOf st))
    (h1 : (pendingOf st)[i]? = some (sa, na, pw)) (h2 : (pendingOf st)[i + 1]? = some (sb, nb, pw2)) (hsb : sb = sa + na) (hna : 1 ≤ na) (hnb : 1 ≤ nb) (hsz : sb + nb ≤ (arrOf st).size)
    (s1 : SortedIn (arrOf st) sa sb) (s2 : SortedIn (arrOf st) sb (sb + nb))
    (h : ∀ xs g, xs.Perm (arrOf st) → SortedIn xs sa (sb + nb) → (∀ k, k < sa ∨ sb + nb ≤ k → K xs k = K (arrOf st) k) →
      Q true (SortSt.mk' oneType' xs (((pendingOf st).setIfInBounds i (sa, na + nb, pw)).eraseIdxIfInBounds (i + 1)) g none)) :
    wpS (model prog w) A E s (mergeAt' i) Q st := by
  obtain ⟨kd, xs, pd, g0, fl⟩ := st
  cases hk
  cases hf
  refine wpS_bind (wpS_get ?_)
  have h1' : pd[i]? = some (sa, na, pw) := h1
  have h2' : pd[i + 1]? = some (sb, nb, pw2) := h2
  replace hI : AllI xs := hI
  replace hsz : sb + nb ≤ xs.size := hsz
  replace s1 : SortedIn xs sa sb := s1
  replace s2 : SortedIn xs sb (sb + nb) := s2
  replace h : ∀ ys g, ys.Perm xs → SortedIn ys sa (sb + nb) → (∀ k, k < sa ∨ sb + nb ≤ k → K ys k = K xs k) →
      Q true (SortSt.mk' oneType' ys ((pd.setIfInBounds i (sa, na + nb, pw)).eraseIdxIfInBounds (i + 1)) g none) := h
  dsimp only
  rw [h1', h2']
  dsimp only
  have pX : ∀ {i}, i < xs.size → ∃ p, xs[i]? = some p ∧ IntK p := fun hi => ⟨_, Array.getElem?_eq_getElem hi, hI _ (Array.getElem_mem_toList hi)⟩
  refine wpS_bind (wpS_modify ?_)
  obtain ⟨q, hq, iq⟩ := pX (show sb < xs.size by omega)
  refine wpS_bind (wpS_elem hq ?_)
  refine wpS_bind (wpS_gallop (left := false) (arr := xs) (base := sa) (n := na) (hint := 0) rfl iq (fun i hi => pX (i := sa + i) (by omega)) (fun i j hij hj => s1 _ _ (by omega) (by omega) (by omega)) (by omega) fun k k1 k2 k3 => ?_)
  have f1 : ∀ p, sa ≤ p → p < sa + k → K xs p ≤ K xs sb := fun p p1 p2 => by
    obtain ⟨u, hu, _⟩ := pX (show p < xs.size by omega)
    rw [K_kn hu, K_kn hq]
    exact gp_false (k2 (p - sa) (by omega)) (by rw [show sa + (p - sa) = p by omega]; exact hu)
  have f2 : ∀ p, sa + k ≤ p → p < sb → K xs sb ≤ K xs p := fun p p1 p2 => by
    obtain ⟨u, hu, _⟩ := pX (show p < xs.size by omega)
    rw [K_kn hu, K_kn hq]
    exact gp_false' (k3 (p - sa) (by omega) (by omega)) (by rw [show sa + (p - sa) = p by omega]; exact hu)
  refine wpS_ite' (fun c1 => wpS_pure ?_) (fun c1 => ?_)
  · have c1' : na - k = 0 := beq_iff_eq.mp c1
    refine h xs g0 (Array.Perm.refl _) (fun p q' p1 p2 p3 => ?_) (fun _ _ => rfl)
    by_cases hp : q' < sb
    · exact s1 _ _ p1 p2 hp
    · by_cases hp2 : p < sb
      · exact Int.le_trans (f1 p p1 (by omega)) (s2 _ _ (Nat.le_refl _) (by omega) p3)
      · exact s2 _ _ (by omega) p2 p3
  have c1' : na - k ≠ 0 := fun z => c1 (beq_iff_eq.mpr z)
  obtain ⟨u, hu, iu⟩ := pX (show sb - 1 < xs.size by omega)
  have eu : sa + k + (na - k) - 1 = sb - 1 := by omega
  refine wpS_bind (wpS_elem (p := u) (by rw [eu]; exact hu) ?_)
  refine wpS_bind (wpS_gallop (left := true) (arr := xs) (base := sb) (n := nb) (hint := nb - 1) rfl iu (fun i hi => pX (i := sb + i) (by omega)) (fun i j hij hj => s2 _ _ (by omega) (by omega) (by omega)) (by omega) fun n' n1 n2 n3 => ?_)
  have f3 : ∀ p, sb ≤ p → p < sb + n' → K xs p ≤ K xs (sb - 1) := fun p p1 p2 => by
    obtain ⟨v, hv, _⟩ := pX (show p < xs.size by omega)
    rw [K_kn hv, K_kn hu]
    exact gp_true (n2 (p - sb) (by omega)) (by rw [show sb + (p - sb) = p by omega]; exact hv)
  have f4 : ∀ p, sb + n' ≤ p → p < sb + nb → K xs (sb - 1) ≤ K xs p := fun p p1 p2 => by
    obtain ⟨v, hv, _⟩ := pX (show p < xs.size by omega)
    rw [K_kn hv, K_kn hu]
    exact gp_true' (n3 (p - sb) (by omega) (by omega)) (by rw [show sb + (p - sb) = p by omega]; exact hv)
  refine wpS_ite' (fun c2 => wpS_pure ?_) (fun c2 => ?_)
  · have c2' : n' = 0 := beq_iff_eq.mp c2
    refine h xs g0 (Array.Perm.refl _) (fun p q' p1 p2 p3 => ?_) (fun _ _ => rfl)
    by_cases hp : q' < sb
    · exact s1 _ _ p1 p2 hp
    · by_cases hp2 : p < sb
      · exact Int.le_trans (s1 p (sb - 1) p1 (by omega) (by omega)) (f4 _ (by omega) p3)
      · exact s2 _ _ (by omega) p2 p3
  have c2' : n' ≠ 0 := fun z => c2 (beq_iff_eq.mpr z)
  -- the two that are merged
  have zX : (xs.extract (sa + k) sb).size = sb - (sa + k) := by rw [Array.size_extract]; omega
  have zY : (xs.extract sb (sb + n')).size = n' := by rw [Array.size_extract]; omega
  have gX : ∀ x ∈ (xs.extract (sa + k) sb).toList, ∃ j, sa + k ≤ j ∧ j < sb ∧ xs[j]? = some x := fun x hx => by
    rw [ext2] at hx
    obtain ⟨j, j1, j2, j3, j4⟩ := mem_seg_at hx
    exact ⟨j, j1, j2, j4⟩
  have gY : ∀ x ∈ (xs.extract sb (sb + n')).toList, ∃ j, sb ≤ j ∧ j < sb + n' ∧ xs[j]? = some x := fun x hx => by
    rw [ext2] at hx
    obtain ⟨j, j1, j2, j3, j4⟩ := mem_seg_at hx
    exact ⟨j, j1, j2, j4⟩
  have iX : ∀ x ∈ (xs.extract (sa + k) sb).toList, IntK x := fun x hx => by
    obtain ⟨j, _, _, hj⟩ := gX x hx
    exact hI x (mem_at hj)
  have iY : ∀ x ∈ (xs.extract sb (sb + n')).toList, IntK x := fun x hx => by
    obtain ⟨j, _, _, hj⟩ := gY x hx
    exact hI x (mem_at hj)
  have pwX : (xs.extract (sa + k) sb).toList.Pairwise kle := pw_of (fun p q p1 p2 p3 => s1 p q (by omega) p2 p3) (by omega)
  have pwY : (xs.extract sb (sb + n')).toList.Pairwise kle := pw_of (fun p q p1 p2 p3 => s2 p q p1 p2 (by omega)) (by omega)
  have hb0 : ∀ x ∈ (xs.extract sb (sb + n')).toList.take 1, ∀ y ∈ (xs.extract (sa + k) sb).toList, kle x y := fun x hx y hy => by
    have e0 : (xs.extract sb (sb + n'))[0]? = some q := by
      rw [Array.getElem?_extract, if_pos (by omega), Nat.add_zero]; exact hq
    have := drop_one e0
    rw [List.drop_zero] at this
    rw [this] at hx
    rw [List.mem_singleton.mp hx]
    obtain ⟨j, j1, j2, j3⟩ := gX y hy
    have := f2 j j1 j2
    rwa [K_kn hq, K_kn j3] at this
  have hla : ∀ x ∈ (xs.extract sb (sb + n')).toList, ∀ y ∈ (xs.extract (sa + k) sb).toList.drop ((xs.extract (sa + k) sb).size - 1), kle x y := fun x hx y hy => by
    have e0 : (xs.extract (sa + k) sb)[(xs.extract (sa + k) sb).size - 1]? = some u := by
      rw [zX, Array.getElem?_extract, if_pos (by omega), show sa + k + (sb - (sa + k) - 1) = sb - 1 by omega]; exact hu
    have hy' : y = u := by
      obtain ⟨j, j1, j2, j3⟩ := mem_drop_at hy
      have : j = (xs.extract (sa + k) sb).size - 1 := by omega
      rw [this, e0] at j3
      exact (Option.some.inj j3).symm
    rw [hy']
    obtain ⟨j, j1, j2, j3⟩ := gY x hx
    have := f3 j j1 j2
    rwa [K_kn hu, K_kn j3] at this
  have fin : ∀ (r : Array Keyed) (g : Nat), SP (xs.extract (sa + k) sb).toList (xs.extract sb (sb + n')).toList r.toList →
      Q true (SortSt.mk' oneType' (putAll xs (sa + k) 0 r.toList) ((pd.setIfInBounds i (sa, na + nb, pw)).eraseIdxIfInBounds (i + 1)) g none) := by
    intro r g hr
    have hl : r.toList.length = sb - (sa + k) + n' := by
      rw [hr.1.length_eq, List.length_append, Array.length_toList, Array.length_toList, zX, zY]
    have hget := putAll_get r.toList xs (sa + k) 0 (by omega)
    have hmid : ∀ p, sa + k ≤ p → p < sb + n' → ∃ x, (putAll xs (sa + k) 0 r.toList)[p]? = some x ∧ r.toList[p - (sa + k)]? = some x ∧ x ∈ r.toList := fun p p1 p2 => by
      have e := hget p
      rw [if_pos (by omega), Nat.add_zero] at e
      have hp : p - (sa + k) < r.toList.length := by omega
      rw [List.getElem?_eq_getElem hp] at e ⊢
      exact ⟨_, e, rfl, List.getElem_mem hp⟩
    have hout : ∀ p, p < sa + k ∨ sb + n' ≤ p → K (putAll xs (sa + k) 0 r.toList) p = K xs p := fun p hp => by
      have e := hget p
      rw [if_neg (by omega)] at e
      exact K_congr e
    have hbd : ∀ x ∈ r.toList, K xs sb ≤ kn x ∧ kn x ≤ K xs (sb - 1) := fun x hx => by
      rcases List.mem_append.mp (hr.1.mem_iff.mp hx) with z | z
      · obtain ⟨j, j1, j2, j3⟩ := gX x z
        rw [← K_kn j3]
        exact ⟨f2 j j1 j2, s1 _ _ (by omega) (by omega) (by omega)⟩
      · obtain ⟨j, j1, j2, j3⟩ := gY x z
        rw [← K_kn j3]
        exact ⟨s2 _ _ (Nat.le_refl _) j1 (by omega), f3 j j1 j2⟩
    have hKm : ∀ p, sa + k ≤ p → p < sb + n' → K xs sb ≤ K (putAll xs (sa + k) 0 r.toList) p ∧ K (putAll xs (sa + k) 0 r.toList) p ≤ K xs (sb - 1) := fun p p1 p2 => by
      obtain ⟨x, x1, x2, x3⟩ := hmid p p1 p2
      rw [K_kn x1]
      exact hbd x x3
    refine h _ g ?_ ?_ (fun p hp => hout p (by omega))
    · refine Array.perm_iff_toList_perm.mpr ?_
      rw [putAll_list (by omega), hl, show sa + k + (sb - (sa + k) + n') = sb + n' by omega]
      conv => rhs; rw [seg_list (xs := xs) (i := sa + k) (j := sb + n') (by omega)]
      refine List.Perm.append_left _ (List.Perm.append_right _ (hr.1.trans ?_))
      rw [ext2, ext2, ext2]
      have e1 : (xs.toList.take (sb + n')).drop (sa + k) = (xs.toList.take sb).drop (sa + k) ++ (xs.toList.take (sb + n')).drop sb := by
        conv => lhs; rw [← List.take_append_drop sb (xs.toList.take (sb + n'))]
        rw [List.take_take, Nat.min_eq_left (by omega), List.drop_append_of_le_length (by rw [List.length_take, Array.length_toList]; omega)]
      rw [e1]
    · intro p q' p1 p2 p3
      by_cases a1 : q' < sa + k
      · rw [hout p (.inl (by omega)), hout q' (.inl a1)]
        exact s1 _ _ p1 p2 (by omega)
      · by_cases a2 : q' < sb + n'
        · by_cases a3 : p < sa + k
          · rw [hout p (.inl a3)]
            exact Int.le_trans (f1 p p1 a3) (hKm q' (by omega) a2).1
          · obtain ⟨x, x1, x2, _⟩ := hmid p (by omega) (by omega)
            obtain ⟨y, y1, y2, _⟩ := hmid q' (by omega) a2
            rw [K_kn x1, K_kn y1]
            by_cases a4 : p = q'
            · subst a4
              rw [x1] at y1
              rw [Option.some.inj y1]
              exact Int.le_refl _
            · obtain ⟨i1, e1⟩ := List.getElem?_eq_some_iff.mp x2
              obtain ⟨i2, e2⟩ := List.getElem?_eq_some_iff.mp y2
              have := List.pairwise_iff_getElem.mp hr.2 _ _ i1 i2 (by omega)
              rwa [e1, e2] at this
        · rw [hout q' (.inr (by omega))]
          by_cases a3 : p < sa + k
          · rw [hout p (.inl a3)]
            exact Int.le_trans (f1 p p1 a3) (s2 _ _ (Nat.le_refl _) (by omega) p3)
          · by_cases a4 : p < sb + n'
            · exact Int.le_trans (hKm p (by omega) a4).2 (f4 q' (by omega) p3)
            · rw [hout p (.inr (by omega))]
              exact s2 _ _ (by omega) p2 p3
  refine wpS_ite' (fun c3 => ?_) (fun c3 => ?_)
  · refine wpS_bind (wpS_mergeLo rfl iX iY pwX pwY (by omega) (by omega) hb0 hla fun r g hr => ?_)
    exact wpS_bind (wpS_modify (wpS_bind (wpS_get (wpS_pure (fin r g hr)))))
  · refine wpS_bind (wpS_mergeHi rfl iX iY pwX pwY (by omega) (by omega) hb0 hla fun r g hr => ?_)
    exact wpS_bind (wpS_modify (wpS_bind (wpS_get (wpS_pure (fin r g hr)))))
end
end Srt

set_option maxHeartbeats 4000000
namespace Srt
open PySem PyProof PyProof.Rows

theorem one_in {xs : Array Keyed} {i : Nat} : SortedIn xs i (i + 1) := fun p q p1 p2 p3 => by
  have : p = q := by omega
  subst this; exact Int.le_refl _
def DecIn (xs : Array Keyed) (i j : Nat) : Prop := ∀ p q, i ≤ p → p ≤ q → q < j → K xs q ≤ K xs p
section
variable {prog : Program} {w : World} {A : Around} {E : Value → Shared → Prop} {s : Shared}

theorem wpS_ltX {st : SortSt} {xs : Array Keyed} {i j : Nat} {Q : Option Bool → SortSt → Prop} (hk : kindOf st = oneType') (hI : AllI xs) (hi : i < xs.size) (hj : j < xs.size)
    (h : Q (some (decide (K xs i < K xs j))) (setArr st xs)) : wpS (model prog w) A E s (ltAt' i j) Q (setArr st xs) := by
  have e1 := Array.getElem?_eq_getElem hi
  have e2 := Array.getElem?_eq_getElem hj
  rw [ltAt'_eq]
  refine wpS_bind (wpS_get ?_)
  refine wpS_bind (wpS_elem e1 (wpS_bind (wpS_elem e2 (wpS_lt hk (hI _ (Array.getElem_mem_toList hi)) (hI _ (Array.getElem_mem_toList hj)) ?_))))
  rw [K_kn e1, K_kn e2] at h
  exact h

/-- a run found: it is made to rise -/
theorem wpS_countRunX {st : SortSt} {xs : Array Keyed} {lo nrem : Nat} {Q : Option Nat → SortSt → Prop} (hk : kindOf st = oneType') (hI : AllI xs) (hn : lo + nrem ≤ xs.size) (h1 : 1 ≤ nrem)
    (h : ∀ m ys, ys.Perm xs → (∀ k, k < lo → K ys k = K xs k) → 1 ≤ m → m ≤ nrem → SortedIn ys lo (lo + m) → Q (some m) (setArr st ys)) :
    wpS (model prog w) A E s (countRun' lo nrem) Q (setArr st xs) := by
  refine wpS_bind (wpS_mono (wpS_forRange
    (I := fun x c st' => setArr st xs = st' ∧ c = (none, x) ∧ x ≤ nrem ∧ SortedIn xs lo (lo + x))
    (Q := fun c st' => setArr st xs = st' ∧ ∃ n, c = (none, n) ∧ 1 ≤ n ∧ n ≤ nrem ∧ SortedIn xs lo (lo + n) ∧ (n = nrem ∨ K xs (lo + n) < K xs (lo + n - 1)))
    ?_ ?_ ⟨rfl, rfl, h1, one_in⟩) ?_)
  · rintro x c st' hx1 hx2 ⟨rfl, rfl, hx, hs⟩
    dsimp only
    refine wpS_bind (wpS_ltX hk hI (by omega) (by omega) ?_)
    dsimp only
    refine wpS_ite' (fun c1 => wpS_pure ⟨rfl, x, rfl, hx1, by omega, hs, .inr (of_decide_eq_true c1)⟩) (fun c1 => wpS_pure ⟨rfl, rfl, by omega, fun p q p1 p2 p3 => ?_⟩)
    have c1' : K xs (lo + x - 1) ≤ K xs (lo + x) := Int.not_lt.mp fun z => c1 (decide_eq_true z)
    by_cases hq : q < lo + x
    · exact hs p q p1 p2 hq
    · have : q = lo + x := by omega
      subst this
      by_cases hp : p = lo + x
      · subst hp; exact Int.le_refl _
      · exact Int.le_trans (hs p (lo + x - 1) p1 (by omega) (by omega)) c1'
  · rintro c st' ⟨rfl, rfl, hx, hs⟩
    rw [show max 1 nrem = nrem by omega] at hs ⊢
    exact ⟨rfl, _, rfl, h1, Nat.le_refl _, hs, .inl rfl⟩
  rintro c st' ⟨rfl, n, rfl, n1, n2, hs, hor⟩
  refine wpS_ite' (c := (n == nrem) = true) (fun c1 => wpS_pure (h n xs (Array.Perm.refl _) (fun _ _ => rfl) n1 n2 hs)) (fun c1 => ?_)
  have c1' : n ≠ nrem := fun z => c1 (beq_iff_eq.mpr z)
  have hlt := hor.resolve_left c1'
  extract_lets _ _ jp
  suffices hj : ∀ ys, ys.Perm xs → (∀ k, k < lo → K ys k = K xs k) → DecIn ys lo (lo + (n + 1)) → wpS (model prog w) A E s (jp ()) Q (setArr st ys) by
    refine wpS_ite' (fun c2 => ?_) (fun c2 => ?_)
    · refine wpS_bind (wpS_ltX hk hI (by omega) (by omega) ?_)
      refine wpS_ite' (c := decide (K xs lo < K xs (lo + n - 1)) = true) (fun c3 => wpS_pure (h n xs (Array.Perm.refl _) (fun _ _ => rfl) n1 n2 hs)) (fun c3 => ?_)
      have c3' : K xs (lo + n - 1) ≤ K xs lo := Int.not_lt.mp fun z => c3 (decide_eq_true z)
      have all : ∀ k, lo ≤ k → k < lo + n → K xs k = K xs (lo + n - 1) := fun k k1 k2 => by
        have a1 := hs lo k (Nat.le_refl _) k1 k2
        have a2 := hs k (lo + n - 1) k1 (by omega) (by omega)
        omega
      refine wpS_bind (wpS_modify ?_)
      have e := K_mirror_equal (i := lo) (j := lo + n) (xs := xs) (by omega) all
      refine hj (mirror xs lo (lo + n) ((lo + n - lo) / 2)) (mirror_perm _ _ _ _) (fun k _ => e k) (fun p q p1 p2 p3 => ?_)
      rw [e, e]
      by_cases hq : q < lo + n
      · rw [all q (by omega) hq, all p p1 (by omega)]; exact Int.le_refl _
      · have : q = lo + n := by omega
        subst this
        by_cases hp : p = lo + n
        · subst hp; exact Int.le_refl _
        · rw [all p p1 (by omega)]; exact Int.le_of_lt hlt
    · refine hj xs (Array.Perm.refl _) (fun _ _ => rfl) (fun p q p1 p2 p3 => ?_)
      have c2' : ¬ n > 1 := c2
      have : n = 1 := by omega
      subst this
      by_cases hp : p = q
      · subst hp; exact Int.le_refl _
      · have : p = lo := by omega
        have : q = lo + 1 := by omega
        subst p q
        exact Int.le_of_lt hlt
  intro ys yp yl yd
  have yz : ys.size = xs.size := yp.size_eq
  refine wpS_bind (wpS_lift (wpAny_rule ⟨rfl, ?_⟩))
  refine wpS_bind (wpS_mono (wpS_forRange
    (I := fun x c st' => ∃ zs neq, setArr st zs = st' ∧ c = (none, x, neq) ∧ zs.Perm xs ∧ (∀ k, k < lo → K zs k = K xs k) ∧ DecIn zs lo (lo + x) ∧ x ≤ nrem ∧ neq + 1 ≤ x ∧ (∀ i, lo + x - (neq + 1) ≤ i → i < lo + x → K zs i = K zs (lo + x - 1)))
    (Q := fun c st' => ∃ zs m neq, setArr st zs = st' ∧ c = (none, m, neq) ∧ zs.Perm xs ∧ (∀ k, k < lo → K zs k = K xs k) ∧ DecIn zs lo (lo + m) ∧ 1 ≤ m ∧ m ≤ nrem ∧ neq + 1 ≤ m ∧ (∀ i, lo + m - (neq + 1) ≤ i → i < lo + m → K zs i = K zs (lo + m - 1)))
    ?_ ?_ ⟨ys, 0, rfl, rfl, yp, yl, yd, by omega, by omega, fun i i1 i2 => by rw [show i = lo + (n + 1) - 1 by omega]⟩) ?_)
  · rintro x c st' hx1 hx2 ⟨zs, neq, rfl, rfl, zp, zl, zd, z1, z2, z3⟩
    have zz : zs.size = xs.size := zp.size_eq
    have hx1' : n + 1 ≤ x := hx1
    refine wpS_bind (wpS_ltX hk (hI.perm zp) (by show lo + x < zs.size; omega) (by show lo + x - 1 < zs.size; omega) ?_)
    have grow : ∀ us : Array Keyed, (∀ k, K us k = K zs k) → K zs (lo + x) ≤ K zs (lo + x - 1) → DecIn us lo (lo + (x + 1)) := fun us hu hle p q p1 p2 p3 => by
      rw [hu, hu]
      by_cases hq : q < lo + x
      · exact zd p q p1 p2 hq
      · have : q = lo + x := by omega
        subst this
        by_cases hp : p = lo + x
        · subst hp; exact Int.le_refl _
        · exact Int.le_trans hle (zd p (lo + x - 1) p1 (by omega) (by omega))
    refine wpS_ite' (c := decide (K zs (lo + x) < K zs (lo + x - 1)) = true) (fun c3 => ?_) (fun c3 => ?_)
    · have c3' := of_decide_eq_true c3
      have e := K_mirror_equal (i := lo + x - (neq + 1)) (j := lo + x) (xs := zs) (by omega) z3
      refine wpS_ite' (c := neq > 0) (fun c4 => ?_) (fun c4 => ?_)
      · exact wpS_bind (wpS_modify (wpS_pure ⟨mirror zs (lo + x - (neq + 1)) (lo + x) ((lo + x - (lo + x - (neq + 1))) / 2), 0, rfl, rfl, (mirror_perm _ _ _ _).trans zp, fun k hk' => by rw [e]; exact zl k hk', grow _ e (Int.le_of_lt c3'), by omega, by omega, fun i i1 i2 => by rw [show i = lo + (x + 1) - 1 by omega]⟩))
      · exact wpS_pure ⟨zs, 0, rfl, rfl, zp, zl, grow _ (fun _ => rfl) (Int.le_of_lt c3'), by omega, by omega, fun i i1 i2 => by rw [show i = lo + (x + 1) - 1 by omega]⟩
    · have c3' := Int.not_lt.mp fun z => c3 (decide_eq_true z)
      refine wpS_bind (wpS_ltX hk (hI.perm zp) (by show lo + x - 1 < zs.size; omega) (by show lo + x < zs.size; omega) ?_)
      refine wpS_ite' (c := decide (K zs (lo + x - 1) < K zs (lo + x)) = true) (fun c4 => wpS_pure ⟨zs, x, neq, rfl, rfl, zp, zl, zd, by omega, z1, z2, z3⟩) (fun c4 => ?_)
      have c4' := Int.not_lt.mp fun z => c4 (decide_eq_true z)
      have ex : K zs (lo + x) = K zs (lo + x - 1) := by omega
      refine wpS_pure ⟨zs, neq + 1, rfl, rfl, zp, zl, grow _ (fun _ => rfl) c4', by omega, by omega, fun i i1 i2 => ?_⟩
      rw [show lo + (x + 1) - 1 = lo + x by omega]
      by_cases hi : i = lo + x
      · rw [hi]
      · rw [ex]; exact z3 i (by omega) (by omega)
  · rintro c st' ⟨zs, neq, rfl, rfl, zp, zl, zd, z1, z2, z3⟩
    have e : max (n + 1) nrem = nrem := by omega
    rw [e] at zd z2 z3
    exact ⟨zs, nrem, neq, rfl, by rw [e], zp, zl, zd, h1, Nat.le_refl _, z2, z3⟩
  rintro c st' ⟨zs, m, neq, rfl, rfl, zp, zl, zd, m1, z1, z2, z3⟩
  have zz : zs.size = xs.size := zp.size_eq
  dsimp (config := { zeta := false, zetaHave := false, zetaUnused := false }) only
  extract_lets
  rename_i jp2
  suffices hj2 : ∀ us, us.Perm xs → (∀ k, k < lo → K us k = K xs k) → DecIn us lo (lo + m) → wpS (model prog w) A E s (jp2 ()) Q (setArr st us) by
    have e := K_mirror_equal (i := lo + m - (neq + 1)) (j := lo + m) (xs := zs) (by omega) z3
    refine wpS_ite' (fun c4 => ?_) (fun c4 => hj2 zs zp zl zd)
    exact wpS_bind (wpS_modify (hj2 (mirror zs (lo + m - (neq + 1)) (lo + m) ((lo + m - (lo + m - (neq + 1))) / 2)) ((mirror_perm _ _ _ _).trans zp) (fun k hk' => by rw [e]; exact zl k hk') (fun p q p1 p2 p3 => by rw [e, e]; exact zd p q p1 p2 p3)))
  intro us up ul ud
  have uz : us.size = xs.size := up.size_eq
  refine wpS_bind (wpS_modify ?_)
  have hm := K_mirror (xs := us) (i := lo) (j := lo + m) (by omega)
  have vs : SortedIn (mirror us lo (lo + m) ((lo + m - lo) / 2)) lo (lo + m) := fun p q p1 p2 p3 => by
    rw [hm, hm, if_pos ⟨p1, by omega⟩, if_pos ⟨by omega, p3⟩]
    exact ud _ _ (by omega) (by omega) (by omega)
  have vl : ∀ k, k < lo → K (mirror us lo (lo + m) ((lo + m - lo) / 2)) k = K xs k := fun k hk' => by
    rw [hm, if_neg (by omega)]; exact ul k hk'
  have vp : (mirror us lo (lo + m) ((lo + m - lo) / 2)).Perm xs := (mirror_perm _ _ _ _).trans up
  show wpS _ _ _ _ _ _ (setArr st (mirror us lo (lo + m) ((lo + m - lo) / 2)))
  generalize mirror us lo (lo + m) ((lo + m - lo) / 2) = vv at vs vl vp
  have vz : vv.size = xs.size := vp.size_eq
  refine wpS_bind (wpS_mono (wpS_forRange
    (I := fun x c st' => setArr st vv = st' ∧ c = (none, x) ∧ x ≤ nrem ∧ SortedIn vv lo (lo + x))
    (Q := fun c st' => setArr st vv = st' ∧ ∃ n, c = (none, n) ∧ 1 ≤ n ∧ n ≤ nrem ∧ SortedIn vv lo (lo + n))
    ?_ ?_ ⟨rfl, rfl, z1, vs⟩) ?_)
  · rintro x c st' hx1 hx2 ⟨rfl, rfl, hx, hs'⟩
    have hx1' : m ≤ x := hx1
    refine wpS_bind (wpS_ltX hk (hI.perm vp) (by show lo + x < vv.size; omega) (by show lo + x - 1 < vv.size; omega) ?_)
    refine wpS_ite' (c := decide (K vv (lo + x) < K vv (lo + x - 1)) = true) (fun c1 => wpS_pure ⟨rfl, x, rfl, by omega, by omega, hs'⟩) (fun c1 => wpS_pure ⟨rfl, rfl, by omega, fun p q p1 p2 p3 => ?_⟩)
    have c1' : K vv (lo + x - 1) ≤ K vv (lo + x) := Int.not_lt.mp fun z => c1 (decide_eq_true z)
    by_cases hq : q < lo + x
    · exact hs' p q p1 p2 hq
    · have : q = lo + x := by omega
      subst this
      by_cases hp : p = lo + x
      · subst hp; exact Int.le_refl _
      · exact Int.le_trans (hs' p (lo + x - 1) p1 (by omega) (by omega)) c1'
  · rintro c st' ⟨rfl, rfl, hx, hs'⟩
    have e : max m nrem = nrem := by omega
    rw [e] at hs'
    exact ⟨rfl, nrem, by rw [e], h1, Nat.le_refl _, hs'⟩
  · rintro c st' ⟨rfl, n', rfl, n1', n2', hs'⟩
    exact wpS_pure (h n' vv vp vl n1' n2' hs')
end
end Srt

set_option maxHeartbeats 4000000
namespace Srt
open PySem PyProof PyProof.Rows

/-- the runs that wait: each begins where the one ahead of it ends, and each is sorted -/
def Chain (xs : Array Keyed) : Nat → List (Nat × Nat × Nat) → Nat → Prop
  | a, [], b => a = b
  | a, p :: l, b => p.1 = a ∧ 1 ≤ p.2.1 ∧ SortedIn xs a (a + p.2.1) ∧ Chain xs (a + p.2.1) l b
theorem Chain.len {xs : Array Keyed} : ∀ {l : List (Nat × Nat × Nat)} {a b : Nat}, Chain xs a l b → a + l.length ≤ b
  | [], a, b, h => by cases h; exact Nat.le_refl _
  | p :: l, a, b, h => by
    have := Chain.len h.2.2.2
    have := h.2.1
    rw [List.length_cons]; omega
theorem Chain.congr {xs ys : Array Keyed} : ∀ {l : List (Nat × Nat × Nat)} {a b : Nat}, Chain xs a l b → (∀ k, a ≤ k → k < b → K ys k = K xs k) → Chain ys a l b
  | [], a, b, h, _ => h
  | p :: l, a, b, h, e => by
    have hl := Chain.len h.2.2.2
    exact ⟨h.1, h.2.1, fun i j i1 i2 i3 => by rw [e i (by omega) (by omega), e j (by omega) (by omega)]; exact h.2.2.1 i j i1 i2 i3, Chain.congr h.2.2.2 fun k k1 k2 => e k (by omega) k2⟩
theorem Chain.app {xs : Array Keyed} : ∀ {l m : List (Nat × Nat × Nat)} {a b c : Nat}, Chain xs a l b → Chain xs b m c → Chain xs a (l ++ m) c
  | [], m, a, b, c, h, g => by cases h; exact g
  | p :: l, m, a, b, c, h, g => ⟨h.1, h.2.1, h.2.2.1, Chain.app h.2.2.2 g⟩
theorem Chain.split {xs : Array Keyed} : ∀ {l m : List (Nat × Nat × Nat)} {a c : Nat}, Chain xs a (l ++ m) c → ∃ b, Chain xs a l b ∧ Chain xs b m c
  | [], m, a, c, h => ⟨a, rfl, h⟩
  | p :: l, m, a, c, h => by
    obtain ⟨b, h1, h2⟩ := Chain.split h.2.2.2
    exact ⟨b, ⟨h.1, h.2.1, h.2.2.1, h1⟩, h2⟩
/-- the powers don't matter -/
theorem Chain.pw {xs : Array Keyed} : ∀ {l m : List (Nat × Nat × Nat)} {a b : Nat}, l.map (fun p => (p.1, p.2.1)) = m.map (fun p => (p.1, p.2.1)) → Chain xs a l b → Chain xs a m b
  | [], [], a, b, _, h => h
  | [], q :: m, a, b, e, h => by cases e
  | p :: l, [], a, b, e, h => by cases e
  | p :: l, q :: m, a, b, e, h => by
    rw [List.map_cons, List.map_cons] at e
    obtain ⟨e1, e2⟩ := List.cons.inj e
    have e3 := (Prod.mk.inj e1)
    refine ⟨e3.1 ▸ h.1, e3.2 ▸ h.2.1, e3.2 ▸ h.2.2.1, ?_⟩
    rw [← e3.2]
    exact Chain.pw e2 h.2.2.2

theorem split_two {α : Type} {l : List α} {i : Nat} (h : i + 1 < l.length) : ∃ l1 x y l2, l = l1 ++ x :: y :: l2 ∧ l1.length = i := by
  refine ⟨l.take i, l[i], l[i+1], l.drop (i + 2), ?_, by rw [List.length_take]; omega⟩
  rw [← List.drop_eq_getElem_cons, ← List.drop_eq_getElem_cons, List.take_append_drop]

theorem merged_list {α : Type} {pd : Array α} {l1 l2 : List α} {x y z : α} (h : pd.toList = l1 ++ x :: y :: l2) :
    ((pd.setIfInBounds l1.length z).eraseIdxIfInBounds (l1.length + 1)).toList = l1 ++ z :: l2 := by
  have hz : pd.size = l1.length + (l2.length + 2) := by rw [← Array.length_toList, h, List.length_append]; rfl
  rw [Array.eraseIdxIfInBounds, dif_pos (by rw [Array.size_setIfInBounds]; omega), Array.toList_eraseIdx, Array.toList_setIfInBounds, h]
  rw [List.set_append_right _ _ (Nat.le_refl _), Nat.sub_self, List.set_cons_zero, List.eraseIdx_append_of_length_le (by omega)]
  rw [show l1.length + 1 - l1.length = 1 by omega]
  rfl

structure SB (a₀ : Array Keyed) (st : SortSt) (lo : Nat) : Prop where
  perm : (arrOf st).Perm a₀
  kind : kindOf st = oneType'
  failed : failedOf st = none
  chain : Chain (arrOf st) 0 (pendingOf st).toList lo
  le : lo ≤ a₀.size

section
variable {prog : Program} {w : World} {A : Around} {E : Value → Shared → Prop} {s : Shared} {a₀ : Array Keyed}

theorem wpS_mergeC {st : SortSt} {i lo : Nat} {Q : Bool → SortSt → Prop} (h0 : AllI a₀) (hB : SB a₀ st lo) (hi : i + 1 < (pendingOf st).size)
    (h : ∀ st', SB a₀ st' lo → (pendingOf st').size + 1 = (pendingOf st).size → (∀ k, lo ≤ k → K (arrOf st') k = K (arrOf st) k) → Q true st') :
    wpS (model prog w) A E s (mergeAt' i) Q st := by
  obtain ⟨l1, ⟨sa, na, pw⟩, ⟨sb, nb, pw2⟩, l2, hl, rfl⟩ := split_two (l := (pendingOf st).toList) (by rw [Array.length_toList]; exact hi)
  have hc := hB.chain
  rw [hl] at hc
  obtain ⟨b, c1, e1, n1, s1, e2, n2, s2, c2⟩ := hc.split
  dsimp only at e1 n1 s1 e2 n2 s2 c2
  subst e1
  subst e2
  have hl2 := c2.len
  have hsz : (arrOf st).size = a₀.size := hB.perm.size_eq
  have hle := hB.le
  refine wpS_mergeAt (sa := sa) (na := na) (sb := sa + na) (nb := nb) (pw := pw) (pw2 := pw2) hB.kind hB.failed (h0.perm hB.perm) ?_ ?_ rfl n1 n2 (by omega) s1 s2 fun xs g xp xs1 xk => ?_
  · rw [← Array.getElem?_toList, hl, List.getElem?_append_right (Nat.le_refl _), Nat.sub_self]; rfl
  · rw [← Array.getElem?_toList, hl, List.getElem?_append_right (by omega), show l1.length + 1 - l1.length = 1 by omega]; rfl
  have hm := merged_list (z := (sa, na + nb, pw)) hl
  refine h _ ⟨xp.trans hB.perm, rfl, rfl, ?_, hle⟩ ?_ fun k hk => xk k (.inr (by omega))
  · show Chain xs 0 (((pendingOf st).setIfInBounds l1.length (sa, na + nb, pw)).eraseIdxIfInBounds (l1.length + 1)).toList lo
    rw [hm]
    refine (c1.congr fun k _ k2 => xk k (.inl k2)).app ⟨rfl, by dsimp only; omega, ?_, ?_⟩
    · dsimp only
      rw [← Nat.add_assoc]; exact xs1
    · dsimp only
      rw [← Nat.add_assoc]; exact c2.congr fun k k1 _ => xk k (.inr k1)
  · show (((pendingOf st).setIfInBounds l1.length (sa, na + nb, pw)).eraseIdxIfInBounds (l1.length + 1)).size + 1 = _
    rw [← Array.length_toList, hm, ← Array.length_toList, hl, List.length_append, List.length_append]
    rfl

theorem wpS_binarySortX {st : SortSt} {xs : Array Keyed} {lo n ok : Nat} {Q : Bool → SortSt → Prop} (hk : kindOf st = oneType') (hI : AllI xs) (hn : lo + n ≤ xs.size) (hok : ok ≤ n) (h1 : 1 ≤ ok) (hs : SortedIn xs lo (lo + ok))
    (h : ∀ ys, ys.Perm xs → (∀ k, k < lo → K ys k = K xs k) → SortedIn ys lo (lo + n) → Q true (setArr st ys)) : wpS (model prog w) A E s (binarySort' lo n ok) Q (setArr st xs) := by
  rw [binarySort'_eq]
  refine wpS_bind (wpS_mono (wpS_forRange (I := fun k c st' => ∃ ys, c = (none, ()) ∧ setArr st ys = st' ∧ ys.Perm xs ∧ (∀ k, k < lo → K ys k = K xs k) ∧ SortedIn ys lo (lo + min k n))
    (Q := fun c st' => ∃ ys, c = (none, ()) ∧ setArr st ys = st' ∧ ys.Perm xs ∧ (∀ k, k < lo → K ys k = K xs k) ∧ SortedIn ys lo (lo + n)) ?step ?fin ?init) ?post)
  case post =>
    rintro c st' ⟨ys, rfl, rfl, yp, yl, ys1⟩
    exact wpS_pure (h ys yp yl ys1)
  case init => exact ⟨xs, rfl, rfl, Array.Perm.refl _, fun _ _ => rfl, by rw [show min (max ok 1) n = ok by omega]; exact hs⟩
  case fin =>
    rintro c st' ⟨ys, hc, he, yp, yl, ys1⟩
    refine ⟨ys, hc, he, yp, yl, ?_⟩
    rwa [show min (max (max ok 1) n) n = n by omega] at ys1
  case step =>
    rintro k c st' hak hkn ⟨ys, rfl, rfl, yp, yl, hs'⟩
    rw [show min k n = k by omega] at hs'
    have yz : ys.size = xs.size := yp.size_eq
    have hkz : lo + k < ys.size := by omega
    refine wpS_bind (wpS_mono (wpS_forRange (I := fun x c st'' => setArr st ys = st'' ∧ ∃ l r, c = (none, l, r) ∧ l ≤ r ∧ r ≤ k ∧ r - l ≤ k - x ∧
        (∀ i, i < l → K ys (lo + i) ≤ K ys (lo + k)) ∧ (∀ i, r ≤ i → i < k → K ys (lo + k) < K ys (lo + i)))
      (Q := fun c st'' => setArr st ys = st'' ∧ ∃ l r, c = (none, l, r) ∧ l ≤ k ∧
        (∀ i, i < l → K ys (lo + i) ≤ K ys (lo + k)) ∧ (∀ i, l ≤ i → i < k → K ys (lo + k) < K ys (lo + i))) ?istep ?ifin ?iinit) ?ipost)
    case iinit => exact ⟨rfl, 0, k, rfl, by omega, by omega, by omega, fun i hi => by omega, fun i h1 h2 => by omega⟩
    case ifin =>
      rintro c st'' ⟨rfl, l, r, rfl, hlr, hrk, hm, hlo, hhi⟩
      have : l = r := by omega
      subst this
      exact ⟨rfl, l, l, rfl, hrk, hlo, hhi⟩
    case istep =>
      rintro x c st'' _ hxk ⟨rfl, l, r, rfl, hlr, hrk, hm, hlo, hhi⟩
      refine wpS_ite' (c := l ≥ r) (fun hge => ?_) (fun hge => ?_)
      · have : l = r := by omega
        subst this
        exact wpS_pure ⟨rfl, l, l, rfl, hrk, hlo, hhi⟩
      · refine wpS_bind (wpS_ltX hk (hI.perm yp) hkz (by show lo + (l + r) / 2 < ys.size; omega) ?_)
        refine wpS_ite' (c := decide (K ys (lo + k) < K ys (lo + (l + r) / 2)) = true) (fun c1 => ?_) (fun c1 => ?_)
        · have hless := of_decide_eq_true c1
          refine wpS_pure ⟨rfl, l, (l + r) / 2, rfl, by omega, by omega, by omega, hlo, fun i h1 h2 => ?_⟩
          exact Int.lt_of_lt_of_le hless (hs' _ _ (by omega) (by omega) (by omega))
        · have hless := Int.not_lt.mp fun z => c1 (decide_eq_true z)
          refine wpS_pure ⟨rfl, (l + r) / 2 + 1, r, rfl, by omega, by omega, by omega, fun i h1 => ?_, hhi⟩
          exact Int.le_trans (hs' (lo + i) (lo + (l + r) / 2) (by omega) (by omega) (by omega)) hless
    case ipost =>
      rintro c st'' ⟨rfl, l, r, rfl, hlk, hlo, hhi⟩
      refine wpS_bind (wpS_modify (wpS_pure ⟨bubble ys (lo + k) (lo + k - (lo + l)), rfl, rfl, (bubble_perm _ _ _).trans yp, fun i hi => ?_, ?_⟩))
      · rw [K_bubble hkz (by omega), if_neg (by omega), if_neg (by omega)]; exact yl i hi
      rw [show min (k + 1) n = k + 1 by omega]
      intro i j i1 hij hj
      rw [K_bubble hkz (by omega), K_bubble hkz (by omega), show lo + k - (lo + k - (lo + l)) = lo + l by omega]
      have lo' : ∀ i, lo ≤ i → i < lo + l → K ys i ≤ K ys (lo + k) := fun i a b => by
        have := hlo (i - lo) (by omega)
        rwa [show lo + (i - lo) = i by omega] at this
      have hi' : ∀ i, lo + l ≤ i → i < lo + k → K ys (lo + k) ≤ K ys i := fun i a b => by
        have := hhi (i - lo) (by omega) (by omega)
        rw [show lo + (i - lo) = i by omega] at this
        exact Int.le_of_lt this
      repeat' split
      all_goals first
        | (exfalso; omega)
        | exact Int.le_refl _
        | exact lo' _ (by omega) (by omega)
        | exact hi' _ (by omega) (by omega)
        | exact hs' _ _ (by omega) (by omega) (by omega)
end
end Srt

set_option maxHeartbeats 4000000
namespace Srt
open PySem PyProof PyProof.Rows

section
variable {prog : Program} {w : World} {A : Around} {E : Value → Shared → Prop} {s : Shared} {a₀ : Array Keyed}

theorem wpS_sortRunsX {st : SortSt} {Q : Unit → SortSt → Prop} (h0 : AllI a₀) (hB : SBase a₀ st)
    (h : ∀ st', (arrOf st').Perm a₀ → failedOf st' = none → SortedTo (arrOf st') a₀.size → Q () st') : wpS (model prog w) A E s sortRuns' Q st := by
  rw [sortRuns'_eq]
  refine wpS_bind (wpS_get ?_)
  have hz := hB.size
  extract_lets size mr
  have hz' : size = a₀.size := hz
  clear_value size mr
  subst hz'
  have hS0 : SB a₀ st 0 := ⟨hB.perm, hB.kind, hB.failed, by rw [hB.pend]; rfl, Nat.zero_le _⟩
  refine wpS_bind (wpS_mono (wpS_forRange
    (I := fun x c st' => ∃ lo, c = (none, lo) ∧ x ≤ lo ∧ SB a₀ st' lo)
    (Q := fun c st' => c = (none, a₀.size) ∧ SB a₀ st' a₀.size) ?step ?fin ⟨0, rfl, Nat.le_refl _, hS0⟩) ?post)
  case fin =>
    rintro c st' ⟨lo, rfl, h1, h2⟩
    have := h2.le
    have : lo = a₀.size := by omega
    subst this
    exact ⟨rfl, h2⟩
  case step =>
    rintro x c st' _ hx ⟨lo, rfl, hxl, hS⟩
    have hle := hS.le
    dsimp (config := { zeta := false, zetaHave := false, zetaUnused := false }) only
    refine wpS_ite' (c := lo ≥ a₀.size) (fun c1 => ?_) (fun c1 => ?_)
    · have : lo = a₀.size := by omega
      subst this
      exact wpS_pure ⟨rfl, hS⟩
    have hsz : (arrOf st').size = a₀.size := hS.perm.size_eq
    obtain ⟨R, hR⟩ : ∃ R : ForInStep (Option Unit × Nat) → SortSt → Prop, R = fun r st'' => ∃ lo, r = ForInStep.yield (none, lo) ∧ x + 1 ≤ lo ∧ SB a₀ st'' lo := ⟨_, rfl⟩
    refine wpS_mono (Q := R) ?_ (by rw [hR]; rintro r st'' ⟨lo, rfl, h1, h2⟩; exact ⟨lo, rfl, h1, h2⟩)
    refine wpS_bind (wpS_countRunX (st := st') (xs := arrOf st') hS.kind (h0.perm hS.perm) (by omega) (by omega) fun m ys yp yl m1 m2 ys1 => ?_)
    dsimp (config := { zeta := false, zetaHave := false, zetaUnused := false }) only
    extract_lets n jp force nf
    have hn : n = m := rfl
    clear_value n
    subst hn
    suffices hj : ∀ (n' : Nat) (zs : Array Keyed), zs.Perm (arrOf st') → (∀ k, k < lo → K zs k = K (arrOf st') k) → SortedIn zs lo (lo + n') → 1 ≤ n' → lo + n' ≤ a₀.size →
        wpS (model prog w) A E s (jp () n') R (setArr st' zs) by
      refine wpS_ite' (fun c2 => ?_) (fun c2 => hj n ys yp yl ys1 m1 (by omega))
      refine wpS_bind (wpS_lift (wpAny_rule ⟨rfl, ?_⟩))
      have hf : force = min (a₀.size - lo) mr := rfl
      have yz : ys.size = (arrOf st').size := yp.size_eq
      refine wpS_bind (wpS_binarySortX hS.kind ((h0.perm hS.perm).perm yp) (by omega) (by omega) m1 ys1 fun zs zp zl zs1 => ?_)
      exact hj force zs (zp.trans yp) (fun k hk => (zl k hk).trans (yl k hk)) zs1 (by omega) (by omega)
    clear ys yp yl ys1 m1 m2
    intro n' zs zp zl zs1 n1 n2
    have hS1 : SB a₀ (setArr st' zs) lo := ⟨zp.trans hS.perm, hS.kind, hS.failed, hS.chain.congr fun k _ hk => zl k hk, hle⟩
    have hs2 : SortedIn (arrOf (setArr st' zs)) lo (lo + n') := zs1
    generalize setArr st' zs = st2 at hS1 hs2
    clear zs zp zl zs1
    refine wpS_bind (wpS_get ?_)
    extract_lets lo2 jp2
    suffices hj2 : ∀ st3, SB a₀ st3 lo → SortedIn (arrOf st3) lo (lo + n') → wpS (model prog w) A E s (jp2 ()) R st3 by
      cases hb : (pendingOf st2).back? with
      | none => exact hj2 st2 hS1 hs2
      | some p =>
        obtain ⟨p1, p2, p3⟩ := p
        dsimp (config := { zeta := false, zetaHave := false, zetaUnused := false }) only
        extract_lets pw
        clear_value pw
        refine wpS_bind (wpS_mono (wpS_forRange (I := fun x c st'' => c = (none, ()) ∧ SB a₀ st'' lo ∧ SortedIn (arrOf st'') lo (lo + n')) (Q := fun c st'' => c = (none, ()) ∧ SB a₀ st'' lo ∧ SortedIn (arrOf st'') lo (lo + n')) ?_ (fun _ _ hh => hh) ⟨rfl, hS1, hs2⟩) ?_)
        · rintro y c st3 _ hy ⟨rfl, hS3, hs3⟩
          refine wpS_bind (wpS_get ?_)
          extract_lets p
          by_cases hp : p.size > 1
          · have hl : p.size - 2 < p.size := by omega
            rw [if_pos hp, Array.getElem?_eq_getElem hl]
            dsimp (config := { zeta := false, zetaHave := false, zetaUnused := false }) only
            refine wpS_ite' (fun c3 => wpS_pure ⟨rfl, hS3, hs3⟩) (fun c3 => ?_)
            refine wpS_bind (wpS_mergeC h0 hS3 (show p.size - 2 + 1 < p.size by omega) fun st4 hS4 hp4 hk4 => ?_)
            exact wpS_pure ⟨rfl, hS4, fun i j i1 i2 i3 => by rw [hk4 i i1, hk4 j (by omega)]; exact hs3 i j i1 i2 i3⟩
          · rw [if_neg hp]
            exact wpS_pure ⟨rfl, hS3, hs3⟩
        · rintro c st3 ⟨rfl, hS3, hs3⟩
          refine wpS_bind (wpS_modify (hj2 _ ⟨hS3.perm, hS3.kind, hS3.failed, ?_, hle⟩ hs3))
          refine hS3.chain.pw ?_
          show _ = ((pendingOf st3).modify _ _).toList.map _
          rw [Array.toList_modify]
          generalize (pendingOf st3).toList = l
          generalize (pendingOf st3).size - 1 = i
          apply List.ext_getElem?
          intro k
          rw [List.getElem?_map, List.getElem?_map, List.getElem?_modify]
          cases l[k]? with
          | none => rfl
          | some q =>
            by_cases e : i = k
            · simp [e]
            · simp [e]
    intro st3 hS3 hs3
    refine wpS_bind (wpS_modify (wpS_pure ?_))
    rw [hR]
    refine ⟨lo + n', rfl, by omega, hS3.perm, hS3.kind, hS3.failed, ?_, n2⟩
    show Chain (arrOf st3) 0 ((pendingOf st3).push (lo, n', 0)).toList (lo + n')
    rw [Array.toList_push]
    exact hS3.chain.app ⟨rfl, n1, hs3, rfl⟩
  case post =>
    rintro c st' ⟨rfl, hS⟩
    dsimp (config := { zeta := false, zetaHave := false, zetaUnused := false }) only
    refine wpS_bind (wpS_mono (wpS_forRange (I := fun x c st'' => c = (none, ()) ∧ SB a₀ st'' a₀.size ∧ (pendingOf st'').size + x ≤ a₀.size) (Q := fun c st'' => c = (none, ()) ∧ SB a₀ st'' a₀.size ∧ (pendingOf st'').size ≤ 1) ?_ ?_ ?_) ?_)
    · rintro x c st'' _ hx ⟨rfl, hS', hp⟩
      refine wpS_bind (wpS_get ?_)
      refine wpS_ite' (c := (pendingOf st'').size ≤ 1) (fun c1 => wpS_pure ⟨rfl, hS', c1⟩) (fun c1 => ?_)
      extract_lets i before i'
      have hi' : i' + 1 < (pendingOf st'').size := by
        have : i' = i - 1 ∨ i' = i := by
          show (if _ then i - 1 else i) = i - 1 ∨ (if _ then i - 1 else i) = i
          split
          · exact .inl rfl
          · exact .inr rfl
        have hi : i = (pendingOf st'').size - 2 := rfl
        omega
      clear_value i'
      refine wpS_bind (wpS_mergeC h0 hS' hi' fun st3 hS3 hp3 _ => ?_)
      exact wpS_pure ⟨rfl, hS3, by omega⟩
    · rintro c st'' ⟨hc, hS', hp⟩
      have : max 0 a₀.size = a₀.size := by omega
      rw [this] at hp
      exact ⟨hc, hS', by omega⟩
    · have := hS.chain.len
      rw [Array.length_toList] at this
      exact ⟨rfl, hS, by omega⟩
    · rintro c st'' ⟨rfl, hS', hp⟩
      refine wpS_pure (h _ hS'.perm hS'.failed ?_)
      have hc := hS'.chain
      have hl : (pendingOf st'').toList.length ≤ 1 := by rw [Array.length_toList]; exact hp
      generalize (pendingOf st'').toList = l at hc hl
      match l, hc, hl with
      | [], hc, _ =>
        have : a₀.size = 0 := hc.symm
        intro i j _ hj; omega
      | [p], hc, _ =>
        obtain ⟨_, _, hs, e⟩ := hc
        have e' : 0 + p.2.1 = a₀.size := e
        intro i j hij hj
        exact hs i j (Nat.zero_le _) hij (by omega)
end
end Srt

set_option maxHeartbeats 4000000
set_option maxRecDepth 100000
namespace Srt
open PySem PyProof PyProof.Rows
section
variable {prog : Program} {w : World} {A : Around} {E : Value → Shared → Prop} {s : Shared}

theorem sort_any {a : Addr} {vs : List Value} {ns : List Int} {n : Nat} {P : Fin → Shared → Prop} (o0 : s.heap.get? a = some (seqObj "list" vs.toArray n)) (hI : IntsAre vs ns) (hz : vs.length ≤ sizeLine)
    (h : ∀ (out : Array Value) (ns' : List Int), IntsAre out.toList ns' → ns'.Perm ns → ns'.Pairwise (· ≤ ·) → P (.done (.ret .none)) { s with heap := sortedHeap s.heap a vs out }) :
    wpAny (model prog w) A (Builtin.«list.sort» ⟨[.ref a], []⟩) P E s := by
  rw [list_sort_plain]
  have la : a < s.heap.objs.size := Heap.lt_size o0
  obtain ⟨e1, o1⟩ : ∃ e, (s.heap.update a (Obj.mapSeq fun _ => #[])).get? a = some (seqObj "list" #[] e) := ⟨_, get?_update_seq o0 _⟩
  have o6 : (((s.heap.update a (Obj.mapSeq fun _ => #[])).push (seqObj "tuple" vs.toArray 0)).push (seqObj "list" #[] 0)).get? a = some (seqObj "list" #[] e1) := by
    rwa [Heap.get?_push_ne _ _ _ (by rw [size_push', Heap.size_update]; exact Nat.ne_of_lt (Nat.lt_succ_of_lt la)), Heap.get?_push_ne _ _ _ (by rw [Heap.size_update]; exact Nat.ne_of_lt la)]
  refine wpAny_bind (listItems_at o0 rfl (wpAny_bind (listUpdate_at o0 rfl ?_ (by simpa using hz) (Nat.zero_le _))))
  refine wpAny_bind (seqEpoch_at o1 rfl (wpAny_bind (wpAny_newTuple (wpAny_bind (wpAny_newList (wpAny_holding ?_))))))
  have fit : ∀ xs : Array Keyed, xs.Perm (pairsOf vs) → (xs.map (·.2)).size ≤ sizeLine := fun xs p => Nat.le_trans (Nat.le_of_eq ((Array.size_map ..).trans (p.size_eq.trans (pairsOf_size vs)))) hz
  have fin : ∀ xs : Array Keyed, xs.Perm (pairsOf vs) → SortedTo xs (pairsOf vs).size → P (.done (.ret .none)) { s with heap := sortedHeap s.heap a vs (xs.map (·.2)) } := fun xs p so => by
    obtain ⟨ms, m1, m2, m3⟩ := sorted_out hI p so
    exact h _ ms m1 m2 m3
  by_cases c : vs.toArray.size < 2
  · rw [if_pos c, if_pos c]
    refine wpAny_bind (wpAny_pure (wpAny_bind (wpAny_pure ?_)))
    refine wpAny_bind (seqEpoch_at o6 rfl (wpAny_bind (listUpdate_at o6 rfl ?_ (Nat.zero_le _) (Nat.le_succ_of_le (fit _ (Array.Perm.refl _))))))
    simp only [bne_self_eq_false, Bool.false_eq_true, if_false]
    refine wpAny_pure (fin (pairsOf vs) (Array.Perm.refl _) fun i j i1 i2 => ?_)
    have hl : vs.length < 2 := by simpa using c
    have : i = j := by rw [pairsOf_size] at i2; omega
    subst this
    exact Int.le_refl _
  · rw [if_neg c, if_neg c]
    obtain ⟨x, y, r, rfl⟩ : ∃ x y r, vs = x :: y :: r := by
      cases vs with
      | nil => exact absurd (show 0 < 2 by decide) c
      | cons x r => cases r with
        | nil => exact absurd (show 1 < 2 by decide) c
        | cons y r => exact ⟨x, y, r, rfl⟩
    rw [keyKind_ints hI]
    refine wpAny_bind (wpAny_pure (wpAny_bind (wpAny_mono (wpS_sortRunsX (a₀ := pairsOf (x :: y :: r)) (st := SortSt.mk' oneType' (pairsOf (x :: y :: r)) #[] 7 none)
      (Q := fun _ st' => (arrOf st').Perm (pairsOf (x :: y :: r)) ∧ failedOf st' = none ∧ SortedTo (arrOf st') (pairsOf (x :: y :: r)).size) hI.intKeys ⟨Array.Perm.refl _, rfl, rfl, rfl⟩ fun _ b1 b2 b3 => ⟨b1, b2, b3⟩) ?_ fun _ _ e => e)))
    rintro ⟨u, st'⟩ s' ⟨rfl, b1, b2, b3⟩
    refine wpAny_bind (seqEpoch_at o6 rfl (wpAny_bind (listUpdate_at o6 rfl ?_ (Nat.zero_le _) (Nat.le_succ_of_le (fit _ b1)))))
    rw [b2]
    simp only [bne_self_eq_false, Bool.false_eq_true, if_false]
    exact wpAny_pure (fin _ b1 b3)

theorem sorted_any {l : Addr} {vs : List Value} {ns : List Int} {Q : Value → Shared → Prop} (hl : s.heap.IsList l vs.toArray) (hI : IntsAre vs ns) (hz : vs.length ≤ sizeLine)
    (h : ∀ (out : Array Value) (ns' : List Int), IntsAre out.toList ns' → ns'.Perm ns → ns'.Pairwise (· ≤ ·) → Q (.ref (s.heap.objs.size + 1)) { s with heap := sortedAll s.heap vs out }) :
    wpAny (model prog w) A (call (.builtin "sorted") [.ref l]) Q E s := by
  have ez : ((s.heap.push (seqObj "list" #[] 0)).update s.heap.objs.size (Obj.mapSeq (· ++ vs.toArray))).objs.size = s.heap.objs.size + 1 := by rw [Heap.size_update, size_push']
  have oL : (((s.heap.push (seqObj "list" #[] 0)).update s.heap.objs.size (Obj.mapSeq (· ++ vs.toArray))).push (seqObj "list" vs.toArray 0)).get? (s.heap.objs.size + 1) = some (seqObj "list" vs.toArray 0) := by
    rw [← ez]; exact Heap.get?_push_size _ rfl
  refine Calls.call_function_entry kind_sorted plain_sorted entry_sorted (args_sorted1 _) (wpAny_bind (m := checkCount "sorted" 1 1 _) (wpAny_pure (wpAny_bind (collect_list hl ?_ hz))))
  refine wpAny_bind (wpAny_newList ?_)
  rw [ez]
  refine wpAny_bind (wpAny_holding (wpAny_call_entry slot_list_sort ⟨_, oL, rfl⟩ entry_list_sort (sort_any oL hI hz fun out ns' a1 a2 a3 => ⟨_, rfl, ?_⟩) (args_list_sort _)))
  exact wpAny_pure ⟨_, rfl, h out ns' a1 a2 a3⟩
end
end Srt
namespace L2
open PySem PySem.Spec PyProof.Rows
variable {X : Cx}
/-- sorted of a list of ints, however long -/
theorem call_sortedB : CallR X (.builtin "sorted") (fun xs H Q => ∃ (p : Addr) (ns : List Int), xs = [.ref p] ∧ SqL X.K H p (ns.map V.int) ∧ ∀ ms : List Int, ms.Perm ns → ms.Pairwise (· ≤ ·) → ∀ l, H l = none → Q (.ref l) (upd H l (.lst (ms.map V.int)))) := by
  intro pins s σ H xs us Q I r h
  obtain ⟨p, ns, rfl, hq, q⟩ := h
  obtain ⟨u, rfl, rx⟩ := vals1 r
  cases rx
  obtain ⟨its, rv, pl, hz'⟩ := I.list hq
  have hlen := rv.length
  rw [List.length_map] at hlen hz'
  refine Srt.sorted_any pl.isList (intsAre_of rv) (by omega) fun out ms a1 a2 a3 => ?_
  obtain ⟨e, he⟩ := sortedAll_at s.heap its out
  have hm : ms.length = ns.length := a2.length_eq
  refine ⟨.ref (s.heap.objs.size + 1), _, I.laid (t' := s.toks) (fun b o => sortedAll_old) (Nat.le_succ _) (show ObjOk X.prog X.w _ _ _ (.lst (ms.map V.int)) from ⟨by rw [List.length_map, hm]; exact hz', out.toList, e, vals_ints a1, he⟩), rfl, q ms a2 a3 _ (I.hok.fresh (Nat.le_succ _))⟩
end L2

set_option maxRecDepth 100000
set_option maxHeartbeats 4000000
namespace Wd
open PySem L2 Ow
/-! ### sets counted by how many of some options they have, weighed -/
structure Bg where
  u : Nat
  lo : Int
  hi : Int
  ks : List Nat
def Bg.tie (b : Bg) : Tie := .bough b.u b.lo b.hi b.ks
/-! ### all sets of some options -/
/-! ### boughs taken one by one -/
end Wd

set_option maxRecDepth 100000
set_option maxHeartbeats 4000000
namespace L2
open PySem PySem.Spec PyProof.Rows

/-! ### zip of two lists -/
def ItzL (K : PySem.W.Frag) (a b : Addr) : It :=
  ⟨fun i H => ∃ xs ys x y, SqL K H a xs ∧ SqL K H b ys ∧ xs[i]? = some x ∧ ys[i]? = some y,
   fun i H v H' => ∃ T x y, v = .ref T ∧ H T = none ∧ H' = upd H T (.tup [x, y]) ∧ ∀ xs ys, SqL K H a xs → SqL K H b ys → xs[i]? = some x ∧ ys[i]? = some y,
   fun i H => ∃ xs ys, SqL K H a xs ∧ SqL K H b ys ∧ xs.length = i⟩
theorem turn_zipL {P : Program} {w : World} {K : PySem.W.Frag} {elts : List Expr} {k : Nat} {pos : Pos} {z ti to j1 j2 a b : Addr} (D : ZipApart z ti to j1 j2 a b) :
    Turn P w K (.Tuple elts k pos) (ItzL K a b) [z, ti, to, j1, j2] z (fun i h => (∃ old, IsZip h z ti to old ∧ old = .none) ∧ IsPair h ti (.ref j1) (.ref j2) ∧ (∃ u u2, IsPair h to u u2) ∧ h.IsListIter j1 a i ∧ h.IsListIter j2 b i) where
  mem := by simp
  obj := fun i h st c hc => by
    obtain ⟨⟨_, e1, _⟩, e2, ⟨u, u2, e3⟩, e4, e5⟩ := st
    simp only [List.mem_cons, List.not_mem_nil, or_false] at hc
    rcases hc with rfl | rfl | rfl | rfl | rfl
    · exact ⟨_, e1, fun v y => by cases (show Data.fields _ = Data.cell v from y)⟩
    · exact ⟨_, e2, fun v y => by cases (show Data.seq _ _ = Data.cell v from y)⟩
    · exact ⟨_, e3, fun v y => by cases (show Data.seq _ _ = Data.cell v from y)⟩
    · obtain ⟨o, e, _, d⟩ := e4
      exact ⟨o, e, fun v y => by rw [d] at y; cases y⟩
    · obtain ⟨o, e, _, d⟩ := e5
      exact ⟨o, e, fun v y => by rw [d] at y; cases y⟩
  keep := fun i h h' st kk => by
    obtain ⟨⟨o, e1, e1'⟩, e2, ⟨u, u2, e3⟩, e4, e5⟩ := st
    exact ⟨⟨o, kk z (by simp) _ e1, e1'⟩, kk ti (by simp) _ e2, ⟨u, u2, kk to (by simp) _ e3⟩, e4.at fun o q => kk j1 (by simp) o q, e5.at fun o q => kk j2 (by simp) o q⟩
  item := by
    intro X hP hw hK hc i pins s σ H E I hf st hg
    subst hP hw hK
    obtain ⟨⟨_, e1, rfl⟩, e2, ⟨u, u2, e3⟩, e4, e5⟩ := st
    obtain ⟨xs, ys, x, y, hx, hy, gx, gy⟩ := hg
    obtain ⟨ix, rx, px, _⟩ := I.list hx
    obtain ⟨iy, ry, py, _⟩ := I.list hy
    obtain ⟨ux, hux, rux⟩ := rx.get gx
    obtain ⟨uy, huy, ruy⟩ := ry.get gy
    have lz : z < s.heap.objs.size := Heap.lt_size e1
    refine wpAny_pyNext_zip_item D e1 e2 e3 e4 e5 px.isList py.isList (by rw [List.getElem?_toArray]; exact hux) (by rw [List.getElem?_toArray]; exact huy) fun g z1 t1 k1 k2 pT _ kk => ?_
    refine ⟨_, rfl, wpAny_letOwnedTupleGo_zip z1 fun g2 z2 sb => ?_⟩
    have I2 := I.turnedL (h' := g2) (t' := s.toks) (ch := [z, ti, to, j1, j2]) (T := s.heap.objs.size) hf (Nat.le_refl _) rux ruy (fun c o hc' q => by
      simp only [List.mem_cons, List.not_mem_nil, or_false, not_or] at hc'
      exact (sb.2 c hc'.1).trans (kk c o hc'.1 hc'.2.2.1 hc'.2.2.2.1 hc'.2.2.2.2 q)) ((sb.2 _ (Nat.ne_of_gt lz)).trans pT)
    refine ⟨.ref s.heap.objs.size, _, I2, rfl, ⟨_, x, y, rfl, I.hok.fresh (Nat.le_refl _), rfl, fun xs' ys' hx' hy' => by rw [I.list_inj hx' hx, I.list_inj hy' hy]; exact ⟨gx, gy⟩⟩, ?_, fun c hc' => ?_⟩
    · have at2 : ∀ {c o}, c ≠ z → g.get? c = some o → g2.get? c = some o := fun {c o} n q => (sb.2 c n).trans q
      exact ⟨⟨_, z2, rfl⟩, at2 D.TIz (kk _ _ D.TIz D.TITO D.TIi1 D.TIi2 e2), ⟨_, _, at2 D.TOz t1⟩, k1.at fun o q => at2 D.i1z q, k2.at fun o q => at2 D.i2z q⟩
    · have nz : H c = none := (hf c hc').1
      have cl : c < s.heap.objs.size := by
        simp only [List.mem_cons, List.not_mem_nil, or_false] at hc'
        rcases hc' with rfl | rfl | rfl | rfl | rfl
        · exact lz
        · exact Heap.lt_size e2
        · exact Heap.lt_size e3
        · obtain ⟨o, q, _⟩ := e4
          exact Heap.lt_size q
        · obtain ⟨o, q, _⟩ := e5
          exact Heap.lt_size q
      rw [upd_ne (Nat.ne_of_lt cl)]
      exact nz
  done := by
    intro X hP hw hK hc i pins s σ H E I hf st hg
    subst hP hw hK
    obtain ⟨⟨_, e1, rfl⟩, e2, ⟨u, u2, e3⟩, e4, e5⟩ := st
    obtain ⟨xs, ys, hx, hy, hi⟩ := hg
    obtain ⟨ix, rx, px, _⟩ := I.list hx
    obtain ⟨iy, ry, py, _⟩ := I.list hy
    have hl := rx.length
    refine wpAny_pyNext_zip_end (I.ok.hd hc) D e1 e2 e3 e4 e5 px.isList py.isList (.inl (by rw [List.getElem?_toArray]; exact List.getElem?_eq_none (by omega))) fun g kk => ⟨rfl, I.turnedE (t' := s.toks) (ch := [z, ti, to, j1, j2]) hf fun c o hc' q => ?_⟩
    simp only [List.mem_cons, List.not_mem_nil, or_false, not_or] at hc'
    exact kk c o hc'.1 hc'.2.2.1 hc'.2.2.2.1 hc'.2.2.2.2 q
  self := fun _ _ _ _ _ st h => by
    obtain ⟨⟨_, e1, _⟩, _⟩ := st
    exact wpAny_pyIter_zip e1 h
def iZipL (K : PySem.W.Frag) (ta : TA) : TI := fun σ H R => ta σ H fun vs H1 => ∃ a b : Addr, vs = [.ref a, .ref b] ∧ (∃ xs, SqL K H1 a xs) ∧ (∃ ys, SqL K H1 b ys) ∧ R (ItzL K a b) H1
theorem pi_zipL {X : Cx} {elts : List Expr} {k : Nat} {pos p pos' : Pos} {a b : Expr} {ta : TA} (hg : Gl X "zip") (hm : X.mg "zip" = none) (ha : PA X [a, b] ta) (hs : starEach [a, b] X.env = (false, eval a X.env) :: starEach [b] X.env := by rfl) (hpl : (backTo pos' (starEach [b] X.env)).any (·.1) = false := by rfl) :
    PI X (.Tuple elts k pos) (.Call (.Name "zip" p) [a, b] [] pos') (iZipL X.K ta) := by
  intro pins s σ H R I h
  refine Call_ (ld_blt I hg hm PyProof.Rows.boot_zip (PyProof.Rows.callWith_type1 (thn (ha pos' pins s σ H _ I h) fun us s1 ⟨vs, H1, I1, r1, q1⟩ => ?_) hs hpl))
  obtain ⟨ca, cb, rfl, ⟨xs, hx⟩, ⟨ys, hy⟩, q⟩ := q1
  cases r1 with
  | cons ra rb =>
    cases rb with
    | cons rb r0 =>
      cases r0
      cases ra
      cases rb
      obtain ⟨ix, rx, px, _⟩ := I1.list hx
      obtain ⟨iy, ry, py, _⟩ := I1.list hy
      have la : ca < s1.heap.objs.size := by obtain ⟨o, e, _⟩ := px.isList; exact Heap.lt_size e
      have lb : cb < s1.heap.objs.size := by obtain ⟨o, e, _⟩ := py.isList; exact Heap.lt_size e
      refine call_zip_2 px.isList py.isList fun g z1 t1 t2 k1 k2 _ kk => ?_
      refine wpAny_pyIter_zip z1 ?_
      generalize hn : s1.heap.objs.size = n at *
      have D := zip_apart n ca cb la lb
      refine ⟨n + 4, [n + 4, n + 2, n + 3, n, n + 1], _, _, H1, rfl, I1.kept (t' := s1.toks) kk, turn_zipL D, ⟨⟨_, z1, rfl⟩, t1, ⟨_, _, t2⟩, k1, k2⟩, fun d hd => ?_, q⟩
      have le : s1.heap.objs.size ≤ d := by
        rw [hn]
        simp only [List.mem_cons, List.not_mem_nil, or_false] at hd
        rcases hd with rfl | rfl | rfl | rfl | rfl
        · exact Nat.le_add_right _ _
        · exact Nat.le_add_right _ _
        · exact Nat.le_add_right _ _
        · exact Nat.le_refl _
        · exact Nat.le_add_right _ _
      exact I1.fpOk le (I1.hok.fresh le)
end L2

set_option maxRecDepth 100000
set_option maxHeartbeats 4000000
namespace Wd
open PySem L2 Ow
/-! ### the boughs in the order in which they are taken -/
/-! ### all sets, by their numbers -/
end Wd

set_option maxRecDepth 100000
set_option maxHeartbeats 4000000
namespace L2
open PySem PySem.Spec PyProof.Rows
/-! ### set(l) of a list of unlike whole numbers, and how many it has -/
section
variable {X : Cx}
end
end L2

set_option maxRecDepth 100000
set_option maxHeartbeats 4000000
namespace Wd
open PySem L2 Ow
theorem bgs_of {m : Nat} : ∀ {bs : List PyData}, (∀ b ∈ bs, isBough m b = true) → ∃ L : List Bg, bs = L.map (fun b => b.tie.toD) ∧ ∀ b ∈ L, Tie.BoughOk m b.u b.lo b.hi b.ks
  | [], _ => ⟨[], rfl, fun _ h => nomatch h⟩
  | b :: bs, h => by
    obtain ⟨u, lo, hi, ks, e, ok⟩ := tie_of_bough (h b List.mem_cons_self)
    obtain ⟨L, e2, ok2⟩ := bgs_of fun x hx => h x (List.mem_cons_of_mem _ hx)
    refine ⟨⟨u, lo, hi, ks⟩ :: L, ?_, fun x hx => ?_⟩
    · rw [e, e2]; rfl
    · rcases List.mem_cons.mp hx with rfl | hx
      · exact ok
      · exact ok2 x hx
end Wd
namespace Wd
open PySem L2 Ow
/-! ### choices by the bits of a number -/
end Wd
namespace Wd
open PySem L2 Ow
end Wd

set_option maxRecDepth 100000
set_option maxHeartbeats 4000000
namespace L2
open PySem PySem.Spec PyProof.Rows
/-! ### a, b = a list -/
section
variable {prog : Program} {w : World} {A : Around} {E : Value → Shared → Prop} {s : Shared}
end
section
variable {X : Cx} {pos : Pos}
end
section
variable {X : Cx}
/-! ### list.insert at a place within -/
end
end L2

set_option maxRecDepth 100000
set_option maxHeartbeats 4000000
namespace Wd
open PySem L2 Ow
/-! ### woods drawn by a state (the laws from k50 on) -/
end Wd

set_option maxRecDepth 100000
set_option maxHeartbeats 4000000
namespace Wd
open PySem L2 Ow
end Wd

set_option maxRecDepth 100000
set_option maxHeartbeats 4000000
namespace HT
open PySem PySem.Spec PyProof.Rows
section
variable {prog : Program} {w : World} {A : Around} {E : Value → Shared → Prop} {s : Shared}
end
end HT
namespace HT
open PySem PySem.Spec PyProof.Rows
section
variable {prog : Program} {w : World} {A : Around} {E : Value → Shared → Prop} {s : Shared}
end
end HT
namespace L2
open PySem PySem.Spec PyProof.Rows
section
variable {X : Cx} {e st : Expr} {te tst : TE} {pos p2 : Pos}
end
end L2
namespace L2
open PySem PySem.Spec PyProof.Rows
section
variable {X : Cx}
end
end L2
namespace Wd
open PySem L2 Ow
theorem GoodB.perm {m : Int} {bs bs' : List PyData} (G : GoodB m bs) (p : bs'.Perm bs) : GoodB m bs' := ⟨fun b hb => G.each b (p.mem_iff.mp hb), (List.Perm.flatMap_right _ p).trans G.kids⟩
theorem DnL.reverse {H : Hp} : ∀ {ds : List PyData} {xs : List V}, DnL H ds xs → DnL H ds.reverse xs.reverse
  | [], xs, h => by rw [(show xs = [] from h)]; exact rfl
  | d :: ds, _, ⟨x, r, e, q, z⟩ => by
    rw [e, List.reverse_cons, List.reverse_cons]
    exact (DnL.reverse z).append ⟨x, [], rfl, q, rfl⟩
theorem cut_head (xs : List V) (t : Nat) (h : t ≤ xs.length) : cutV xs none (some (t : Int)) = xs.take t := by
  unfold cutV
  rw [HT.sIx_nat, HT.sIx_none, Nat.min_eq_left h, List.drop_zero, Nat.sub_zero]
theorem cut_tail (xs : List V) (t : Nat) (h : t ≤ xs.length) : cutV xs (some (t : Int)) none = xs.drop t := by
  unfold cutV
  rw [HT.sIx_nat, HT.sIx_none, Nat.min_eq_left h, List.take_of_length_le]
  rw [List.length_drop]
  exact Nat.le_refl _
theorem cut_tail1 (xs : List V) : cutV xs (some 1) none = xs.drop 1 := by
  cases xs with
  | nil => rfl
  | cons x r => exact cut_tail (x :: r) 1 (by simp)
end Wd

set_option maxRecDepth 100000
set_option maxHeartbeats 4000000
namespace Wd
open PySem L2 Ow
/-! ### which ties a set breaks -/
end Wd

set_option maxRecDepth 100000
set_option maxHeartbeats 4000000
namespace Wd
open PySem L2 Ow
end Wd

set_option maxRecDepth 100000
set_option maxHeartbeats 4000000
namespace Wd
open PySem L2 Ow
/-! ### the sets of a stand, one by one -/
end Wd

set_option maxRecDepth 100000
set_option maxHeartbeats 4000000
namespace L2
open PySem PySem.Spec PyProof.Rows

/-! ### lists of pairs as tables -/
section
variable {κ : Type} [DecidableEq κ]
def valV (kvs : List (κ × V)) (k : κ) : Option V := (kvs.find? fun kv => decide (kv.1 = k)).map (·.2)
/-- in its place, or at the end -/
def putK (kvs : List (κ × V)) (k : κ) (v : V) : List (κ × V) :=
  if (kvs.any fun kv => decide (kv.1 = k)) = true then kvs.map (fun kv => if kv.1 = k then (kv.1, v) else kv) else kvs ++ [(k, v)]
theorem valV_pos {p : κ × V} {r : List (κ × V)} {k : κ} (e : p.1 = k) : valV (p :: r) k = some p.2 := by simp [valV, List.find?_cons, e]
theorem valV_neg {p : κ × V} {r : List (κ × V)} {k : κ} (e : ¬ p.1 = k) : valV (p :: r) k = valV r k := by simp [valV, List.find?_cons, e]
theorem valV_any (k : κ) : ∀ kvs : List (κ × V), (kvs.any fun kv => decide (kv.1 = k)) = (valV kvs k).isSome
  | [] => rfl
  | p :: r => by
    rw [List.any_cons]
    by_cases e : p.1 = k
    · simp only [valV_pos e, decide_eq_true e, Bool.true_or, Option.isSome_some]
    · rw [valV_neg e, decide_eq_false e, Bool.false_or]; exact valV_any k r
theorem valV_map (k j : κ) (y : V) : ∀ kvs : List (κ × V), valV (kvs.map fun kv => if kv.1 = k then (kv.1, y) else kv) j = (valV kvs j).map fun x => if j = k then y else x
  | [] => rfl
  | p :: r => by
    have ih := valV_map k j y r
    rw [List.map_cons]
    by_cases h : p.1 = k
    · rw [if_pos h]
      by_cases e : p.1 = j
      · rw [valV_pos (p := (p.1, y)) e, valV_pos e, Option.map_some, if_pos (e.symm.trans h)]
      · rw [valV_neg (p := (p.1, y)) e, valV_neg e, ih]
    · rw [if_neg h]
      by_cases e : p.1 = j
      · rw [valV_pos (p := p) e, valV_pos e, Option.map_some, if_neg (fun z => h (e.trans z))]
      · rw [valV_neg (p := p) e, valV_neg e, ih]
theorem valV_snoc (k j : κ) (y : V) : ∀ kvs : List (κ × V), valV kvs k = none → valV (kvs ++ [(k, y)]) j = if j = k then some y else valV kvs j
  | [], _ => by
    by_cases e : k = j
    · rw [if_pos e.symm]; exact valV_pos (p := (k, y)) e
    · rw [if_neg (fun z => e z.symm)]; exact valV_neg (p := (k, y)) e
  | p :: r, hn => by
    rw [List.cons_append]
    have hk : ¬ p.1 = k := fun z => by rw [valV_pos z] at hn; cases hn
    rw [valV_neg hk] at hn
    have ih := valV_snoc k j y r hn
    by_cases e : p.1 = j
    · rw [valV_pos e, valV_pos e, if_neg (fun z => hk (e.trans z))]
    · rw [valV_neg e, valV_neg e, ih]
theorem valV_put (kvs : List (κ × V)) (k j : κ) (y : V) : valV (putK kvs k y) j = if j = k then some y else valV kvs j := by
  unfold putK
  by_cases a : (kvs.any fun kv => decide (kv.1 = k)) = true
  · rw [if_pos a, valV_map]
    rw [valV_any] at a
    by_cases e : j = k
    · obtain ⟨x, hx⟩ := Option.isSome_iff_exists.mp a
      rw [if_pos e, e, hx, Option.map_some, if_pos rfl]
    · rw [if_neg e]
      cases valV kvs j with
      | none => rfl
      | some x => rw [Option.map_some, if_neg e]
  · rw [if_neg a]
    refine valV_snoc k j y kvs ?_
    rw [valV_any] at a
    cases q : valV kvs k with
    | none => rfl
    | some x => rw [q] at a; exact (a rfl).elim
theorem length_putK (kvs : List (κ × V)) (k : κ) (v : V) : (putK kvs k v).length ≤ kvs.length + 1 := by
  unfold putK
  split
  · rw [List.length_map]; omega
  · rw [List.length_append, List.length_cons, List.length_nil]; omega
theorem putK_new {kvs : List (κ × V)} {k : κ} (v : V) (h : valV kvs k = none) : putK kvs k v = kvs ++ [(k, v)] := by
  unfold putK
  rw [valV_any, h]
  exact if_neg (by decide)

theorem RelO.isSome_eq {o : Option V} {u : Option Value} (r : RelO o u) : o.isSome = u.isSome := by
  cases o with
  | none => cases u with
    | none => rfl
    | some _ => exact (show False from r).elim
  | some _ => cases u with
    | none => exact (show False from r).elim
    | some _ => rfl
/-- raw tables of the same keys -/
theorem KV.val {kvs : List (κ × V)} {vs : List (κ × Value)} (r : KV kvs vs) (k : κ) : RelO (valV kvs k) (valueAt vs k) := by
  unfold KV at r
  induction r with
  | nil => exact True.intro
  | @cons p q ps qs h t ih =>
    obtain ⟨h1, h2⟩ := h
    by_cases e : p.1 = k
    · have e' : q.1 = k := h1.symm.trans e
      have b : valueAt (q :: qs) k = some q.2 := by simp [valueAt, List.find?_cons, e']
      rw [valV_pos e, b]; exact h2
    · have e' : ¬ q.1 = k := fun z => e (h1.trans z)
      have b : valueAt (q :: qs) k = valueAt qs k := by simp [valueAt, List.find?_cons, e']
      rw [valV_neg e, b]; exact ih
theorem KV.any {kvs : List (κ × V)} {vs : List (κ × Value)} (r : KV kvs vs) (k : κ) : (kvs.any fun kv => decide (kv.1 = k)) = vs.any fun kv => decide (kv.1 = k) := by
  unfold KV at r
  induction r with
  | nil => rfl
  | cons h t ih => rw [List.any_cons, List.any_cons, ih, h.1]
theorem KV.repl {kvs : List (κ × V)} {vs : List (κ × Value)} (r : KV kvs vs) (k : κ) {y : V} {u : Value} (ry : RelV y u) :
    KV (kvs.map fun kv => if kv.1 = k then (kv.1, y) else kv) (vs.map fun kv => if kv.1 = k then (kv.1, u) else kv) := by
  unfold KV at r ⊢
  induction r with
  | nil => exact .nil
  | @cons p q ps qs h t ih =>
    rw [List.map_cons, List.map_cons]
    refine .cons ?_ ih
    obtain ⟨h1, h2⟩ := h
    by_cases e : p.1 = k
    · rw [if_pos e, if_pos (h1.symm.trans e)]; exact ⟨h1, ry⟩
    · rw [if_neg e, if_neg (fun z => e (h1.trans z))]; exact ⟨h1, h2⟩
theorem KV.put {kvs : List (κ × V)} {vs : List (κ × Value)} (r : KV kvs vs) (k : κ) {y : V} {u : Value} (ry : RelV y u) : KV (putK kvs k y) (stored vs k u) := by
  unfold putK stored
  rw [r.any k]
  by_cases e : (vs.any fun kv => decide (kv.1 = k)) = true
  · rw [if_pos e, if_pos e]; exact r.repl k ry
  · rw [if_neg e, if_neg e]; exact Paired.snoc r ⟨rfl, ry⟩
theorem KV.length {kvs : List (κ × V)} {vs : List (κ × Value)} (r : KV kvs vs) : kvs.length = vs.length := Paired.length r
end


/-! ### a tracked dict, its keys ints and texts or tuples of these -/
theorem kV_is {P : Program} {w : World} {k : Key} {u : Value} (r : RelV (kV k) u) : (mixKind P w).is k u = true := by
  cases k with
  | inl i => obtain ⟨t, e⟩ := (show ∃ t, u = Value.int i t from r); subst e; exact mixKind_int P w i t
  | inr x => obtain ⟨t, e⟩ := (show ∃ t, u = Value.str x t from r); subst e; exact mixKind_str P w x t
theorem items_are {P : Program} {w : World} : ∀ {ks : List Key} {us : List Value}, Vals (ks.map kV) us → ItemsAre (mixKind P w) ks us
  | [], _, r => by rw [List.map_nil] at r; cases r; exact .nil
  | k :: ks, _, r => by
    rw [List.map_cons] at r
    cases r with
    | cons h t => exact .cons (kV_is h) (items_are t)

/-- raw entries of a dict with tuple keys -/
abbrev KT (H : Hp) : List (List Key × V) → List (List Key × Addr × Value) → Prop := Paired fun p q => p.1 = q.1 ∧ H q.2.1 = some (.tup (p.1.map kV)) ∧ RelV p.2 q.2.2
theorem KT.val {H : Hp} {kvs : List (List Key × V)} {xs : List (List Key × Addr × Value)} (r : KT H kvs xs) (k : List Key) : RelO (valV kvs k) ((atKey xs k).map (·.2)) := by
  induction r with
  | nil => exact True.intro
  | @cons p q ps qs h t ih =>
    obtain ⟨h1, _, h2⟩ := h
    by_cases e : p.1 = k
    · have e' : q.1 = k := h1.symm.trans e
      have b : atKey (q :: qs) k = some q.2 := by simp [atKey, List.find?_cons, e']
      rw [valV_pos e, b]; exact h2
    · have e' : ¬ q.1 = k := fun z => e (h1.trans z)
      have b : atKey (q :: qs) k = atKey qs k := by simp [atKey, List.find?_cons, e']
      rw [valV_neg e, b]; exact ih
theorem KT.repl {H : Hp} {kvs : List (List Key × V)} {xs : List (List Key × Addr × Value)} (r : KT H kvs xs) (k : List Key) {y : V} {u : Value} (ry : RelV y u) :
    KT H (kvs.map fun kv => if kv.1 = k then (kv.1, y) else kv) (xs.map (putAt k u)) := by
  induction r with
  | nil => exact .nil
  | @cons p q ps qs h t ih =>
    rw [List.map_cons, List.map_cons]
    refine .cons ?_ ih
    obtain ⟨h1, h2, h3⟩ := h
    unfold putAt
    by_cases e : p.1 = k
    · rw [if_pos e, if_pos (h1.symm.trans e)]; exact ⟨h1, h2, ry⟩
    · rw [if_neg e, if_neg (fun z => e (h1.trans z))]; exact ⟨h1, h2, h3⟩
theorem KT.put {H : Hp} {kvs : List (List Key × V)} {xs : List (List Key × Addr × Value)} (r : KT H kvs xs) (k : List Key) {b : Addr} {y : V} {u : Value} (hb : H b = some (.tup (k.map kV))) (ry : RelV y u) :
    KT H (putK kvs k y) (storedH xs k b u) := by
  have e : (kvs.any fun kv => decide (kv.1 = k)) = (atKey xs k).isSome := by
    rw [valV_any, (r.val k).isSome_eq, Option.isSome_map]
  unfold putK storedH
  rw [e]
  by_cases q : (atKey xs k).isSome = true
  · rw [if_pos q, if_pos q]; exact r.repl k ry
  · rw [if_neg q, if_neg q]; exact Paired.snoc r ⟨rfl, hb, ry⟩
theorem KT.keeps {H H' : Hp} {kvs : List (List Key × V)} {xs : List (List Key × Addr × Value)} (r : KT H kvs xs) (ht : ∀ b ys, H b = some (.tup ys) → H' b = some (.tup ys)) : KT H' kvs xs :=
  Paired.mapP r fun _ _ z => ⟨z.1, ht _ _ z.2.1, z.2.2⟩

section
variable {P : Program} {w : World} {H : Hp} {h : Heap} {a : Addr}
theorem rd_of {u : HO} (ok : HOk P w H h) (e : Rd H a u) : ObjOk P w H h a u := e.ok ok
theorem dk_rd {kvs : List (Key × V)} (ok : HOk P w H h) (e : Rd H a (.dK kvs)) : kvs.length ≤ sizeLine ∧ (a == sysModules) = false ∧ ∃ vs, KV kvs vs ∧ h.DictOf (mixKind P w) a vs :=
  show ObjOk P w H h a (.dK kvs) from rd_of ok e
theorem dk_of {kvs : List (Key × V)} (ok : HOk P w H h) (e : H a = some (.dK kvs)) : kvs.length ≤ sizeLine ∧ (a == sysModules) = false ∧ ∃ vs, KV kvs vs ∧ h.DictOf (mixKind P w) a vs := dk_rd ok (.inl e)
/-- a tracked tuple of ints and texts is a key -/
theorem key_of {ks : List Key} (ok : HOk P w H h) (e : H a = some (.tup (ks.map kV))) : (tupleKind (mixKind P w)).is h ks a := by
  obtain ⟨_, its, r, o, h1, h2, n, h3⟩ := (show ObjOk P w H h a (.tup (ks.map kV)) from ok a _ e)
  exact ⟨o, its.toArray, n, h1, h2, h3, by simpa using items_are r⟩
theorem dt_rd {kvs : List (List Key × V)} (ok : HOk P w H h) (e : Rd H a (.dT kvs)) : kvs.length ≤ sizeLine ∧ (a == sysModules) = false ∧
    ∃ xs, KT H kvs xs ∧ h.DictOfH (tupleKind (mixKind P w)) a xs := by
  obtain ⟨z, y, xs, r, o, es, ep, h1, h2, h3, h4, h5⟩ := (show ObjOk P w H h a (.dT kvs) from rd_of ok e)
  refine ⟨z, y, xs, r, o, es, ep, h1, h2, h3, h4, fun x hx => ?_, h5⟩
  have all : ∀ {l : List (List Key × V)} {m : List (List Key × Addr × Value)}, KT H l m → ∀ x ∈ m, (tupleKind (mixKind P w)).is h x.1 x.2.1 := by
    intro l m q
    induction q with
    | nil => intro x hx; exact nomatch hx
    | @cons p q ps qs hq t ih =>
      intro x hx
      rcases List.mem_cons.mp hx with e | hx
      · subst e
        exact key_of ok (by rw [← hq.1]; exact hq.2.1)
      · exact ih x hx
  exact all r x hx
theorem dt_of {kvs : List (List Key × V)} (ok : HOk P w H h) (e : H a = some (.dT kvs)) : kvs.length ≤ sizeLine ∧ (a == sysModules) = false ∧
    ∃ xs, KT H kvs xs ∧ h.DictOfH (tupleKind (mixKind P w)) a xs := dt_rd ok (.inl e)
end

/-- what the dict at a holds at the key y -/
def DGet (H : Hp) (a : Addr) (y : V) (r : Option V) : Prop :=
  (∃ kvs k, Rd H a (.dK kvs) ∧ y = kV k ∧ r = valV kvs k) ∨ ∃ kvs k b, Rd H a (.dT kvs) ∧ y = .ref b ∧ H b = some (.tup (k.map kV)) ∧ r = valV kvs k
/-- the heap behind a[y] = v -/
def DPut (H : Hp) (a : Addr) (y v : V) (H' : Hp) : Prop :=
  (∃ kvs k, H a = some (.dK kvs) ∧ y = kV k ∧ kvs.length < sizeLine ∧ H' = upd H a (.dK (putK kvs k v))) ∨
  ∃ kvs k b, H a = some (.dT kvs) ∧ y = .ref b ∧ H b = some (.tup (k.map kV)) ∧ kvs.length < sizeLine ∧ H' = upd H a (.dT (putK kvs k v))
section
variable {X : Cx} {pins : List (Addr × Obj)} {σ : St} {H : Hp} {s : Shared} {a : Addr} {y v : V} {u r : Value} {o : Option V} {A : Around} {E : Value → Shared → Prop}

theorem Inv.big (I : Inv X pins σ H s) : sysModules < s.heap.objs.size := by
  have h : mainGlobals < s.heap.objs.size := (I.mod.glob.keeps I.bk).lt
  exact Nat.lt_trans (by decide) h

/-- d[y], there -/
theorem d_getItem {Q : Value → Shared → Prop} (hu : A.units + 1 < cLine) (I : Inv X pins σ H s) (g : DGet H a y (some v)) (ry : RelV y u) (h : ∀ w' s', Inv X pins σ H s' → RelV v w' → Q w' s') :
    wpAny (model X.prog X.w) A (getItem (.ref a) u) Q E s := by
  rcases g with ⟨kvs, k, e, ey, l⟩ | ⟨kvs, k, b, e, ey, eb, l⟩
  · subst ey
    obtain ⟨z, hd, vs, rel, dd⟩ := dk_rd I.hok e
    obtain ⟨w', hw, rw'⟩ := RelO.some_of (v := v) (o := valueAt vs k) (by rw [l]; exact rel.val k)
    exact wpAny_getItem_of (kV_is ry) dd.mapOf hw (h w' _ (I.tok _) rw')
  · subst ey
    cases (show u = Value.ref b from ry)
    obtain ⟨z, hd, xs, rel, dd⟩ := dt_rd I.hok e
    obtain ⟨w', hw, rw'⟩ := RelO.some_of (v := v) (o := (atKey xs k).map (·.2)) (by rw [l]; exact rel.val k)
    obtain ⟨p, hp, hp2⟩ := Option.map_eq_some_iff.mp hw
    refine wpAny_getItem_heap (tupleKind_room_in1 hu) (key_of I.hok eb) dd hp ?_
    rw [hp2]
    exact h w' _ (I.tok _) rw'
/-- y in d -/
theorem d_in {Q : Value → Shared → Prop} (hu : A.units + 1 < cLine) (I : Inv X pins σ H s) (g : DGet H a y o) (ry : RelV y u) (h : ∀ s', Inv X pins σ H s' → Q (.bool o.isSome) s') :
    wpAny (model X.prog X.w) A (compareOp .In u (.ref a)) Q E s := by
  rcases g with ⟨kvs, k, e, ey, l⟩ | ⟨kvs, k, b, e, ey, eb, l⟩
  · subst ey
    obtain ⟨z, hd, vs, rel, dd⟩ := dk_rd I.hok e
    refine wpAny_in_of (kV_is ry) hd dd.mapOf ?_
    rw [← (rel.val k).isSome_eq, ← l]
    exact h _ (I.tok _)
  · subst ey
    cases (show u = Value.ref b from ry)
    obtain ⟨z, hd, xs, rel, dd⟩ := dt_rd I.hok e
    refine wpAny_in_heap (tupleKind_room_in1 hu) (key_of I.hok eb) hd dd ?_
    have q := (rel.val k).isSome_eq
    rw [Option.isSome_map] at q
    rw [← q, ← l]
    exact h _ (I.tok _)
theorem d_notIn {Q : Value → Shared → Prop} (hu : A.units + 1 < cLine) (I : Inv X pins σ H s) (g : DGet H a y o) (ry : RelV y u) (h : ∀ s', Inv X pins σ H s' → Q (.bool (!o.isSome)) s') :
    wpAny (model X.prog X.w) A (compareOp .NotIn u (.ref a)) Q E s := by
  rcases g with ⟨kvs, k, e, ey, l⟩ | ⟨kvs, k, b, e, ey, eb, l⟩
  · subst ey
    obtain ⟨z, hd, vs, rel, dd⟩ := dk_rd I.hok e
    refine wpAny_notIn_of (kV_is ry) hd dd.mapOf ?_
    rw [← (rel.val k).isSome_eq, ← l]
    exact h _ (I.tok _)
  · subst ey
    cases (show u = Value.ref b from ry)
    obtain ⟨z, hd, xs, rel, dd⟩ := dt_rd I.hok e
    refine wpAny_notIn_heap (tupleKind_room_in1 hu) (key_of I.hok eb) hd dd ?_
    have q := (rel.val k).isSome_eq
    rw [Option.isSome_map] at q
    rw [← q, ← l]
    exact h _ (I.tok _)
/-- a dict's object is replaced -/
theorem d_write {h' : Heap} {t' : Nat} {ob : HO} (I : Inv X pins σ H s) (mu : Mut (H a)) (hs : Heap.SameBut a s.heap h') (he : ∃ q, h'.get? a = some q) (new : ObjOk X.prog X.w (upd H a ob) h' a ob) :
    Inv X pins σ (upd H a ob) { s with heap := h', toks := t' } :=
  I.write (x := a) (e := a) mu (.inl rfl) (fun b q hb z => (hs.2 b hb).trans z) he new
theorem dk_new {P : Program} {w : World} {H' : Hp} {h' : Heap} {kvs : List (Key × V)} {vs : List (Key × Value)} (z : kvs.length ≤ sizeLine) (hd : (a == sysModules) = false) (rel : KV kvs vs) (dd : h'.DictOf (mixKind P w) a vs) :
    ObjOk P w H' h' a (.dK kvs) := ⟨z, hd, vs, rel, dd⟩
/-- d[y] = v -/
theorem d_setItem {H' : Hp} {Q : Unit → Shared → Prop} (hu : A.units + 1 < cLine) (I : Inv X pins σ H s) (g : DPut H a y v H') (ry : RelV y u) (rv : RelV v r) (h : ∀ s', Inv X pins σ H' s' → Q () s') :
    wpAny (model X.prog X.w) A (setItem (.ref a) u r) Q E s := by
  rcases g with ⟨kvs, k, e, ey, l, eH⟩ | ⟨kvs, k, b, e, ey, eb, l, eH⟩
  · subst ey eH
    obtain ⟨z, hd, vs, rel, dd⟩ := dk_of I.hok e
    have hz : vs.length ≤ sizeLine := by rw [← rel.length]; exact z
    have hl : (putK kvs k v).length ≤ sizeLine := by have := length_putK kvs k v; omega
    refine wpAny_setItem_pairs (hsz := hz) (kV_is ry) dd fun h' dd' hs => h _ ?_
    have he : ∃ q, h'.get? a = some q := let ⟨q, _, _, hq, _⟩ := dd'; ⟨q, hq⟩
    exact d_write I (by rw [e]; exact True.intro) hs he (dk_new hl hd (rel.put k rv) dd')
  · subst ey eH
    cases (show u = Value.ref b from ry)
    obtain ⟨z, hd, xs, rel, dd⟩ := dt_of I.hok e
    have hz : xs.length ≤ sizeLine := by rw [← Paired.length rel]; exact z
    have hl : (putK kvs k v).length ≤ sizeLine := by have := length_putK kvs k v; omega
    refine wpAny_setItem_heap (hsz := hz) (tupleKind_room_in1 hu) (key_of I.hok eb) dd fun h' dd' hs => h _ ?_
    obtain ⟨q, es, ep, hq, h2, h3, h4, _, h5⟩ := dd'
    refine d_write I (by rw [e]; exact True.intro) hs ⟨q, hq⟩ ⟨hl, hd, _, (rel.put k eb rv).keeps fun c ys ec => ?_, q, es, ep, hq, h2, h3, h4, h5⟩
    rw [upd_ne (ne_of ec e (fun z => nomatch z))]
    exact ec
end

section
variable {X : Cx} {pins : List (Addr × Obj)} {σ : St} {H : Hp} {s : Shared} {a : Addr} {kvs : List (Key × V)} {k : Key} {u : Value} {A : Around} {E : Value → Shared → Prop}
end


/-! ### readings and rules -/
/-- the element of a subscription, not a slice -/
def NoSl (i : Expr) : Prop := ∀ ov iv, subscripted i false ov iv = operate [ov, iv] (getItem ov iv)
theorem subD_of {prog : Program} {w : World} {A : Around} {E : Value → Shared → Prop} {s : Shared} {env : Env} {value slice : Expr} {pos : Pos} {T id : String} {Q : Value → Shared → Prop}
    (hl : typeLookup (.type T) "__getitem__" = pure (some (.builtin id))) (hs : NoSl slice)
    (h : wpAny (model prog w) A (eval value env) (fun o s₁ => wpAny (model prog w) A (eval slice env) (fun i s₂ => s₂.TypeIs o T ∧ wpAny (model prog w) A (getItem o i) Q E s₂) E s₁) E s) :
    wpAny (model prog w) A (eval (.Subscript value slice pos) env) Q E s := by
  refine Subscript_ (wpAny_mono h (fun o s₁ h₁ => wpAny_mono h₁ (fun i s₂ h₂ => ?_) fun _ _ x => x) fun _ _ x => x)
  obtain ⟨hT, h₂⟩ := h₂
  unfold subscriptTail
  refine wpAny_bind ?_
  rw [getitemInPython_of_ne hT.not_modules]
  refine wpAny_bind (wpAny_specialOf hT hl ?_)
  have fin : wpAny (model prog w) A (subscripted slice false o i) (fun r s₃ => wpAny (model prog w) A (letTemporaryGo value o r >>= fun _ => pure r) Q E s₃) E s₂ := by
    rw [hs o i]
    exact wpAny_operating (wpAny_mono h₂ (fun r s₃ h₃ => wpAny_bind (wpAny_letTemporaryGo (wpAny_pure h₃))) fun _ _ x => x)
  first
    | exact wpAny_pure (wpAny_bind fin)
    | exact wpAny_bind (wpAny_pure (wpAny_bind fin))
    | exact wpAny_bind fin

theorem dict_typeIs {X : Cx} {pins : List (Addr × Obj)} {σ : St} {H : Hp} {s : Shared} {a : Addr} {y : V} {o : Option V} (I : Inv X pins σ H s) (g : DGet H a y o) : s.TypeIs (.ref a) "dict" := by
  rcases g with ⟨kvs, k, e, _, _⟩ | ⟨kvs, k, b, e, _, _, _⟩
  · obtain ⟨_, _, vs, _, dd⟩ := dk_rd I.hok e
    exact dd.typeIs
  · obtain ⟨_, _, xs, _, dd⟩ := dt_rd I.hok e
    exact dd.typeIs
/-- d[y] -/
def tDGet (td ty : TE) : TE := fun σ H Q => td σ H fun x H1 => ty σ H1 fun y H2 => ∃ a v, x = .ref a ∧ DGet H2 a y (some v) ∧ Q v H2
section
variable {X : Cx} {o i e value : Expr} {pos pos' tpos : Pos} {td ty tv : TE}
theorem pe_dget (hu : X.A.units + 1 < cLine) (ho : PE X o td) (hi : PE X i ty) (hs : NoSl i) : PE X (.Subscript o i pos) (tDGet td ty) := by
  intro pins s σ H Q I h
  refine subD_of PySem.F.slot_dict_getitem.lookup hs (thn (ho pins s σ H _ I h) fun u s1 ⟨x, H1, I1, rx, q1⟩ => thn (hi pins s1 σ H1 _ I1 q1) fun iv s2 ⟨y, H2, I2, ry, a, v, ex, g, q2⟩ => ?_)
  subst ex
  obtain rfl : u = Value.ref a := rx
  exact ⟨dict_typeIs I2 g, d_getItem hu I2 g ry fun w' s3 I3 rw' => ⟨v, H2, I3, rw', q2⟩⟩
end


/-! ### displays -/
theorem dk_empty {P : Program} {w : World} {H : Hp} (h : Heap) (hb : sysModules < h.objs.size) : ObjOk P w H (h.push { cls := .type "dict", data := .dict #[] }) h.objs.size (.dK []) :=
  ⟨Nat.zero_le _, beq_eq_false_iff_ne.mpr (Ne.symm (Nat.ne_of_lt hb)), [], .nil, Heap.DictOf.new h⟩
/-- {}, to be a dict of the kind that is wanted -/
def tDNewK : TE := fun _ H Q => ∀ p, H p = none → Q (.ref p) (upd H p (.dK []))
section
variable {X : Cx} {pos : Pos}
theorem pe_dnewK : PE X (.Dict [] [] pos) tDNewK := fun pins s σ H Q I h =>
  wpAny_Dict_empty ⟨.ref s.heap.objs.size, _, I.laid (a := s.heap.objs.size) (o := .dK []) (t' := s.toks) (fun _ _ q => Heap.get?_push_of_some _ q) (Nat.le_refl _) (dk_empty s.heap I.big), rfl, h _ (I.hok.fresh (Nat.le_refl _))⟩
end

/-- the pairs of a display, from the left -/
def tPairs : List (TE × TE) → St → Hp → (List (V × V) → Hp → Prop) → Prop
  | [], _, H, Q => Q [] H
  | (tk, tv) :: r, σ, H, Q => tk σ H fun x H1 => tv σ H1 fun y H2 => tPairs r σ H2 fun ps H3 => Q ((x, y) :: ps) H3
abbrev VV : List (V × V) → List (Value × Value) → Prop := Paired fun p q => RelV p.1 q.1 ∧ RelV p.2 q.2
def PPs (X : Cx) (pos : Pos) (keys : List (Option Expr)) (values : List Expr) (trs : List (TE × TE)) : Prop :=
  ∀ (pins : List (Addr × Obj)) (s : Shared) (σ : St) (H : Hp) (Q : List (V × V) → Hp → Prop), Inv X pins σ H s → tPairs trs σ H Q →
    wpAny (model X.prog X.w) X.A (evalPairs (pairTrees keys values X.env pos)) (fun vs s' => ∃ ps H', Inv X pins σ H' s' ∧ VV ps vs ∧ Q ps H') X.xe s
theorem pps_nil {X : Cx} {pos : Pos} : PPs X pos [] [] [] := fun pins s σ H Q I h => pairTrees_nil_walk ⟨[], H, I, .nil, h⟩
theorem pps_cons {X : Cx} {pos : Pos} {k v : Expr} {ks : List (Option Expr)} {vs : List Expr} {tk tv : TE} {trs : List (TE × TE)} (hk : PE X k tk) (hv : PE X v tv) (hr : PPs X pos ks vs trs) :
    PPs X pos (some k :: ks) (v :: vs) ((tk, tv) :: trs) := fun pins s σ H Q I h =>
  pairTrees_cons_walk (thn (hk pins s σ H _ I h) fun u s1 ⟨x, H1, I1, rx, q1⟩ => thn (hv pins s1 σ H1 _ I1 q1) fun w2 s2 ⟨y, H2, I2, ry, q2⟩ =>
    thn (hr pins s2 σ H2 _ I2 q2) fun ws s3 ⟨ps, H3, I3, rel, q3⟩ => ⟨(x, y) :: ps, H3, I3, .cons ⟨rx, ry⟩ rel, q3⟩)

def mergeK (kvs more : List (Key × V)) : List (Key × V) := more.foldl (fun acc kv => putK acc kv.1 kv.2) kvs
theorem KV.merge : ∀ {more : List (Key × V)} {rs : List (Key × Value)} {kvs : List (Key × V)} {vs : List (Key × Value)}, KV more rs → KV kvs vs → KV (mergeK kvs more) (merged vs rs) := by
  intro more rs kvs vs r
  unfold KV at r
  induction r generalizing kvs vs with
  | nil => intro q; exact q
  | @cons p q ps qs h t ih =>
    intro r0
    have e : KV (putK kvs p.1 p.2) (stored vs q.1 q.2) := by
      have := r0.put p.1 h.2
      rw [← h.1]; exact this
    exact ih e
theorem length_mergeK : ∀ (more kvs : List (Key × V)), (mergeK kvs more).length ≤ kvs.length + more.length
  | [], kvs => by show kvs.length ≤ kvs.length + 0; omega
  | p :: r, kvs => by
    have h1 := length_mergeK r (putK kvs p.1 p.2)
    have h2 := length_putK kvs p.1 p.2
    show (mergeK (putK kvs p.1 p.2) r).length ≤ _
    rw [List.length_cons]; omega
theorem carries_of {P : Program} {w : World} : ∀ {kvs : List (Key × V)} {ws : List (Value × Value)}, VV (kvs.map fun kv => (kV kv.1, kv.2)) ws → ∃ rs, Carries (mixKind P w) ws rs ∧ KV kvs rs
  | [], _, r => by rw [List.map_nil] at r; cases r; exact ⟨[], True.intro, .nil⟩
  | p :: kvs, _, r => by
    rw [List.map_cons] at r
    cases r with
    | @cons a b as bs h t =>
      obtain ⟨rs, c, q⟩ := carries_of (P := P) (w := w) t
      obtain ⟨b1, b2⟩ := b
      exact ⟨(p.1, b2) :: rs, ⟨kV_is h.1, rfl, c⟩, .cons ⟨rfl, h.2⟩ q⟩
/-- {k: v, ..} with keys ints and texts; the new dict stands empty while the pairs are made -/
def tDisp (trs : List (TE × TE)) : TE := fun σ H Q => ∀ p, H p = none → tPairs trs σ (upd H p (.dK [])) fun ps H2 => H2 p = some (.dK []) ∧ ∃ kvs : List (Key × V), ps = kvs.map (fun kv => (kV kv.1, kv.2)) ∧ kvs.length ≤ 15 ∧ Q (.ref p) (upd H2 p (.dK (mergeK [] kvs)))
theorem pe_disp {X : Cx} {pos : Pos} {keys : List (Option Expr)} {values : List Expr} {trs : List (TE × TE)} (h : PPs X pos keys values trs) (hall : keys.all (·.isSome) = true) (hl : keys.length = values.length) (h0 : keys ≠ [])
    (h15 : keys.length ≤ 15) : PE X (.Dict keys values pos) (tDisp trs) := by
  intro pins s σ H Q I q
  have hn := I.hok.fresh (Nat.le_refl s.heap.objs.size)
  have I1 := I.laid (a := s.heap.objs.size) (o := .dK []) (h' := s.heap.push { cls := .type "dict", data := .dict #[] }) (t' := s.toks) (fun _ _ q => Heap.get?_push_of_some _ q) (Nat.le_refl _) (dk_empty s.heap I.big)
  refine wpAny_Dict_walk (knd := mixKind X.prog X.w) hall hl h0 h15 (thn (h pins _ σ _ _ I1 (q _ hn)) fun ws s2 ⟨ps, H2, I2, rel, e, kvs, ep, lk, q2⟩ => ?_)
  subst ep
  obtain ⟨rs, c, rk⟩ := carries_of (P := X.prog) (w := X.w) rel
  obtain ⟨z, hd, vs0, r0, dd⟩ := dk_of I2.hok e
  cases r0
  refine ⟨rs, c, dd, fun h' dd' hs => ⟨.ref s.heap.objs.size, _, ?_, rfl, q2⟩⟩
  have hz : (mergeK [] kvs).length ≤ sizeLine := by
    have h1 := length_mergeK kvs []
    rw [List.length_nil] at h1
    rw [sizeLine_eq]; omega
  have he : ∃ q, h'.get? s.heap.objs.size = some q := let ⟨q, _, _, hq, _⟩ := dd'; ⟨q, hq⟩
  exact d_write I2 (by rw [e]; exact True.intro) hs he (dk_new hz hd (rk.merge .nil) dd')


/-! ### methods -/
section
variable {X : Cx} {pins : List (Addr × Obj)} {σ : St} {H : Hp} {s : Shared} {a : Addr} {y d : V} {u r : Value} {o : Option V} {A : Around} {E : Value → Shared → Prop}
end

section
variable {X : Cx} {o e f : Expr} {apos cpos : Pos} {td ty tx : TE}
end

/-! ### dict(d): a copy -/
section
variable {X : Cx} {pins : List (Addr × Obj)} {σ : St} {H : Hp} {s : Shared} {a : Addr} {kvs : List (Key × V)} {A : Around} {E : Value → Shared → Prop}
end


section
variable {X : Cx} {pins : List (Addr × Obj)} {σ : St} {H : Hp} {s : Shared} {a : Addr} {y : V} {u : Value} {A : Around} {E : Value → Shared → Prop}
end
end L2
namespace L2
open PySem PySem.Spec PyProof.Rows
section
variable {X : Cx}
end

/-! ### a dict's pairs: keys that differ -/
section
variable {κ : Type} [DecidableEq κ]
theorem nd_snoc : ∀ {l : List κ} {k : κ}, l.Nodup → ¬ k ∈ l → (l ++ [k]).Nodup
  | [], k, _, _ => by simp
  | a :: r, k, h, hk => by
    obtain ⟨h1, h2⟩ := List.nodup_cons.mp h
    show (a :: (r ++ [k])).Nodup
    refine List.nodup_cons.mpr ⟨fun m => ?_, nd_snoc h2 fun m => hk (List.mem_cons.mpr (Or.inr m))⟩
    rcases List.mem_append.mp m with q | q
    · exact h1 q
    · exact hk (List.mem_cons.mpr (Or.inl (List.mem_singleton.mp q).symm))
end
end L2

set_option maxRecDepth 100000
set_option maxHeartbeats 4000000
namespace L2
open PySem PySem.Spec
def PQ (X : Cx) (pos : Pos) (keys : List (Option Expr)) (values : List Expr) (trs : List (TE × TE)) : Prop := PPs X pos keys values trs ∧ keys.all (·.isSome) = true ∧ keys.length = values.length ∧ keys.length = trs.length
theorem pq_nil {X : Cx} {pos : Pos} : PQ X pos [] [] [] := ⟨pps_nil, rfl, rfl, rfl⟩
theorem pq_cons {X : Cx} {pos : Pos} {k v : Expr} {ks : List (Option Expr)} {vs : List Expr} {tk tv : TE} {trs : List (TE × TE)} (hk : PE X k tk) (hv : PE X v tv) (hr : PQ X pos ks vs trs) : PQ X pos (some k :: ks) (v :: vs) ((tk, tv) :: trs) :=
  ⟨pps_cons hk hv hr.1, by rw [List.all_cons, hr.2.1]; rfl, by rw [List.length_cons, List.length_cons, hr.2.2.1], by rw [List.length_cons, List.length_cons, hr.2.2.2]⟩
theorem pe_dispQ {X : Cx} {pos : Pos} {keys : List (Option Expr)} {values : List Expr} {tr : TE × TE} {trs : List (TE × TE)} (h : PQ X pos keys values (tr :: trs)) (h15 : (tr :: trs).length ≤ 15) : PE X (.Dict keys values pos) (tDisp (tr :: trs)) :=
  pe_disp h.1 h.2.1 h.2.2.1 (fun z => by have := h.2.2.2; rw [z] at this; cases this) (h.2.2.2 ▸ h15)
/-- PE as a word that the elaborator doesn't unfold (a display's run is long) -/
@[irreducible] def PEi (X : Cx) (e : Expr) (t : TE) : Prop := PE X e t
@[irreducible] def PSi (X : Cx) (e : Stmt) (t : TS) : Prop := PS X e t
@[irreducible] def PLi (X : Cx) (l : List Stmt) (t : TS) : Prop := PSs X l t
end L2
namespace Wd
open PySem L2 Ow
end Wd

set_option maxRecDepth 100000
set_option maxHeartbeats 4000000
namespace Wd
open PySem L2 Ow
end Wd

set_option maxRecDepth 100000
set_option maxHeartbeats 4000000
namespace L2
open PySem PySem.Spec PyProof.Rows
end L2
namespace Wd
open PySem L2 Ow
/-! ### trees that are looked at -/
end Wd

set_option maxRecDepth 100000
set_option maxHeartbeats 4000000
namespace Wd
open PySem L2 Ow
section
variable {t1 t2 : List Tie} {m f y n : Nat}
end
end Wd

set_option maxRecDepth 100000
set_option maxHeartbeats 4000000
namespace L2
open PySem PySem.Spec PyProof.Rows
end L2
namespace Wd
open PySem L2 Ow
/-! ### trees of one wood within another that are looked at -/
end Wd

set_option maxRecDepth 100000
set_option maxHeartbeats 4000000
namespace L2
open PySem PySem.Spec PyProof.Rows
/-! ### dicts whose keys are tuples of truths -/
section
variable {prog : Program} {w : World} {A : Around} {E : Value → Shared → Prop} {s : Shared}
end
section
variable {prog : Program} {w : World} {KK : Type} [DecidableEq KK] {knd : HeapKind prog w KK} {A : Around} {E : Value → Shared → Prop} {s : Shared} {d a : Addr} {xs : List (KK × Addr × Value)} {k : KK}
end
/-! ### the values of any dict, one by one -/
section
variable {prog : Program} {w : World} {A : Around} {E : Value → Shared → Prop} {s : Shared} {it d v : Addr} {i ep : Nat} {es : Array DictEntry} {od : Obj}
end
end L2
namespace L2
open PySem PySem.Spec PyProof.Rows
/-! ### such a dict in the layer: its values are objects -/
section
variable {P : Program} {w : World} {H : Hp} {h : Heap} {a d : Addr} {xs : List BEn}
end
section
variable {X : Cx} {o e f : Expr} {apos cpos : Pos} {td ty tx : TE}
end
section
variable {X : Cx} {P : Program} {w : World} {o e f : Expr} {pos apos cpos : Pos} {td ty tx : TE}
end
end L2

set_option maxRecDepth 100000
set_option maxHeartbeats 4000000
namespace L2
open PySem PySem.Spec PyProof.Rows
/-! ### walking the keys of a dict that is known to the object -/
def Itd (a : Addr) (o : Obj) (kvs : List (Key × V)) : It :=
  ⟨fun i H => H a = some (.frz o (.dK kvs)) ∧ i < kvs.length, fun i H x H' => H' = H ∧ ∃ k v, kvs[i]? = some (k, v) ∧ x = kV k, fun i H => H a = some (.frz o (.dK kvs)) ∧ kvs.length ≤ i⟩
theorem keyV {P : Program} {w : World} {k : Key} {u : Value} (h : (mixKind P w).is k u = true) : RelV (kV k) u := by
  rcases keyIs_shape (show keyIs k u = true from h) with ⟨i, t, rfl, rfl⟩ | ⟨x, t, rfl, rfl⟩
  · exact ⟨t, rfl⟩
  · exact ⟨t, rfl⟩
theorem KV.at_ {κ : Type} : ∀ {kvs : List (κ × V)} {vs : List (κ × Value)} {i : Nat} {k : κ} {v : V}, KV kvs vs → kvs[i]? = some (k, v) → ∃ u, vs[i]? = some (k, u)
  | _, _, i, k, v, .nil, e => by simp at e
  | p :: kvs, q :: vs, 0, k, v, .cons r t, e => by
    cases e
    have r1 : k = q.1 := r.1
    exact ⟨q.2, by rw [List.getElem?_cons_zero, r1]⟩
  | p :: kvs, q :: vs, i + 1, k, v, .cons r t, e => by
    rw [List.getElem?_cons_succ] at e ⊢
    exact KV.at_ t e
theorem turn_dict {P : Program} {w : World} {K : PySem.W.Frag} {tg : Expr} {a it : Addr} {o : Obj} {kvs : List (Key × V)} {vs : List (Key × Value)} {ep : Nat} (hD : ∀ h : Heap, h.get? a = some o → h.DictAt (mixKind P w) a vs ep) (rel : KV kvs vs) :
    Turn P w K tg (Itd a o kvs) [it] it (fun i h => h.IsKeyIter it a i vs.length ep) where
  mem := by simp
  obj := fun i h st b hb => by
    have e : b = it := by simpa using hb
    subst e
    obtain ⟨o, e, c, d⟩ := st
    exact ⟨o, e, fun v z => by rw [d] at z; cases z⟩
  keep := fun i h h' st k => st.at fun o e => k it (by simp) o e
  item := by
    intro X hP hw hK hc i pins s σ H E I hf st hg
    subst hP hw hK
    obtain ⟨hq, hi⟩ := hg
    have ho : s.heap.get? a = some o := (I.hok a _ hq).1
    obtain ⟨p, hx⟩ : ∃ p, kvs[i]? = some p := ⟨_, List.getElem?_eq_getElem hi⟩
    obtain ⟨u, hu⟩ := KV.at_ rel (show kvs[i]? = some (p.1, p.2) from hx)
    obtain ⟨f0, f1, f2, f3, f4, f5⟩ := hf it (by simp)
    refine wpAny_pyNext_dict_item st (hD _ ho) hu fun key h' hkey st' sb => ?_
    have I1 : Inv X pins σ H { s with heap := h' } := I.turned (t' := s.toks) (fun b o hb e => (sb.2 b hb).trans e) f0 f1 f3 f4 f5
    obtain ⟨oi, e, c, d⟩ := id st'
    exact ⟨key, rfl, go_of (s := { s with heap := h' }) e c d (by decide) ⟨kV p.1, H, I1, keyV hkey, ⟨rfl, p.1, p.2, hx, rfl⟩, st', fun b hb => (hf b hb).1⟩⟩
  done := by
    intro X hP hw hK hc i pins s σ H E I hf st hg
    subst hP hw hK
    obtain ⟨hq, hi⟩ := hg
    have ho : s.heap.get? a = some o := (I.hok a _ hq).1
    obtain ⟨f0, f1, f2, f3, f4, f5⟩ := hf it (by simp)
    have hl := Paired.length rel
    exact wpAny_pyNext_dict_end (I.ok.hd hc) st (hD _ ho) (List.getElem?_eq_none (by omega)) fun h' eb => ⟨rfl, I.turned (t' := s.toks) (fun b o hb e => eb b o hb e) f0 f1 f3 f4 f5⟩
  self := fun _ _ _ _ _ st h => wpAny_pyIter_keyiter st h
def iDict (tl : TE) : TI := fun σ H R => tl σ H fun x H1 => ∃ a o kvs, x = .ref a ∧ H1 a = some (.frz o (.dK kvs)) ∧ R (Itd a o kvs) H1
theorem pi_dict {X : Cx} {tg l : Expr} {tl : TE} (hl : PE X l tl) : PI X tg l (iDict tl) := by
  intro pins s σ H R I h
  refine thn (hl pins s σ H _ I h) fun v s1 ⟨x, H1, I1, r1, q1⟩ => ?_
  obtain ⟨a, o, kvs, e, hq, q⟩ := q1
  subst e
  cases r1
  obtain ⟨ho, z, hd, vs, rel, dd⟩ := (show ObjOk X.prog X.w H1 s1.heap a (.frz o (.dK kvs)) from I1.hok a _ hq)
  obtain ⟨ep, da⟩ := dd.dictAt
  have hD : ∀ h : Heap, h.get? a = some o → h.DictAt (mixKind X.prog X.w) a vs ep := fun h e => da.at' fun o' e' => by
    rw [ho] at e'
    cases e'
    exact e
  refine wpAny_pyIter_dict hd da ?_
  refine ⟨s1.heap.objs.size, [s1.heap.objs.size], _, _, H1, rfl, I1.kept (t' := s1.toks) fun b o e => Heap.get?_push_of_some _ e, turn_dict hD rel, ⟨_, Heap.get?_push_size _ rfl, rfl, rfl⟩, fun b hb => ?_, q⟩
  have e : b = s1.heap.objs.size := by simpa using hb
  subst e
  exact I1.fpOk (Nat.le_refl _) (I1.hok.fresh (Nat.le_refl _))
/-- a comprehension over such a dict -/
theorem lc_dict {a : Addr} {o : Obj} {kvs : List (Key × V)} {σ0 : St} {H : Hp} {g : TG} {tc : TT} {te : TE} {Q : VK} (Pv : Nat → List V → St → Hp → Prop) (h0 : Pv 0 [] σ0 H) (hz : ∀ i ys σ H, i ≤ kvs.length → Pv i ys σ H → ys.length ≤ sizeLine)
    (hl : ∀ i ys σ H, i ≤ kvs.length → Pv i ys σ H → H a = some (.frz o (.dK kvs)))
    (hs : ∀ i k v ys σ H, kvs[i]? = some (k, v) → Pv i ys σ H → g (kV k) σ H fun σ3 H3 => tc σ3 H3 fun b H4 => if b = true then te σ3 H4 fun v H5 => Pv (i + 1) (ys ++ [v]) σ3 H5 else Pv (i + 1) ys σ3 H4)
    (hd : ∀ ys σ H, Pv kvs.length ys σ H → ∀ p, H p = none → Q (.ref p) (upd H p (.lst ys))) :
    lcGo (Itd a o kvs) g tc te σ0 H Q := by
  refine ⟨fun i m ys σ H => m = kvs.length - i ∧ i ≤ kvs.length ∧ Pv i ys σ H, ⟨kvs.length, by simp, Nat.zero_le _, h0⟩, ?_⟩
  rintro i m ys σ H ⟨rfl, hi, p⟩
  refine ⟨hz i ys σ H hi p, ?_⟩
  have q := hl i ys σ H hi p
  by_cases hlt : i < kvs.length
  · refine .inr ⟨⟨q, hlt⟩, Pv (i + 1), fun ys' σ' H' p' => ⟨kvs.length - (i + 1), by omega, rfl, hlt, p'⟩, fun x H' y => ?_⟩
    obtain ⟨e, k, v, y, rfl⟩ := y
    subst e
    exact hs i k v ys σ _ y p
  · have e : i = kvs.length := by omega
    subst e
    exact .inl ⟨⟨q, Nat.le_refl _⟩, hd ys σ H p⟩
/-- a dict is known to its object from here on -/
theorem pe_frzD {X : Cx} {e : Expr} {t : TE} (he : PE X e t) : PE X e (fun σ H Q => t σ H fun x H1 => ∃ a kvs, x = .ref a ∧ H1 a = some (.dK kvs) ∧ ∀ o, Q x (upd H1 a (.frz o (.dK kvs)))) := by
  intro pins s σ H Q I h
  refine thn (he pins s σ H _ I h) fun v s1 ⟨x, H1, I1, r1, a, kvs, ex, ha, q⟩ => ?_
  have ok := I1.hok a _ ha
  obtain ⟨z, hd, vs, rel, dd⟩ := (show ObjOk X.prog X.w H1 s1.heap a (.dK kvs) from ok)
  obtain ⟨o, es, ep, ho, rest⟩ := id dd
  have ne : ∀ b u, H1 b = some u → u ≠ .dK kvs → b ≠ a := fun b u hb hu e => by
    rw [e, ha] at hb
    exact hu (Option.some.inj hb).symm
  refine ⟨x, upd H1 a (.frz o (.dK kvs)), I1.un (h' := s1.heap) (t' := s1.toks) ⟨fun b ob e _ _ _ => e, fun b ob e _ _ _ => ⟨ob.slots, e⟩, fun b ob e n _ => ?_, fun b ob e _ => ⟨ob, e⟩, fun b xs e => ?_, fun b ob u e => ?_, fun b ps e => ⟨#[], ?_⟩⟩ (fun b u e => ?_), r1, q o⟩
  · rw [upd_ne fun z => by rw [z, ha] at n; cases n]
    exact n
  · rw [upd_ne (ne b _ e (fun z => nomatch z))]
    exact e
  · rw [upd_ne (ne b _ e (fun z => nomatch z))]
    exact e
  · rw [upd_ne (ne b _ e (fun z => nomatch z)), e, Array.append_empty]
  · by_cases hb : b = a
    · subst hb
      rw [upd_same] at e
      cases e
      exact ⟨ho, ok.stay (fun c u _ q => q) (fun c q => by rw [upd_ne (ne c _ q (fun z => nomatch z))]; exact q) fun c xs q => by rw [upd_ne (ne c _ q (fun z => nomatch z))]; exact q⟩
    · rw [upd_ne hb] at e
      exact (I1.hok b u e).stay (fun c v _ q => q) (fun c q => by rw [upd_ne (ne c _ q (fun z => nomatch z))]; exact q) fun c xs q => by rw [upd_ne (ne c _ q (fun z => nomatch z))]; exact q
section
variable {X : Cx}
def rSetD : V → V → V → Hp → (Hp → Prop) → Prop := fun o i v H Q => ∃ a H', o = .ref a ∧ DPut H a i v H' ∧ Q H'
theorem set_dict (hu : X.A.units + 1 < cLine) : PSet X rSetD := by
  intro pins s σ H o i v ov iv u Q I ro ri rv h
  obtain ⟨a, H', rfl, g, q⟩ := h
  cases ro
  exact d_setItem hu I g ri rv fun s' I' => ⟨H', I', q⟩
theorem op_inD (hu : X.A.units + 1 < cLine) : OpR X (compareOp .In) (fun x y H Q => ∃ a o, y = .ref a ∧ DGet H a x o ∧ Q (.bl o.isSome) H) := by
  intro pins s σ H x y v u Q I rx ry h
  obtain ⟨a, o, rfl, g, q⟩ := h
  cases ry
  exact d_in hu I g rx fun s' I' => ⟨.bl o.isSome, H, I', rfl, q⟩
theorem op_notInD (hu : X.A.units + 1 < cLine) : OpR X (compareOp .NotIn) (fun x y H Q => ∃ a o, y = .ref a ∧ DGet H a x o ∧ Q (.bl (!o.isSome)) H) := by
  intro pins s σ H x y v u Q I rx ry h
  obtain ⟨a, o, rfl, g, q⟩ := h
  cases ry
  exact d_notIn hu I g rx fun s' I' => ⟨.bl (!o.isSome), H, I', rfl, q⟩
end
end L2

set_option maxRecDepth 100000
set_option maxHeartbeats 4000000
namespace L2
open PySem PySem.Spec PyProof.Rows
/-! ### own exceptions: their classes -/
/-! ### what stays when an exception passes: all but the frames that run -/
section
variable {X : Cx} {pins : List (Addr × Obj)} {σ : St} {H H' : Hp} {s s' : Shared} {h2 : Heap}
end
/-! ### how an exception lies behind a call -/
/-! ### try .. except C as n -/
section
variable {X : Cx} {pins : List (Addr × Obj)} {σ : St} {H H' : Hp} {s s' : Shared} {h2 : Heap}
end
end L2

set_option maxRecDepth 100000
set_option maxHeartbeats 4000000
namespace L2
open PySem PySem.Spec PyProof.Rows
/-! ### isinstance of an own exception -/
section
variable {prog : Program} {w : World} {A : Around} {E : Value → Shared → Prop} {h : Heap} {g : Array GenState} {d : Drawn} {t : Nat} {os : OsState} {a D : Addr} {o : Obj} {K : PySem.W.Frag} {bD : List Value}
end
end L2
namespace Wd
open PySem L2 Ow
end Wd

set_option maxRecDepth 100000
set_option maxHeartbeats 4000000
namespace Wd
open PySem L2 Ow
/-! ### what lies beneath an option -/
/-! ### how it is found: turn by turn -/
end Wd

set_option maxRecDepth 100000
set_option maxHeartbeats 4000000
namespace L2
open PySem PySem.Spec PyProof.Rows
end L2

set_option maxRecDepth 100000
set_option maxHeartbeats 4000000
namespace L2
open PySem PySem.Spec PyProof.Rows
/-! ### lambdas that an exception may leave -/
section
variable {X : Cx} {k : Nat} {f : Addr} {fd : FuncData} {ps : List Str} {x : Str} {p pos : Pos} {e : Expr} {es : List Expr} {t : TA}
end
end L2

set_option maxRecDepth 100000
set_option maxHeartbeats 4000000
namespace Wd
open PySem L2 Ow
/-! ### asked, and what is heard -/
end Wd

set_option maxRecDepth 100000
set_option maxHeartbeats 4000000
namespace Ow
open PySem
end Ow
namespace Wd
open PySem L2 Ow
/-! ### picks, and the stand that they tell -/
/-! ### a ware chosen option by option -/
/-! ### one wood within another, by their wares -/
end Wd

set_option maxRecDepth 100000
set_option maxHeartbeats 4000000
namespace L2
open PySem PySem.Spec PyProof.Rows
end L2
namespace Wd
open PySem L2 Ow
end Wd

set_option maxRecDepth 100000
set_option maxHeartbeats 4000000
namespace Wd
open PySem L2 Ow
/-! ### picks taken back -/
end Wd

set_option maxRecDepth 100000
set_option maxHeartbeats 4000000
namespace L2
open PySem PySem.Spec PyProof.Rows
/-! ### in, of a list of data -/
end L2
namespace Wd
open PySem L2 Ow
/-! ### the sets that a stand and ties let in -/
/-! ### picks of a ware, in any order -/
/-! ### orders of options -/
/-! ### boughs alone always have a ware -/
/-! ### picks taken back one by one -/
end Wd

set_option maxRecDepth 100000
set_option maxHeartbeats 4000000
namespace Wd
open PySem L2 Ow
/-! ### picks that a choice may hold -/
/-! ### what is offered, told option by option -/
/-! ### what a lambda closes over -/
/-! ### deeds that are refused -/
/-! ### picks, where only a pen or a choice is written -/
end Wd

set_option maxRecDepth 100000
set_option maxHeartbeats 4000000
namespace Kst
open PySem PySem.W PyProof.Rows
/-! ### the sort of fewer than 64 items, asked by a comparison that answers by a key -/
def ev {α : Type} (lt : Nat → Nat → Bool) : KasT α → α
  | .ret a => a
  | .ask i j k => ev lt (k (lt i j))
theorem ev_bind {α β : Type} {lt : Nat → Nat → Bool} {f : α → KasT β} : ∀ t : KasT α, ev lt (t.bind f) = ev lt (f (ev lt t))
  | .ret _ => rfl
  | .ask i j k => ev_bind (k (lt i j))
/-- what is asked on the way -/
def Path {α : Type} (lt : Nat → Nat → Bool) (ok : Nat → Nat → Prop) : KasT α → Prop
  | .ret _ => True
  | .ask i j k => ok i j ∧ Path lt ok (k (lt i j))
theorem path_bind {α β : Type} {lt : Nat → Nat → Bool} {ok : Nat → Nat → Prop} {f : α → KasT β} : ∀ t : KasT α, Path lt ok t → Path lt ok (f (ev lt t)) → Path lt ok (t.bind f)
  | .ret _, _, h => h
  | .ask i j k, h1, h2 => ⟨h1.1, path_bind (k (lt i j)) h1.2 h2⟩
/-- where each question that is asked is answered so, the walk ends there -/
theorem ev_wp {α : Type} {lt : Nat → Nat → Bool} {ok : Nat → Nat → Prop} {cmp : Nat → Nat → (Bool → Shared → Prop) → Shared → Prop} {Q : α → Shared → Prop} {s : Shared} (hc : ∀ i j C, ok i j → C (lt i j) s → cmp i j C s) : ∀ t : KasT α, Path lt ok t → Q (ev lt t) s → t.kasWp cmp Q s
  | .ret a, _, q => q
  | .ask i j k, h, q => hc i j _ h.1 (ev_wp hc (k (lt i j)) h.2 q)
variable {key : Nat → Int}
def g (p : Array Nat) (i : Nat) : Nat := p.getD i 0
/-- from 0 up to b in order -/
def Up (key : Nat → Int) (p : Array Nat) (b : Nat) : Prop := ∀ i j, i < j → j < b → key (g p i) ≤ key (g p j)
def Dw (key : Nat → Int) (p : Array Nat) (b : Nat) : Prop := ∀ i j, i < j → j < b → key (g p j) < key (g p i)
def ltk (key : Nat → Int) (i j : Nat) : Bool := decide (key i < key j)
theorem Up.step {p : Array Nat} {n : Nat} (h : Up key p n) (h1 : 1 ≤ n) (c : key (g p (n - 1)) ≤ key (g p n)) : Up key p (n + 1) := fun i j ij jn => by
  rcases Nat.lt_or_eq_of_le (Nat.le_of_lt_succ jn) with z | z
  · exact h i j ij z
  · subst z
    rcases Nat.lt_or_eq_of_le (show i ≤ j - 1 by omega) with y | y
    · exact Int.le_trans (h i (j - 1) y (by omega)) c
    · rw [y]; exact c
theorem Dw.step {p : Array Nat} {n : Nat} (h : Dw key p n) (h1 : 1 ≤ n) (c : key (g p n) < key (g p (n - 1))) : Dw key p (n + 1) := fun i j ij jn => by
  rcases Nat.lt_or_eq_of_le (Nat.le_of_lt_succ jn) with z | z
  · exact h i j ij z
  · subst z
    rcases Nat.lt_or_eq_of_le (show i ≤ j - 1 by omega) with y | y
    · exact Int.lt_trans c (h i (j - 1) y (by omega))
    · rw [y]; exact c
theorem asc_ok {p : Array Nat} : ∀ (f n : Nat), 1 ≤ n → Up key p n → n ≤ ev (ltk key) (kas_asc p f n) ∧ ev (ltk key) (kas_asc p f n) ≤ n + f ∧ Up key p (ev (ltk key) (kas_asc p f n)) ∧ (ev (ltk key) (kas_asc p f n) < n + f → key (g p (ev (ltk key) (kas_asc p f n))) < key (g p (ev (ltk key) (kas_asc p f n) - 1)))
  | 0, n, _, h => ⟨Nat.le_refl _, Nat.le_refl _, h, fun z => absurd z (Nat.lt_irrefl _)⟩
  | f + 1, n, h1, h => by
    unfold kas_asc
    show n ≤ ev _ (if ltk key (g p n) (g p (n - 1)) = true then _ else _) ∧ ev _ (if ltk key (g p n) (g p (n - 1)) = true then _ else _) ≤ _ ∧ Up key p (ev _ (if ltk key (g p n) (g p (n - 1)) = true then _ else _)) ∧ (ev _ (if ltk key (g p n) (g p (n - 1)) = true then _ else _) < _ → key (g p (ev _ (if ltk key (g p n) (g p (n - 1)) = true then _ else _))) < key (g p (ev _ (if ltk key (g p n) (g p (n - 1)) = true then _ else _) - 1)))
    by_cases c : key (g p n) < key (g p (n - 1))
    · rw [show ltk key (g p n) (g p (n - 1)) = true from decide_eq_true c, if_pos rfl]
      exact ⟨Nat.le_refl _, Nat.le_add_right _ _, h, fun _ => c⟩
    · rw [show ltk key (g p n) (g p (n - 1)) = false from decide_eq_false c, if_neg Bool.false_ne_true]
      obtain ⟨a, b, u, d⟩ := asc_ok f (n + 1) (by omega) (h.step h1 (Int.not_lt.mp c))
      exact ⟨by omega, by omega, u, fun z => d (by omega)⟩
/-- keys of different places differ -/
def Inj (key : Nat → Int) (p : Array Nat) : Prop := ∀ i j, i < p.size → j < p.size → i ≠ j → key (g p i) ≠ key (g p j)
theorem desc_ok {p : Array Nat} (hI : Inj key p) : ∀ (f n : Nat), 1 ≤ n → n + f ≤ p.size → Dw key p n → ∃ m, ev (ltk key) (kas_desc f p n 0) = (p, m, 0) ∧ n ≤ m ∧ m ≤ n + f ∧ Dw key p m
  | 0, n, _, _, h => ⟨n, rfl, Nat.le_refl _, Nat.le_refl _, h⟩
  | f + 1, n, h1, hz, h => by
    unfold kas_desc
    show ∃ m, ev _ (if ltk key (g p n) (g p (n - 1)) = true then _ else _) = _ ∧ _
    by_cases c : key (g p n) < key (g p (n - 1))
    · rw [show ltk key (g p n) (g p (n - 1)) = true from decide_eq_true c, if_pos rfl, if_neg (Nat.lt_irrefl _)]
      obtain ⟨m, e, a, b, d⟩ := desc_ok hI f (n + 1) (by omega) (by omega) (h.step h1 c)
      exact ⟨m, e, by omega, by omega, d⟩
    · rw [show ltk key (g p n) (g p (n - 1)) = false from decide_eq_false c, if_neg Bool.false_ne_true]
      have ne := hI (n - 1) n (by omega) (by omega) (by omega)
      show ∃ m, ev _ (if ltk key (g p (n - 1)) (g p n) = true then _ else _) = _ ∧ _
      rw [show ltk key (g p (n - 1)) (g p n) = true from decide_eq_true (by omega), if_pos rfl]
      exact ⟨n, rfl, Nat.le_refl _, Nat.le_add_right _ _, h⟩
theorem g_get (p : Array Nat) (i : Nat) : g p i = (p[i]?).getD 0 := by
  unfold g
  rw [Array.getD_eq_getD_getElem?]
theorem rev_g {p : Array Nat} {n : Nat} (hn : n ≤ p.size) (k : Nat) : g (kas_rev p 0 n) k = if k < n then g p (n - 1 - k) else g p k := by
  unfold kas_rev
  rw [g_get, getElem?_mirror_all hn]
  by_cases c : k < n
  · rw [if_pos ⟨Nat.zero_le _, c⟩, if_pos c, g_get, Nat.zero_add]
  · rw [if_neg (fun z => c z.2), if_neg c, g_get]
theorem rev_up {p : Array Nat} {n : Nat} (hn : n ≤ p.size) (h : Dw key p n) : Up key (kas_rev p 0 n) n := fun i j ij jn => by
  rw [rev_g hn, rev_g hn, if_pos (by omega), if_pos jn]
  exact Int.le_of_lt (h (n - 1 - j) (n - 1 - i) (by omega) (by omega))
theorem bub_g {p : Array Nat} {k l : Nat} (hk : k < p.size) (hl : l ≤ k) (i : Nat) : g (bubble p k (k - l)) i = if i = l then g p k else if l < i ∧ i ≤ k then g p (i - 1) else g p i := by
  rw [g_get, getElem?_bubble hk _ (Nat.sub_le _ _), show k - (k - l) = l by omega]
  split
  · rw [g_get]
  · split
    · rw [g_get]
    · rw [g_get]
theorem place_ok {p : Array Nat} {k : Nat} (hu : Up key p k) : ∀ (f l r : Nat), r - l ≤ f → l ≤ r → r ≤ k → (∀ i, i < l → key (g p i) ≤ key (g p k)) → (∀ i, r ≤ i → i < k → key (g p k) < key (g p i)) → ∃ m, ev (ltk key) (kas_place p k f l r) = m ∧ m ≤ k ∧ (∀ i, i < m → key (g p i) ≤ key (g p k)) ∧ ∀ i, m ≤ i → i < k → key (g p k) < key (g p i)
  | 0, l, r, hf, lr, rk, h1, h2 => ⟨l, rfl, by omega, h1, fun i hi => h2 i (by omega)⟩
  | f + 1, l, r, hf, lr, rk, h1, h2 => by
    unfold kas_place
    by_cases c : l ≥ r
    · rw [if_pos c]
      exact ⟨l, rfl, by omega, h1, fun i hi => h2 i (by omega)⟩
    · rw [if_neg c]
      show ∃ m, ev _ (if ltk key (g p k) (g p ((l + r) / 2)) = true then _ else _) = m ∧ _
      by_cases d : key (g p k) < key (g p ((l + r) / 2))
      · rw [show ltk key (g p k) (g p ((l + r) / 2)) = true from decide_eq_true d, if_pos rfl]
        refine place_ok hu f l ((l + r) / 2) (by omega) (by omega) (by omega) h1 fun i hi ik => ?_
        rcases Nat.lt_or_eq_of_le hi with z | z
        · exact Int.lt_of_lt_of_le d (hu _ i z ik)
        · rw [← z]; exact d
      · rw [show ltk key (g p k) (g p ((l + r) / 2)) = false from decide_eq_false d, if_neg Bool.false_ne_true]
        refine place_ok hu f ((l + r) / 2 + 1) r (by omega) (by omega) rk (fun i hi => ?_) h2
        rcases Nat.lt_or_eq_of_le (Nat.le_of_lt_succ hi) with z | z
        · exact Int.le_trans (hu i _ z (by omega)) (Int.not_lt.mp d)
        · rw [z]; exact Int.not_lt.mp d
theorem bin_ok : ∀ (f : Nat) (p : Array Nat) (k : Nat), k + f = p.size → Up key p k → (ev (ltk key) (kas_bin f p k)).Perm p ∧ Up key (ev (ltk key) (kas_bin f p k)) p.size
  | 0, p, k, hk, hu => by
    have e : k = p.size := by omega
    subst e
    exact ⟨Array.Perm.refl _, hu⟩
  | f + 1, p, k, hk, hu => by
    unfold kas_bin
    rw [ev_bind]
    obtain ⟨l, e, lk, h1, h2⟩ := place_ok hu k 0 k (by omega) (Nat.zero_le _) (Nat.le_refl _) (fun i hi => absurd hi (Nat.not_lt_zero _)) (fun i a b => absurd b (by omega))
    rw [e]
    have kz : k < p.size := by omega
    have up : Up key (bubble p k (k - l)) (k + 1) := fun i j ij jn => by
      rw [bub_g kz lk, bub_g kz lk]
      repeat' split
      all_goals first
        | omega
        | exact Int.le_refl _
        | (exact h1 _ (by omega))
        | (exact Int.le_of_lt (h2 _ (by omega) (by omega)))
        | (exact hu _ _ (by omega) (by omega))
    obtain ⟨a, b⟩ := bin_ok f (bubble p k (k - l)) (k + 1) (by rw [bubble_size]; omega) up
    rw [bubble_size] at b
    exact ⟨a.trans (bubble_perm _ _ _), b⟩
theorem count_ok {p : Array Nat} {n : Nat} (hn : p.size = n) (h1 : 1 ≤ n) (hI : Inj key p) : ∃ m p', ev (ltk key) (kas_count n p) = (m, p') ∧ 1 ≤ m ∧ m ≤ n ∧ p'.Perm p ∧ p'.size = n ∧ Up key p' m := by
  unfold kas_count
  rw [ev_bind]
  obtain ⟨a1, b1, u1, d1⟩ := asc_ok (key := key) (p := p) (n - 1) 1 (Nat.le_refl _) (fun i j ij jn => by omega)
  generalize ev (ltk key) (kas_asc p (n - 1) 1) = m at a1 b1 u1 d1
  by_cases c : m = n
  · rw [if_pos (beq_iff_eq.mpr c)]
    exact ⟨m, p, rfl, by omega, by omega, Array.Perm.refl _, hn, u1⟩
  · rw [if_neg (fun z => c (beq_iff_eq.mp z))]
    by_cases c1 : m > 1
    · rw [if_pos c1]
      have ne := hI 0 (m - 1) (by omega) (by omega) (by omega)
      have le := u1 0 (m - 1) (by omega) (by omega)
      show ∃ m' p', ev _ (if ltk key (g p 0) (g p (m - 1)) = true then _ else _) = _ ∧ _
      rw [show ltk key (g p 0) (g p (m - 1)) = true from decide_eq_true (by omega), if_pos rfl]
      exact ⟨m, p, rfl, by omega, by omega, Array.Perm.refl _, hn, u1⟩
    · rw [if_neg c1]
      have e1 : m = 1 := by omega
      subst e1
      have d := d1 (by omega)
      unfold kas_descPart
      rw [ev_bind]
      obtain ⟨m2, e2, a2, b2, w2⟩ := desc_ok hI (n - (1 + 1)) (1 + 1) (by omega) (by omega) (fun i j ij jn => by
        have hi : i = 0 := by omega
        have hj : j = 1 := by omega
        rw [hi, hj]
        exact d)
      rw [e2]
      show ∃ m p', ev _ (if 0 > 0 then _ else kas_tail3 m2 n p) = _ ∧ _
      rw [if_neg (Nat.lt_irrefl _)]
      unfold kas_tail3
      rw [ev_bind]
      have m2n : m2 ≤ p.size := by omega
      obtain ⟨a3, b3, u3, _⟩ := asc_ok (key := key) (p := kas_rev p 0 m2) (n - m2) m2 (by omega) (rev_up m2n w2)
      exact ⟨_, _, rfl, by omega, by omega, mirror_perm _ _ _ _, by rw [kas_rev_size]; exact hn, u3⟩
theorem sort_ok {n : Nat} (h1 : 1 ≤ n) (hI : ∀ i j, i < n → j < n → i ≠ j → key i ≠ key j) : (ev (ltk key) (kas_sort n)).Perm (List.range n).toArray ∧ Up key (ev (ltk key) (kas_sort n)) n := by
  have gr : ∀ i, i < n → g (List.range n).toArray i = i := fun i hi => by
    rw [g_get, List.getElem?_toArray, List.getElem?_range hi]
    rfl
  have sz : (List.range n).toArray.size = n := by simp
  unfold kas_sort
  rw [ev_bind]
  obtain ⟨m, p, e, a, b, pm, z, u⟩ := count_ok (key := key) (p := (List.range n).toArray) sz h1 (fun i j hi hj ij => by
    rw [sz] at hi hj
    rw [gr i hi, gr j hj]
    exact hI i j hi hj ij)
  rw [e]
  show Array.Perm (ev _ (if m < n then _ else _)) _ ∧ Up key (ev _ (if m < n then _ else _)) n
  by_cases c : m < n
  · rw [if_pos c, show max m 1 = m by omega]
    obtain ⟨x, y⟩ := bin_ok (n - m) p m (by omega) u
    rw [z] at y
    exact ⟨x.trans pm, y⟩
  · rw [if_neg c]
    have e : m = n := by omega
    subst e
    exact ⟨pm, u⟩
/-- two different ones of the first n -/
def okN (n i j : Nat) : Prop := i < n ∧ j < n ∧ i ≠ j
def PR (n : Nat) (p : Array Nat) : Prop := p.Perm (List.range n).toArray
theorem PR.size {n : Nat} {p : Array Nat} (h : PR n p) : p.size = n := by
  have := h.size_eq
  simpa using this
theorem PR.ok {n : Nat} {p : Array Nat} (h : PR n p) {i j : Nat} (hi : i < n) (hj : j < n) (ij : i ≠ j) : okN n (g p i) (g p j) := by
  have pl : p.toList.Perm (List.range n) := h.toList
  have sz := h.size
  have at_ : ∀ k, k < n → p.toList[k]? = some (g p k) := fun k hk => by
    rw [g_get, Array.getElem?_toList, Array.getElem?_eq_getElem (by omega)]
    rfl
  have mem : ∀ k, k < n → g p k < n := fun k hk => List.mem_range.mp (pl.mem_iff.mp (List.mem_of_getElem? (at_ k hk)))
  refine ⟨mem i hi, mem j hj, fun z => ij ?_⟩
  have nd : p.toList.Nodup := pl.nodup_iff.mpr List.nodup_range
  have l1 : i < p.toList.length := by rw [Array.length_toList]; omega
  have l2 : j < p.toList.length := by rw [Array.length_toList]; omega
  have e1 := at_ i hi
  have e2 := at_ j hj
  rw [List.getElem?_eq_getElem l1] at e1
  rw [List.getElem?_eq_getElem l2] at e2
  rw [← z] at e2
  exact (List.getElem_inj nd).mp (Option.some.inj (e1.trans e2.symm))
theorem PR.inj {n : Nat} {p : Array Nat} (h : PR n p) (hk : ∀ i j, i < n → j < n → i ≠ j → key i ≠ key j) : Inj key p := fun i j hi hj ij => by
  rw [h.size] at hi hj
  obtain ⟨a, b, c⟩ := h.ok hi hj ij
  exact hk _ _ a b c
theorem asc_path {n : Nat} {p : Array Nat} (h : PR n p) : ∀ (f m : Nat), 1 ≤ m → m + f ≤ n → Path (ltk key) (okN n) (kas_asc p f m)
  | 0, m, _, _ => trivial
  | f + 1, m, h1, hz => by
    unfold kas_asc
    refine ⟨h.ok (by omega) (by omega) (by omega), ?_⟩
    show Path _ _ (if ltk key (g p m) (g p (m - 1)) = true then _ else _)
    cases ltk key (g p m) (g p (m - 1)) with
    | true => exact trivial
    | false => exact asc_path h f (m + 1) (by omega) (by omega)
theorem desc_path {n : Nat} {p : Array Nat} (h : PR n p) (hI : Inj key p) : ∀ (f m : Nat), 1 ≤ m → m + f ≤ n → Path (ltk key) (okN n) (kas_desc f p m 0)
  | 0, m, _, _ => trivial
  | f + 1, m, h1, hz => by
    unfold kas_desc
    refine ⟨h.ok (by omega) (by omega) (by omega), ?_⟩
    show Path _ _ (if ltk key (g p m) (g p (m - 1)) = true then _ else _)
    by_cases c : key (g p m) < key (g p (m - 1))
    · rw [show ltk key (g p m) (g p (m - 1)) = true from decide_eq_true c, if_pos rfl, if_neg (Nat.lt_irrefl _)]
      exact desc_path h hI f (m + 1) (by omega) (by omega)
    · rw [show ltk key (g p m) (g p (m - 1)) = false from decide_eq_false c, if_neg Bool.false_ne_true]
      have ne := hI (m - 1) m (by rw [h.size]; omega) (by rw [h.size]; omega) (by omega)
      refine ⟨h.ok (by omega) (by omega) (by omega), ?_⟩
      show Path _ _ (if ltk key (g p (m - 1)) (g p m) = true then _ else _)
      rw [show ltk key (g p (m - 1)) (g p m) = true from decide_eq_true (by omega), if_pos rfl]
      trivial
theorem place_path {n : Nat} {p : Array Nat} {k : Nat} (h : PR n p) (kn : k < n) : ∀ (f l r : Nat), r ≤ k → Path (ltk key) (okN n) (kas_place p k f l r)
  | 0, l, r, _ => trivial
  | f + 1, l, r, rk => by
    unfold kas_place
    by_cases c : l ≥ r
    · rw [if_pos c]
      trivial
    · rw [if_neg c]
      refine ⟨h.ok kn (by omega) (by omega), ?_⟩
      show Path _ _ (if ltk key (g p k) (g p ((l + r) / 2)) = true then _ else _)
      cases ltk key (g p k) (g p ((l + r) / 2)) with
      | true => exact place_path h kn f l _ (by omega)
      | false => exact place_path h kn f _ r rk
theorem bin_path {n : Nat} : ∀ (f : Nat) (p : Array Nat) (k : Nat), PR n p → k + f = n → Path (ltk key) (okN n) (kas_bin f p k)
  | 0, p, k, _, _ => trivial
  | f + 1, p, k, h, hk => by
    unfold kas_bin
    exact path_bind _ (place_path h (by omega) k 0 k (Nat.le_refl _)) (bin_path f _ (k + 1) (Array.Perm.trans (bubble_perm _ _ _) h) (by omega))
theorem sort_path {n : Nat} (h1 : 1 ≤ n) (hk : ∀ i j, i < n → j < n → i ≠ j → key i ≠ key j) : Path (ltk key) (okN n) (kas_sort n) := by
  have P0 : PR n (List.range n).toArray := Array.Perm.refl _
  have hI := P0.inj hk
  have sz := P0.size
  unfold kas_sort
  obtain ⟨m, p, e, a, b, pm, z, u⟩ := count_ok (key := key) sz h1 hI
  refine path_bind _ ?_ ?_
  · unfold kas_count
    refine path_bind _ (asc_path P0 (n - 1) 1 (Nat.le_refl _) (by omega)) ?_
    obtain ⟨a1, b1, u1, d1⟩ := asc_ok (key := key) (p := (List.range n).toArray) (n - 1) 1 (Nat.le_refl _) (fun i j ij jn => by omega)
    generalize ev (ltk key) (kas_asc (List.range n).toArray (n - 1) 1) = m at a1 b1 u1 d1
    by_cases c : m = n
    · rw [if_pos (beq_iff_eq.mpr c)]
      trivial
    · rw [if_neg (fun z => c (beq_iff_eq.mp z))]
      by_cases c1 : m > 1
      · rw [if_pos c1]
        refine ⟨P0.ok (by omega) (by omega) (by omega), ?_⟩
        have ne := hI 0 (m - 1) (by omega) (by omega) (by omega)
        have le := u1 0 (m - 1) (by omega) (by omega)
        show Path _ _ (if ltk key (g (List.range n).toArray 0) (g (List.range n).toArray (m - 1)) = true then _ else _)
        rw [show ltk key (g (List.range n).toArray 0) (g (List.range n).toArray (m - 1)) = true from decide_eq_true (by omega), if_pos rfl]
        trivial
      · rw [if_neg c1]
        have e1 : m = 1 := by omega
        subst e1
        have d := d1 (by omega)
        unfold kas_descPart
        refine path_bind _ (desc_path P0 hI _ _ (by omega) (by omega)) ?_
        obtain ⟨m2, e2, a2, b2, w2⟩ := desc_ok hI (n - (1 + 1)) (1 + 1) (by omega) (by omega) (fun i j ij jn => by
          have hi : i = 0 := by omega
          have hj : j = 1 := by omega
          rw [hi, hj]
          exact d)
        rw [e2]
        show Path _ _ (if 0 > 0 then _ else kas_tail3 m2 n (List.range n).toArray)
        rw [if_neg (Nat.lt_irrefl _)]
        unfold kas_tail3
        exact path_bind _ (asc_path (Array.Perm.trans (mirror_perm _ _ _ _) P0) _ _ (by omega) (by omega)) trivial
  · rw [e]
    show Path _ _ (if m < n then _ else _)
    by_cases c : m < n
    · rw [if_pos c, show max m 1 = m by omega]
      exact bin_path _ _ _ (Array.Perm.trans pm P0) (by omega)
    · rw [if_neg c]
      trivial
end Kst

set_option maxRecDepth 100000
set_option maxHeartbeats 4000000
namespace Kst
open PySem PySem.W PyProof PyProof.Rows
section
variable {prog : Program} {w : World} {A : Around} {E : Value → Shared → Prop} {s : Shared}
/-- the tuples of a list, each with a number ahead -/
def Tps (h : Heap) (rs : List Addr) (ks : List Int) : Prop := ∀ i r, rs[i]? = some r → ∃ o xs e t, h.get? r = some o ∧ o.cls = .type "tuple" ∧ o.data = .seq xs e ∧ xs[0]? = some (.int (ks.getD i 0) t)
theorem Tps.kat {h : Heap} : ∀ {rs : List Addr} {ks : List Int}, rs.length = ks.length → Tps h rs ks → ∃ fs, KatTups h (rs.map Value.ref) fs ∧ fs.length = rs.length ∧ ∀ v ∈ fs, ∃ k t, v = Value.int k t
  | [], [], _, _ => ⟨[], trivial, rfl, fun _ z => nomatch z⟩
  | r :: rs, k :: ks, hl, ht => by
    obtain ⟨o, xs, e, t, h1, h2, h3, h4⟩ := ht 0 r rfl
    obtain ⟨fs, a, b, c⟩ := Tps.kat (rs := rs) (ks := ks) (Nat.succ.inj hl) (fun i r' hr => by
      obtain ⟨o, xs, e, t, q⟩ := ht (i + 1) r' hr
      exact ⟨o, xs, e, t, q⟩)
    refine ⟨_ :: fs, ⟨⟨r, o, xs, e, rfl, h1, h2, h3, h4⟩, a⟩, congrArg Nat.succ b, fun v hv => ?_⟩
    rcases List.mem_cons.mp hv with z | z
    · exact ⟨_, _, z⟩
    · exact c v z
/-- two of them compared -/
theorem lt_tups {rs : List Addr} {ks : List Int} {i j : Nat} {C : Bool → Shared → Prop} (ht : Tps s.heap rs ks) (hi : i < rs.length) (hj : j < rs.length) (ne : ks.getD i 0 ≠ ks.getD j 0) (h : C (ltk (fun i => ks.getD i 0) i j) s) : kas_cmp prog w A (tuples' true) (pairsOf (rs.map Value.ref)) i j C s := by
  unfold kas_cmp
  rw [kas_item_eq, kas_item_eq]
  have at_ : ∀ k (hk : k < rs.length), (rs.map Value.ref).getD k Value.none = .ref rs[k] := fun k hk => by
    rw [List.getD_eq_getElem?_getD, List.getElem?_map, List.getElem?_eq_getElem hk]
    rfl
  show wpAny _ A (keyLt' (tuples' true) ((rs.map Value.ref).getD i Value.none) ((rs.map Value.ref).getD j Value.none)) _ _ _
  rw [at_ i hi, at_ j hj]
  obtain ⟨o, xs, e, t, h1, h2, h3, h4⟩ := ht i rs[i] (List.getElem?_eq_getElem hi)
  obtain ⟨o', xs', e', t', g1, g2, g3, g4⟩ := ht j rs[j] (List.getElem?_eq_getElem hj)
  refine kat_lt h1 h3 g1 g3 ?_
  obtain ⟨l, hl⟩ : ∃ l, xs.toList = .int (ks.getD i 0) t :: l := by
    have := h4
    rw [← Array.getElem?_toList] at this
    cases q : xs.toList with
    | nil => rw [q] at this; cases this
    | cons a r => rw [q] at this; cases this; exact ⟨r, rfl⟩
  obtain ⟨l', hl'⟩ : ∃ l, xs'.toList = .int (ks.getD j 0) t' :: l := by
    have := g4
    rw [← Array.getElem?_toList] at this
    cases q : xs'.toList with
    | nil => rw [q] at this; cases this
    | cons a r => rw [q] at this; cases this; exact ⟨r, rfl⟩
  rw [hl, hl']
  show KatLex prog w A true _ C ((.int (ks.getD i 0) t, .int (ks.getD j 0) t') :: l.zip l') 0 s
  refine kat_cons (wpAny_eqBool_int ?_)
  rw [show (ks.getD i 0 == ks.getD j 0) = false from beq_eq_false_iff_ne.mpr ne]
  exact kat_no (oneLt_int h)
theorem sort_tups {a : Addr} {rs : List Addr} {ks : List Int} {n : Nat} {P : PySem.Fin → Shared → Prop} (o0 : s.heap.get? a = some (seqObj "list" (rs.map Value.ref).toArray n)) (hl : rs.length = ks.length) (hz : rs.length < 64) (ht : Tps s.heap rs ks) (hna : ∀ r ∈ rs, r ≠ a)
    (hk : ∀ i j, i < rs.length → j < rs.length → i ≠ j → ks.getD i 0 ≠ ks.getD j 0)
    (h : ∀ p : Array Nat, PR rs.length p → Up (fun i => ks.getD i 0) p rs.length → P (.done (.ret .none)) { s with heap := sortedHeap s.heap a (rs.map Value.ref) (p.map fun i => (rs.map Value.ref).getD i Value.none) }) :
    wpAny (model prog w) A (Builtin.«list.sort» ⟨[.ref a], []⟩) P E s := by
  rw [list_sort_plain]
  have lz : (rs.map Value.ref).length = rs.length := List.length_map _
  have hz' : (rs.map Value.ref).length ≤ sizeLine := by rw [lz, sizeLine_eq]; omega
  have la : a < s.heap.objs.size := Heap.lt_size o0
  obtain ⟨e1, o1⟩ : ∃ e, (s.heap.update a (Obj.mapSeq fun _ => #[])).get? a = some (seqObj "list" #[] e) := ⟨_, get?_update_seq o0 _⟩
  have o6 : (((s.heap.update a (Obj.mapSeq fun _ => #[])).push (seqObj "tuple" (rs.map Value.ref).toArray 0)).push (seqObj "list" #[] 0)).get? a = some (seqObj "list" #[] e1) := by
    rwa [Heap.get?_push_ne _ _ _ (by rw [size_push', Heap.size_update]; exact Nat.ne_of_lt (Nat.lt_succ_of_lt la)), Heap.get?_push_ne _ _ _ (by rw [Heap.size_update]; exact Nat.ne_of_lt la)]
  have t6 : Tps (((s.heap.update a (Obj.mapSeq fun _ => #[])).push (seqObj "tuple" (rs.map Value.ref).toArray 0)).push (seqObj "list" #[] 0)) rs ks := fun i r hr => by
    obtain ⟨o, xs, e, t, h1, q⟩ := ht i r hr
    refine ⟨o, xs, e, t, Heap.get?_push_of_some _ (Heap.get?_push_of_some _ ?_), q⟩
    rw [Heap.get?_update_ne _ _ _ _ (hna r (List.mem_of_getElem? hr))]
    exact h1
  refine wpAny_bind (listItems_at o0 rfl (wpAny_bind (listUpdate_at o0 rfl ?_ (by rw [List.size_toArray]; exact hz') (Nat.zero_le _))))
  refine wpAny_bind (seqEpoch_at o1 rfl (wpAny_bind (wpAny_newTuple (wpAny_bind (wpAny_newList (wpAny_holding ?_))))))
  have er : (List.range rs.length).toArray.map (kas_item (pairsOf (rs.map Value.ref))) = pairsOf (rs.map Value.ref) := by
    have := kas_range (pairsOf (rs.map Value.ref))
    rw [pairsOf_size, lz] at this
    exact this
  have sn : ∀ p : Array Nat, (p.map (kas_item (pairsOf (rs.map Value.ref)))).map (·.2) = p.map fun i => (rs.map Value.ref).getD i Value.none := fun p => by
    rw [Array.map_map]
    refine congrArg (fun f => Array.map f p) (funext fun i => ?_)
    show (kas_item (pairsOf (rs.map Value.ref)) i).2 = _
    rw [kas_item_eq]
  by_cases c : (rs.map Value.ref).toArray.size < 2
  · rw [if_pos c, if_pos c]
    refine wpAny_bind (wpAny_pure (wpAny_bind (wpAny_pure ?_)))
    refine wpAny_bind (seqEpoch_at o6 rfl (wpAny_bind (listUpdate_at o6 rfl ?_ (Nat.zero_le _) ?_)))
    · simp only [bne_self_eq_false, Bool.false_eq_true, if_false]
      rw [List.size_toArray, lz] at c
      have := h (List.range rs.length).toArray (Array.Perm.refl _) (fun i j ij jn => by omega)
      rw [← sn, er] at this
      exact wpAny_pure this
    · rw [Array.size_map]
      show (pairsOf (rs.map Value.ref)).size ≤ _
      rw [pairsOf_size]
      exact Nat.le_succ_of_le hz'
  · rw [if_neg c, if_neg c]
    rw [List.size_toArray, lz] at c
    obtain ⟨fs, kt, fl, fi⟩ := Tps.kat hl t6
    refine wpAny_bind (kat_kind (T := .type "int") kt (by omega) (fun v hv => by
      obtain ⟨k, t, rfl⟩ := fi v hv
      exact .now) rfl ?_)
    have est : SortSt.mk' (tuples' true) (pairsOf (rs.map Value.ref)) #[] 7 none = kas_st (tuples' true) (pairsOf (rs.map Value.ref)) (List.range rs.length).toArray := by
      unfold kas_st
      rw [er]
    have run := kas_runs (prog := prog) (w := w) (A := A) (E := E) (κ := tuples' true) (it := pairsOf (rs.map Value.ref)) (n := rs.length) (s := { s with heap := ((s.heap.update a (Obj.mapSeq fun _ => #[])).push (seqObj "tuple" (rs.map Value.ref).toArray 0)).push (seqObj "list" #[] 0) })
      (Q := fun _ st' s' => s' = { s with heap := ((s.heap.update a (Obj.mapSeq fun _ => #[])).push (seqObj "tuple" (rs.map Value.ref).toArray 0)).push (seqObj "list" #[] 0) } ∧ failedOf st' = none ∧ ∃ p, arrOf st' = p.map (kas_item (pairsOf (rs.map Value.ref))) ∧ PR rs.length p ∧ Up (fun i => ks.getD i 0) p rs.length)
      (G := fun p s' => s' = { s with heap := ((s.heap.update a (Obj.mapSeq fun _ => #[])).push (seqObj "tuple" (rs.map Value.ref).toArray 0)).push (seqObj "list" #[] 0) } ∧ PR rs.length p ∧ Up (fun i => ks.getD i 0) p rs.length)
      (by omega) hz (fun p st' s' z1 z2 z3 z4 => ⟨z4.1, z3, p, z2, z4.2⟩)
      (ev_wp (lt := ltk fun i => ks.getD i 0) (ok := okN rs.length) (fun i j C ok hC => lt_tups t6 ok.1 ok.2.1 (hk i j ok.1 ok.2.1 ok.2.2) hC) _ (sort_path (by omega) hk) ⟨rfl, sort_ok (by omega) hk⟩)
    rw [← est] at run
    refine wpAny_bind (wpAny_mono run ?_ fun _ _ e => e)
    rintro ⟨u, st'⟩ s' ⟨rfl, b2, p, b3, b4, b5⟩
    have e3 : (arrOf st').map (·.2) = p.map fun i => (rs.map Value.ref).getD i Value.none := by rw [b3, sn]
    refine wpAny_bind (seqEpoch_at o6 rfl (wpAny_bind (listUpdate_at o6 rfl ?_ (Nat.zero_le _) ?_)))
    · rw [b2]
      simp only [bne_self_eq_false, Bool.false_eq_true, if_false]
      have := h p b4 b5
      rw [← e3] at this
      exact wpAny_pure this
    · rw [e3, Array.size_map, b4.size]
      rw [lz] at hz'
      exact Nat.le_succ_of_le hz'
theorem sorted_tups {l : Addr} {rs : List Addr} {ks : List Int} {Q : Value → Shared → Prop} (hl : s.heap.IsList l (rs.map Value.ref).toArray) (hlk : rs.length = ks.length) (hz : rs.length < 64) (ht : Tps s.heap rs ks) (hk : ∀ i j, i < rs.length → j < rs.length → i ≠ j → ks.getD i 0 ≠ ks.getD j 0)
    (h : ∀ p : Array Nat, PR rs.length p → Up (fun i => ks.getD i 0) p rs.length → Q (.ref (s.heap.objs.size + 1)) { s with heap := sortedAll s.heap (rs.map Value.ref) (p.map fun i => (rs.map Value.ref).getD i Value.none) }) :
    wpAny (model prog w) A (call (.builtin "sorted") [.ref l]) Q E s := by
  have lz : (rs.map Value.ref).length = rs.length := List.length_map _
  have hz' : (rs.map Value.ref).length ≤ sizeLine := by rw [lz, sizeLine_eq]; omega
  have ez : ((s.heap.push (seqObj "list" #[] 0)).update s.heap.objs.size (Obj.mapSeq (· ++ (rs.map Value.ref).toArray))).objs.size = s.heap.objs.size + 1 := by rw [Heap.size_update, size_push']
  have oL : (((s.heap.push (seqObj "list" #[] 0)).update s.heap.objs.size (Obj.mapSeq (· ++ (rs.map Value.ref).toArray))).push (seqObj "list" (rs.map Value.ref).toArray 0)).get? (s.heap.objs.size + 1) = some (seqObj "list" (rs.map Value.ref).toArray 0) := by
    rw [← ez]; exact Heap.get?_push_size _ rfl
  have old : ∀ r ∈ rs, r < s.heap.objs.size := fun r hr => by
    obtain ⟨i, hi⟩ := List.getElem?_of_mem hr
    obtain ⟨o, xs, e, t, h1, _⟩ := ht i r hi
    exact Heap.lt_size h1
  have t2 : Tps (((s.heap.push (seqObj "list" #[] 0)).update s.heap.objs.size (Obj.mapSeq (· ++ (rs.map Value.ref).toArray))).push (seqObj "list" (rs.map Value.ref).toArray 0)) rs ks := fun i r hr => by
    obtain ⟨o, xs, e, t, h1, q⟩ := ht i r hr
    refine ⟨o, xs, e, t, Heap.get?_push_of_some _ ?_, q⟩
    rw [Heap.get?_update_ne _ _ _ _ (Nat.ne_of_lt (old r (List.mem_of_getElem? hr)))]
    exact Heap.get?_push_of_some _ h1
  refine Calls.call_function_entry kind_sorted plain_sorted entry_sorted (args_sorted1 _) (wpAny_bind (m := checkCount "sorted" 1 1 _) (wpAny_pure (wpAny_bind (collect_list hl ?_ hz'))))
  refine wpAny_bind (wpAny_newList ?_)
  rw [ez]
  refine wpAny_bind (wpAny_holding (wpAny_call_entry slot_list_sort ⟨_, oL, rfl⟩ entry_list_sort (sort_tups oL hlk hz t2 (fun r hr => Nat.ne_of_lt (Nat.lt_succ_of_lt (old r hr))) hk fun p b1 b2 => ⟨_, rfl, ?_⟩) (args_list_sort _)))
  exact wpAny_pure ⟨_, rfl, h p b1 b2⟩
end
end Kst
namespace L2
open PySem PySem.Spec PyProof.Rows
variable {X : Cx}
/-- a list of tuples, each with a number ahead; no number twice -/
structure TupsBy (H : Hp) (es : List (Int × Addr)) : Prop where
  at_ : ∀ e ∈ es, ∃ r, H e.2 = some (.tup (.int e.1 :: r))
  nd : (es.map (·.1)).Nodup
/-- sorted of such a list -/
theorem call_sortedT {K : PySem.W.Frag} (hK : X.K = K := by rfl) : CallR X (.builtin "sorted") (fun xs H Q => ∃ (p : Addr) (es : List (Int × Addr)), xs = [.ref p] ∧ SqL K H p (es.map fun e => V.ref e.2) ∧ TupsBy H es ∧ es.length < 64 ∧ ∀ es' : List (Int × Addr), es'.Perm es → (es'.map (·.1)).Pairwise (· < ·) → ∀ l, H l = none → Q (.ref l) (upd H l (.lst (es'.map fun e => V.ref e.2)))) := by
  subst hK
  intro pins s σ H xs us Q I r h
  obtain ⟨p, es, rfl, hq, T, hz, q⟩ := h
  obtain ⟨u, rfl, rx⟩ := vals1 r
  cases rx
  obtain ⟨its, rv, pl, hz'⟩ := I.list hq
  have ei : its = (es.map (·.2)).map Value.ref := by
    refine List.ext_getElem? fun i => ?_
    rw [List.getElem?_map, List.getElem?_map]
    have hlen := rv.length
    rw [List.length_map] at hlen
    cases e : es[i]? with
    | none =>
      rw [List.getElem?_eq_none (by rw [← hlen]; exact List.getElem?_eq_none_iff.mp e)]
      rfl
    | some x =>
      obtain ⟨u, hu, ru⟩ := rv.get (i := i) (x := V.ref x.2) (by rw [List.getElem?_map, e]; rfl)
      rw [hu]
      cases (show u = Value.ref x.2 from ru)
      rfl
  subst ei
  have g1 : ∀ i e, es[i]? = some e → (es.map (·.1)).getD i 0 = e.1 := fun i e h => by rw [List.getD_eq_getElem?_getD, List.getElem?_map, h]; rfl
  have ln : (es.map (·.2)).length = es.length := List.length_map _
  have nd : ∀ i j, i < (es.map (·.2)).length → j < (es.map (·.2)).length → i ≠ j → (es.map (·.1)).getD i 0 ≠ (es.map (·.1)).getD j 0 := fun i j hi hj ij z => ij (by
    rw [ln] at hi hj
    have a : (es.map (·.1))[i]'(by rw [List.length_map]; exact hi) = (es.map (·.1))[j]'(by rw [List.length_map]; exact hj) := by
      rw [g1 i _ (List.getElem?_eq_getElem hi), g1 j _ (List.getElem?_eq_getElem hj)] at z
      rw [List.getElem_map, List.getElem_map]
      exact z
    exact (List.getElem_inj T.nd).mp a)
  refine Kst.sorted_tups pl.isList (ks := es.map (·.1)) (by rw [List.length_map, List.length_map]) (by rw [ln]; exact hz) (fun i r hr => ?_) nd (fun pm b1 b2 => ?_)
  · rw [List.getElem?_map] at hr
    obtain ⟨e, he, rfl⟩ := Option.map_eq_some_iff.mp hr
    obtain ⟨r, hH⟩ := T.at_ e (List.mem_of_getElem? he)
    obtain ⟨its, rv, ⟨o, e1, e2, n, e3⟩, _⟩ := I.tuple (.inl (.inl hH))
    obtain ⟨u, hu, ru⟩ := rv.get (i := 0) (x := V.int e.1) rfl
    obtain ⟨t, rfl⟩ := ru
    exact ⟨o, its.toArray, n, t, e1, e2, e3, by rw [List.getElem?_toArray, hu, g1 i e he]⟩
  · have sz := b1.size
    rw [ln] at sz
    have lt : ∀ i ∈ pm.toList, i < es.length := fun i hi => by
      have := List.mem_range.mp ((show pm.toList.Perm _ from b1.toList).mem_iff.mp hi)
      rw [ln] at this
      exact this
    have pe : (pm.toList.map fun i => es.getD i (0, 0)).Perm es := by
      have a := (show pm.toList.Perm _ from b1.toList).map fun i => es.getD i (0, 0)
      refine a.trans (List.Perm.of_eq ?_)
      refine List.ext_getElem? fun i => ?_
      show ((List.range (es.map (·.2)).length).map fun i => es.getD i (0, 0))[i]? = _
      rw [List.getElem?_map, ln]
      by_cases c : i < es.length
      · rw [List.getElem?_range c, List.getElem?_eq_getElem c]
        show some (es.getD i (0, 0)) = _
        rw [List.getD_eq_getElem?_getD, List.getElem?_eq_getElem c]
        rfl
      · rw [List.getElem?_eq_none (by rw [List.length_range]; omega), List.getElem?_eq_none (by omega)]
        rfl
    have kk : ∀ i, (es.map (·.1)).getD i 0 = (es.getD i (0, 0)).1 := fun i => by
      rw [List.getD_eq_getElem?_getD, List.getD_eq_getElem?_getD, List.getElem?_map]
      cases es[i]? <;> rfl
    have pw : ((pm.toList.map fun i => es.getD i (0, 0)).map (·.1)).Pairwise (· < ·) := by
      have nd' : ((pm.toList.map fun i => es.getD i (0, 0)).map (·.1)).Nodup := (pe.map (·.1)).nodup_iff.mpr T.nd
      rw [List.pairwise_iff_getElem]
      intro i j hi hj ij
      have li : i < pm.toList.length := by simpa using hi
      have lj : j < pm.toList.length := by simpa using hj
      have gg : ∀ k (hk : k < pm.toList.length), Kst.g pm k = pm.toList[k] := fun k hk => by
        rw [Kst.g_get, Array.getElem?_eq_getElem (by rw [Array.length_toList] at hk; exact hk)]
        simp
      have le := b2 i j ij (by rw [ln]; rw [Array.length_toList] at lj; omega)
      dsimp only at le
      rw [gg i li, gg j lj, kk, kk] at le
      have ne : ((pm.toList.map fun i => es.getD i (0, 0)).map (·.1))[i] ≠ ((pm.toList.map fun i => es.getD i (0, 0)).map (·.1))[j] := fun z => absurd ((List.getElem_inj nd').mp z) (Nat.ne_of_lt ij)
      rw [List.getElem_map, List.getElem_map, List.getElem_map, List.getElem_map] at ne ⊢
      omega
    obtain ⟨e, he⟩ := sortedAll_at s.heap ((es.map (·.2)).map Value.ref) (pm.map fun i => ((es.map (·.2)).map Value.ref).getD i Value.none)
    have vl : Vals ((pm.toList.map fun i => es.getD i (0, 0)).map fun e => V.ref e.2) (pm.map fun i => ((es.map (·.2)).map Value.ref).getD i Value.none).toList := by
      rw [Array.toList_map, List.map_map]
      have go : ∀ l : List Nat, (∀ i ∈ l, i < es.length) → Vals (l.map ((fun e : Int × Addr => V.ref e.2) ∘ fun i => es.getD i (0, 0))) (l.map fun i => ((es.map (·.2)).map Value.ref).getD i Value.none) := by
        intro l
        induction l with
        | nil => intro _; exact .nil
        | cons i r ih =>
          intro h
          refine .cons ?_ (ih fun j hj => h j (List.mem_cons_of_mem _ hj))
          have il := h i List.mem_cons_self
          show ((es.map (·.2)).map Value.ref).getD i Value.none = Value.ref (es.getD i (0, 0)).2
          rw [List.getD_eq_getElem?_getD, List.getD_eq_getElem?_getD, List.getElem?_map, List.getElem?_map, List.getElem?_eq_getElem il]
          rfl
      exact go _ lt
    refine ⟨.ref (s.heap.objs.size + 1), _, I.laid (t' := s.toks) (fun b o => sortedAll_old) (Nat.le_succ _) (show ObjOk X.prog X.w _ _ _ (.lst ((pm.toList.map fun i => es.getD i (0, 0)).map fun e => V.ref e.2)) from ⟨?_, (pm.map fun i => ((es.map (·.2)).map Value.ref).getD i Value.none).toList, e, vl, he⟩), rfl, q _ pe pw _ (I.hok.fresh (Nat.le_succ _))⟩
    rw [List.length_map, List.length_map, Array.length_toList, sz]
    exact Nat.le_of_lt (small1000 (by omega))
end L2

set_option maxRecDepth 100000
set_option maxHeartbeats 4000000
namespace L2
open PySem PySem.Spec
end L2
namespace Wd
open PySem L2 Ow
/-! ### woods drawn, kids handed on in a tuple -/
theorem tie_most {m : Nat} {top : Int} {ps : List PyData} (pok : ps.all pairOk = true) (pri : rising (m : Int) (ps.map fstD) (-1) = true) (p0 : 0 < ps.length) : isTie m (.tuple [.str ("most" : Str), .int top, .tuple ps]) = true := by
  show tieK m ("most" : Str) (.int top) (.tuple ps) = true
  unfold tieK
  rw [if_pos rfl]
  show (true && (decide (0 < ps.length) && ps.all pairOk && rising m (ps.map fstD) (-1))) = true
  rw [decide_eq_true p0, pok, pri]
  rfl
end Wd

set_option maxRecDepth 100000
set_option maxHeartbeats 4000000
namespace L2
open PySem PySem.Spec PyProof.Rows
section
variable {X : Cx}
end
end L2

set_option maxRecDepth 100000
set_option maxHeartbeats 4000000
namespace L2
open PySem PySem.Spec PyProof.Rows
/-! ### try .. except C, without a name -/
end L2

set_option maxRecDepth 100000
set_option maxHeartbeats 4000000
namespace Wd
open PySem L2 Ow
/-! ### options that stay, numbered anew -/
def mv : List Nat → Nat → Nat
  | [], _ => 0
  | x :: r, k => if x = k then 0 else mv r k + 1
theorem mv_at {k : Nat} : ∀ {l : List Nat}, k ∈ l → l[mv l k]? = some k
  | x :: r, h => by
    unfold mv
    by_cases e : x = k
    · rw [if_pos e, e]; rfl
    · rw [if_neg e, List.getElem?_cons_succ]
      exact mv_at ((List.mem_cons.mp h).resolve_left fun z => e z.symm)
theorem mv_lt {k : Nat} {l : List Nat} (h : k ∈ l) : mv l k < l.length := (List.getElem?_eq_some_iff.mp (mv_at h)).1
/-- the set of a ware's options by their new numbers -/
def bitsOf (f : Nat → Bool) : Nat → Nat
  | 0 => 0
  | n + 1 => bitsOf f n ||| (if f n = true then 2 ^ n else 0)
theorem bitsOf_bit (f : Nat → Bool) : ∀ n k, (bitsOf f n).testBit k = (decide (k < n) && f k)
  | 0, k => by
    show (0 : Nat).testBit k = _
    rw [Nat.zero_testBit]
    rfl
  | n + 1, k => by
    show (bitsOf f n ||| _).testBit k = _
    rw [Nat.testBit_or, bitsOf_bit f n k]
    by_cases e : k = n
    · subst e
      rw [decide_eq_false (Nat.lt_irrefl _), Bool.false_and, Bool.false_or, decide_eq_true (Nat.lt_succ_self _), Bool.true_and]
      cases f k
      · rw [if_neg Bool.false_ne_true, Nat.zero_testBit]
      · rw [if_pos rfl, Nat.testBit_two_pow_self]
    · have e2 : (if f n = true then 2 ^ n else 0 : Nat).testBit k = false := by
        split
        · rw [Nat.testBit_two_pow]; exact decide_eq_false (Ne.symm e)
        · exact Nat.zero_testBit _
      rw [e2, Bool.or_false]
      congr 1
      by_cases z : k < n
      · rw [decide_eq_true z, decide_eq_true (by omega)]
      · rw [decide_eq_false z, decide_eq_false (by omega)]
def imgS (kept : List Nat) (w : Nat) : Nat := bitsOf (fun i => w.testBit (kept.getD i 0)) kept.length
theorem img_mv {kept : List Nat} {w k : Nat} (h : k ∈ kept) : (imgS kept w).testBit (mv kept k) = w.testBit k := by
  unfold imgS
  rw [bitsOf_bit, decide_eq_true (mv_lt h), Bool.true_and, List.getD_eq_getElem?_getD, mv_at h]
  rfl
/-! ### ties numbered anew -/
/-! ### a ware's set keeps the ties numbered anew -/
/-! ### the options of some ware -/
end Wd

set_option maxRecDepth 100000
set_option maxHeartbeats 4000000
namespace Wd
open PySem L2 Ow
theorem dn_nats {H : Hp} : ∀ ks : List Nat, DnL H (ks.map fun k : Nat => PyData.int (k : Int)) (natsL ks)
  | [] => rfl
  | k :: ks => ⟨_, _, rfl, rfl, dn_nats ks⟩
/-! ### ties in a tuple -/
def TiesAt (H : Hp) (p : Addr) (ts : List Tie) : Prop := ∃ xs, H p = some (.tup xs) ∧ DnL H (ts.map Tie.toD) xs
theorem TiesAt.same {H H' : Hp} {p : Addr} {ts : List Tie} (s : Same H H') (h : TiesAt H p ts) : TiesAt H' p ts := by
  obtain ⟨xs, h1, h2⟩ := h
  exact ⟨xs, s _ _ h1, DnL.same s _ _ h2⟩
theorem wood_ties_at {H : Hp} {wd tb tc : Addr} {m : Nat} {B C : List Tie} (hw : H wd = some (.tup [.int (m : Int), .ref tb, .ref tc])) (hb : TiesAt H tb B) (hc : TiesAt H tc C) (ok : ∀ t ∈ B ++ C, t.Ok m) (few : (B ++ C).length ≤ 900) (m9 : m ≤ 900) : WoodT H wd m (B ++ C) := by
  obtain ⟨xs, h1, d1⟩ := hb
  obtain ⟨ys, h2, d2⟩ := hc
  exact ⟨⟨xs, ys, ⟨tb, tc, hw, h1, h2⟩, by rw [List.map_append]; exact d1.append d2⟩, ok, few, m9⟩
theorem at_pairs {H : Hp} {top : Int} {ps : List (Nat × Int)} {v : V} (h : Dn H (Tie.most top ps).toD v) : ∃ p pk xs, v = .ref p ∧ H p = some (.tup [.str ("most" : Str), .int top, .ref pk]) ∧ H pk = some (.tup xs) ∧ DnL H (ps.map pairD) xs := by
  obtain ⟨p, xs, rfl, hp, x1, r1, rfl, h1, x2, r2, rfl, h2, x3, r3, rfl, h3, e⟩ := dn_tup h
  cases (show r3 = [] from e)
  obtain ⟨pk, ys, rfl, hpk, d⟩ := dn_tup h3
  cases (show x1 = _ from h1)
  cases (show x2 = _ from h2)
  exact ⟨p, pk, ys, rfl, hp, hpk, d⟩
/-! ### the whole fold -/
end Wd

set_option maxRecDepth 100000
set_option maxHeartbeats 4000000
namespace L2
open PySem PySem.Spec
end L2
namespace Wd
open PySem L2 Ow
end Wd

set_option maxRecDepth 100000
set_option maxHeartbeats 4000000
namespace Wd
open PySem L2 Ow
/-! ### what a fold keeps -/
end Wd

set_option maxRecDepth 100000
set_option maxHeartbeats 4000000
namespace Wd
open PySem L2 Ow
end Wd

set_option maxRecDepth 100000
set_option maxHeartbeats 4000000
namespace Wd
open PySem L2 Ow
/-! ### sets of new numbers, by the old ones -/
/-! ### a set that keeps the ties numbered anew, by the old numbers -/
/-! ### folded again -/
end Wd

set_option maxRecDepth 100000
set_option maxHeartbeats 4000000
namespace L2
open PySem PySem.Spec PyProof.Rows
end L2
namespace Wd
open PySem L2 Ow
end Wd

set_option maxRecDepth 100000
set_option maxHeartbeats 4000000
namespace L2
open PySem PySem.Spec PyProof.Rows
section
variable {X : Cx} {tg iter elt : Expr} {cs : List Expr} {sc sc0 : Scope} {pos : Pos} {wi : TI} {g : TG} {tc : TT} {te : TE} {XN N' : List Str} {n : Nat} {kp : List Nat}
end
end L2
namespace L2
open PySem PySem.Spec PyProof.Rows
/-! ### isinstance of an own exception, of several classes -/
end L2
namespace Wd
open PySem L2 Ow
/-! ### the fold, told by wares -/
/-! ### the folded wood is a wood -/
theorem rising_pw {m : Int} : ∀ {ks : List Nat} {u : Int}, ks.Pairwise (· < ·) → (∀ k ∈ ks, u < (k : Int) ∧ (k : Int) < m) → rising m ((ks.map fun k : Nat => (k : Int)).map PyData.int) u = true
  | [], _, _, _ => rfl
  | k :: ks, u, pw, h => by
    obtain ⟨p1, p2⟩ := List.pairwise_cons.mp pw
    have hk := h k List.mem_cons_self
    show (decide (u + 1 ≤ (k : Int)) && decide ((k : Int) ≤ m - 1) && rising m _ (k : Int)) = true
    rw [decide_eq_true (by omega), decide_eq_true (by omega), rising_pw p2 fun x hx => ⟨by have := p1 x hx; omega, (h x (List.mem_cons_of_mem _ hx)).2⟩]
    rfl
theorem isBough_of {m : Nat} {b : Bg} (ok : Tie.BoughOkW m b.u b.lo b.hi b.ks) (h1 : 1 ≤ b.hi) (h2 : b.hi ≤ b.ks.length) : isBough m b.tie.toD = true := by
  have := bgh_ok (m := m) (u := b.u) (lo := b.lo) (hi := b.hi) (kids := b.ks.map fun k : Nat => (k : Int)) (by omega) (by
    intro z
    exact ok.ks0 (List.map_eq_nil_iff.mp z)) (rising_pw ok.ris fun k hk => by have := ok.up k hk; omega) ok.lo0 ok.lohi h1 (by rw [List.length_map]; exact h2)
  unfold bghD at this
  rw [List.map_map] at this
  exact this
theorem isTie_of {m : Nat} {t : Tie} (ok : t.Ok m) (nb : ∀ u lo hi ks, t ≠ .bough u lo hi ks) : isTie m t.toD = true := by
  cases t with
  | bough u lo hi ks => exact absurd rfl (nb u lo hi ks)
  | needs a b =>
    obtain ⟨h1, h2, h3⟩ := ok
    show tieK m ("needs" : Str) (.int (a : Int)) (.int (b : Int)) = true
    unfold tieK
    rw [if_neg (by decide +kernel), if_pos (.inl rfl)]
    show ((decide (0 ≤ (a : Int)) && decide ((a : Int) ≤ (m : Int) - 1)) && ((decide (0 ≤ (b : Int)) && decide ((b : Int) ≤ (m : Int) - 1)) && !decide ((a : Int) = (b : Int)))) = true
    rw [decide_eq_true (by omega), decide_eq_true (by omega), decide_eq_true (by omega), decide_eq_true (by omega), decide_eq_false (by omega)]
    rfl
  | bans a b =>
    obtain ⟨h1, h2, h3⟩ := ok
    show tieK m ("bans" : Str) (.int (a : Int)) (.int (b : Int)) = true
    unfold tieK
    rw [if_neg (by decide +kernel), if_pos (.inr rfl)]
    show ((decide (0 ≤ (a : Int)) && decide ((a : Int) ≤ (m : Int) - 1)) && ((decide (0 ≤ (b : Int)) && decide ((b : Int) ≤ (m : Int) - 1)) && !decide ((a : Int) = (b : Int)))) = true
    rw [decide_eq_true (by omega), decide_eq_true (by omega), decide_eq_true (by omega), decide_eq_true (by omega), decide_eq_false (by omega)]
    rfl
  | most top ps =>
    obtain ⟨h1, h2, h3, h4⟩ := ok
    refine tie_most (m := m) ?_ ?_ ?_
    · rw [List.all_eq_true]
      intro d hd
      obtain ⟨p, _, rfl⟩ := List.mem_map.mp hd
      rfl
    · have e : (ps.map pairD).map fstD = ((ps.map (·.1)).map fun k : Nat => (k : Int)).map PyData.int := by
        rw [List.map_map, List.map_map, List.map_map]
        rfl
      rw [e]
      refine rising_pw h3 fun k hk => ?_
      obtain ⟨p, hp, rfl⟩ := List.mem_map.mp hk
      have := h2 p hp
      omega
    · rw [List.length_map]
      exact List.length_pos_iff.mpr h1
theorem third_of {m : Nat} {t : Tie} (ok : t.Ok m) (m9 : m ≤ 9) (nb : ∀ u lo hi ks, t ≠ .bough u lo hi ks) : thirdOk t.toD := by
  cases t with
  | bough u lo hi ks => exact absurd rfl (nb u lo hi ks)
  | needs a b => exact trivial
  | bans a b => exact trivial
  | most top ps =>
    show (ps.map pairD).length ≤ _
    rw [List.length_map]
    exact Nat.le_trans ok.2.2.2 (by omega)
theorem kids_tie (b : Bg) : kidsOf b.tie.toD = b.ks.map fun k : Nat => (k : Int) := by
  show (b.ks.map fun k : Nat => PyData.int (k : Int)).map toI = _
  rw [List.map_map]
  rfl
theorem kids_all (L : List Bg) : ((L.map Bg.tie).map Tie.toD).flatMap kidsOf = (L.flatMap Bg.ks).map fun k : Nat => (k : Int) := by
  rw [List.map_map, List.flatMap_map, List.map_flatMap]
  have e : (fun b : Bg => kidsOf ((Tie.toD ∘ Bg.tie) b)) = fun b : Bg => b.ks.map fun k : Nat => (k : Int) := funext fun b => kids_tie b
  exact congrArg (fun f => L.flatMap f) e
end Wd

set_option maxRecDepth 100000
set_option maxHeartbeats 4000000
namespace Ow
open PySem L2 Wd
/-! ### options numbered anew: the options in their new order, and the dict of new numbers -/
def ordF (n : Nat) (ord : List Nat) : List (Key × V) := (ord.zipIdx n).map fun p => (.inl (p.1 : Int), .int (p.2 : Int))
def ordKV (ord : List Nat) : List (Key × V) := ordF 0 ord
theorem ordKV_len (ord : List Nat) : (ordKV ord).length = ord.length := by
  unfold ordKV ordF
  rw [List.length_map, List.length_zipIdx]
theorem ordKV_snoc (ord : List Nat) (k : Nat) : ordKV (ord ++ [k]) = ordKV ord ++ [(.inl (k : Int), .int (ord.length : Int))] := by
  unfold ordKV ordF
  rw [List.zipIdx_append, List.map_append]
  simp
theorem ordKV_at {ord : List Nat} {i : Nat} {k : Key} {v : V} (h : (ordKV ord)[i]? = some (k, v)) : ∃ x, ord[i]? = some x ∧ k = .inl (x : Int) ∧ v = .int (i : Int) := by
  unfold ordKV ordF at h
  rw [List.getElem?_map, List.getElem?_zipIdx] at h
  cases e : ord[i]? with
  | none => rw [e] at h; cases h
  | some x =>
    rw [e] at h
    simp at h
    exact ⟨x, rfl, h.1.symm, h.2.symm⟩
theorem ordF_val {k : Nat} : ∀ (ord : List Nat) (n : Nat), valV (ordF n ord) (.inl (k : Int)) = if k ∈ ord then some (.int ((n + mv ord k : Nat) : Int)) else none
  | [], n => by simp [ordF, valV]
  | x :: ord, n => by
    have e : ordF n (x :: ord) = (.inl (x : Int), .int (n : Int)) :: ordF (n + 1) ord := by
      unfold ordF
      rw [List.zipIdx_cons, List.map_cons]
    rw [e]
    by_cases hx : x = k
    · rw [valV_pos (by rw [hx]), if_pos (by rw [hx]; exact List.mem_cons_self)]
      have : mv (x :: ord) k = 0 := by unfold mv; rw [if_pos hx]
      rw [this]
      rfl
    · rw [valV_neg (fun z => hx (by injection z with z; omega)), ordF_val ord (n + 1)]
      have : mv (x :: ord) k = mv ord k + 1 := by rw [mv]; rw [if_neg hx]
      rw [this]
      by_cases hk : k ∈ ord
      · rw [if_pos hk, if_pos (List.mem_cons_of_mem _ hk)]
        congr 2
        omega
      · rw [if_neg hk, if_neg (fun z => (List.mem_cons.mp z).elim (fun y => hx y.symm) hk)]
theorem ordKV_val {ord : List Nat} {k : Nat} (h : k ∈ ord) : valV (ordKV ord) (.inl (k : Int)) = some (.int (mv ord k : Int)) := by
  unfold ordKV
  rw [ordF_val, if_pos h, Nat.zero_add]
theorem ordKV_no {ord : List Nat} {k : Nat} (h : k ∉ ord) : valV (ordKV ord) (.inl (k : Int)) = none := by
  unfold ordKV
  rw [ordF_val, if_neg h]
theorem bits_lt (f : Nat → Bool) (n : Nat) : bitsOf f n < 2 ^ n := Nat.lt_pow_two_of_testBit _ fun k hk => by
  rw [bitsOf_bit, decide_eq_false (by omega), Bool.false_and]
theorem bits_sum (f : Nat → Bool) : ∀ n : Nat, (((List.range n).filter f).map fun j => ((2 ^ j : Nat) : Int)).sum = (bitsOf f n : Int)
  | 0 => rfl
  | n + 1 => by
    rw [List.range_succ, List.filter_append, List.map_append, List.sum_append, bits_sum f n, bitsOf]
    have lt := bits_lt f n
    cases q : f n
    · rw [List.filter_cons, q]
      simp
    · rw [List.filter_cons, q]
      have e := Nat.two_pow_add_eq_or_of_lt lt 1
      rw [Nat.mul_one] at e
      simp only [if_true, List.filter_nil, List.map_cons, List.map_nil, List.sum_cons, List.sum_nil]
      rw [Nat.or_comm, ← e]
      omega
/-- the dict of new numbers at a -/
def OrdAt (H : Hp) (a : Addr) (ord : List Nat) : Prop := ∃ o, H a = some (.frz o (.dK (ordKV ord)))
theorem OrdAt.same {H H' : Hp} {a : Addr} {ord : List Nat} (h : OrdAt H a ord) (s : Same H H') : OrdAt H' a ord := by
  obtain ⟨o, h⟩ := h
  exact ⟨o, s _ _ h⟩
theorem OrdAt.get {H : Hp} {a : Addr} {ord : List Nat} {k : Nat} (h : OrdAt H a ord) (hk : k ∈ ord) : DGet H a (.int (k : Int)) (some (.int (mv ord k : Int))) := by
  obtain ⟨o, h⟩ := h
  exact .inl ⟨_, .inl (k : Int), .inr ⟨o, h⟩, rfl, (ordKV_val hk).symm⟩
def spBy : Sp := fun vs H Q _ => ∃ (s : Nat) (a : Addr) (ord : List Nat), vs = [.int (s : Int), .ref a] ∧ OrdAt H a ord ∧ ord.Nodup ∧ ord.length ≤ 9 ∧ ∀ H', Same H H' → Q (.int (imgS ord s : Int)) H'
theorem mv_nodup : ∀ {ord : List Nat} {i x : Nat}, ord.Nodup → ord[i]? = some x → mv ord x = i
  | [], i, x, _, h => by simp at h
  | y :: ord, 0, x, nd, h => by
    rw [List.getElem?_cons_zero] at h
    cases h
    rw [mv, if_pos rfl]
  | y :: ord, i + 1, x, nd, h => by
    rw [List.getElem?_cons_succ] at h
    rw [List.nodup_cons] at nd
    rw [mv, if_neg (fun z => nd.1 (by rw [z]; exact List.mem_of_getElem? h)), mv_nodup nd.2 h]
theorem Same.putK {H H1 : Hp} {d : Addr} {kvs : List (Key × V)} (s : Same H H1) (n : H d = none) (e : H1 d = some (.dK kvs)) (o : HO) : Same H (L2.upd H1 d o) := fun b u hb => by
  have ne : b ≠ d := ne_of_none hb n
  have z := s b u hb
  cases u
  case tbl ps =>
    refine ⟨⟨z.1.choose, by rw [upd_ne ne]; exact z.1.choose_spec⟩, fun t => ?_⟩
    obtain ⟨qs, hq, tr, hp⟩ := z.2 t
    refine ⟨qs, by rw [upd_ne ne]; exact hq, tr, fun pos => ?_⟩
    rcases hp pos with y | ⟨c, y1, y2⟩
    · exact .inl y
    · refine .inr ⟨c, y1, ?_⟩
      rw [upd_ne fun z => by rw [z, e] at y2; cases y2]
      exact y2
  all_goals (show L2.upd H1 d o b = _; rw [upd_ne ne]; exact z)
/-! ### the order drawn: no option ahead of its up -/
structure UpsOk (m : Nat) (L : List Bg) : Prop where
  low : ∀ b ∈ L, ∀ k ∈ b.ks, b.u < k
  all : (L.flatMap (·.ks)).Perm (List.range' 1 (m - 1))
structure OrdOk (L : List Bg) (m : Nat) (ord : List Nat) : Prop where
  nd : ord.Nodup
  mem : ∀ k, k ∈ ord ↔ k < m
  len : ord.length = m
  zero : mv ord 0 = 0
  up : ∀ b ∈ L, ∀ k ∈ b.ks, mv ord b.u < mv ord k
/-- options and their ups -/
def upP (L : List Bg) : List (Nat × Nat) := L.flatMap fun b => b.ks.map fun k => (k, b.u)
theorem upP_keys (L : List Bg) : (upP L).map (·.1) = L.flatMap (·.ks) := by
  induction L with
  | nil => rfl
  | cons b L ih =>
    have e1 : upP (b :: L) = (b.ks.map fun k => (k, b.u)) ++ upP L := List.flatMap_cons
    rw [e1, List.map_append, ih, List.map_map, List.flatMap_cons]
    congr 1
    exact List.map_id' _
theorem UpsOk.nodup {m : Nat} {L : List Bg} (h : UpsOk m L) : ((upP L).map (·.1)).Nodup := by
  rw [upP_keys]
  exact (h.all.nodup_iff).mpr List.nodup_range'
theorem UpsOk.has {m k : Nat} {L : List Bg} (h : UpsOk m L) (k1 : 1 ≤ k) (km : k < m) : ∃ u, (k, u) ∈ upP L ∧ u < k := by
  have hk : k ∈ L.flatMap (·.ks) := (h.all.mem_iff).mpr (List.mem_range'_1.mpr ⟨k1, by omega⟩)
  obtain ⟨b, hb, hkb⟩ := List.mem_flatMap.mp hk
  exact ⟨b.u, List.mem_flatMap.mpr ⟨b, hb, List.mem_map.mpr ⟨k, hkb, rfl⟩⟩, h.low b hb k hkb⟩
def upAt (L : List Bg) (k : Nat) : Nat := (((upP L).find? fun p => decide (p.1 = k)).map (·.2)).getD 0
theorem UpsOk.upAt {m k : Nat} {L : List Bg} (h : UpsOk m L) (k1 : 1 ≤ k) (km : k < m) : (k, upAt L k) ∈ upP L := by
  obtain ⟨u, hu, _⟩ := h.has k1 km
  unfold Ow.upAt
  cases e : (upP L).find? fun p => decide (p.1 = k) with
  | none =>
    have := List.find?_eq_none.mp e _ hu
    simp at this
  | some p =>
    have h1 := List.mem_of_find?_eq_some e
    have h2 : p.1 = k := by simpa using List.find?_some e
    show (k, p.2) ∈ upP L
    rw [← h2]
    exact h1
/-- the dict of ups holds what was walked -/
structure UpsD (kvs : List (Key × V)) (ps : List (Nat × Nat)) : Prop where
  val : ∀ k u : Nat, (k, u) ∈ ps → valV kvs (.inl (k : Int)) = some (.int (u : Int))
  len : kvs.length ≤ ps.length
theorem UpsD.put {kvs : List (Key × V)} {ps : List (Nat × Nat)} {k u : Nat} (h : UpsD kvs ps) (nk : k ∉ ps.map (·.1)) : UpsD (putK kvs (.inl (k : Int)) (.int (u : Int))) (ps ++ [(k, u)]) := by
  refine ⟨fun k' u' hm => ?_, ?_⟩
  · rw [valV_put]
    rcases List.mem_append.mp hm with z | z
    · rw [if_neg (fun e => nk ?_)]
      · exact h.val k' u' z
      · injection e with e
        have e : k' = k := by omega
        rw [← e]
        exact List.mem_map.mpr ⟨_, z, rfl⟩
    · have z := List.mem_singleton.mp z
      injection z with z1 z2
      rw [z1, z2, if_pos rfl]
  · have := length_putK kvs (.inl (k : Int)) (.int (u : Int))
    have := h.len
    rw [List.length_append, List.length_singleton]
    omega
/-- a beginning of an order: options that are there have their ups ahead of them -/
structure OrdB (L : List Bg) (m : Nat) (ord : List Nat) : Prop where
  nd : ord.Nodup
  lt : ∀ k ∈ ord, k < m
  zero : ∃ r, ord = 0 :: r
  up : ∀ k u, (k, u) ∈ upP L → k ∈ ord → u ∈ ord ∧ mv ord u < mv ord k
theorem mv_app {l : List Nat} {k x : Nat} (h : x ∈ l) : mv (l ++ [k]) x = mv l x := by
  induction l with
  | nil => cases h
  | cons y l ih =>
    rw [List.cons_append, mv, mv]
    by_cases e : y = x
    · rw [if_pos e, if_pos e]
    · rw [if_neg e, if_neg e, ih ((List.mem_cons.mp h).resolve_left fun z => e z.symm)]
theorem mv_last {l : List Nat} {k : Nat} (h : k ∉ l) : mv (l ++ [k]) k = l.length := by
  induction l with
  | nil => rw [List.nil_append, mv, if_pos rfl]; rfl
  | cons y l ih =>
    rw [List.cons_append, mv, if_neg (fun e => h (by rw [e]; exact List.mem_cons_self)), ih fun z => h (List.mem_cons_of_mem _ z)]
    rfl
theorem OrdB.snoc {L : List Bg} {m k : Nat} {ord : List Nat} (h : OrdB L m ord) (nk : k ∉ ord) (km : k < m) (hu : ∀ u, (k, u) ∈ upP L → u ∈ ord) : OrdB L m (ord ++ [k]) := by
  refine ⟨nd_snoc h.nd nk, fun x hx => ?_, ?_, fun x u hx hm => ?_⟩
  · rcases List.mem_append.mp hx with z | z
    · exact h.lt x z
    · rw [List.mem_singleton.mp z]
      exact km
  · obtain ⟨r, e⟩ := h.zero
    exact ⟨r ++ [k], by rw [e]; rfl⟩
  · rcases List.mem_append.mp hm with z | z
    · obtain ⟨h1, h2⟩ := h.up x u hx z
      exact ⟨List.mem_append_left _ h1, by rw [mv_app h1, mv_app z]; exact h2⟩
    · have z := List.mem_singleton.mp z
      subst z
      have hu' := hu u hx
      refine ⟨List.mem_append_left _ hu', ?_⟩
      rw [mv_app hu', mv_last nk]
      exact mv_lt hu'
theorem sub_le : ∀ {l1 l2 : List Nat}, l1.Nodup → (∀ x ∈ l1, x ∈ l2) → l1.length ≤ l2.length
  | [], l2, _, _ => Nat.zero_le _
  | x :: l1, l2, nd, h => by
    rw [List.nodup_cons] at nd
    have hx := h x List.mem_cons_self
    have e := List.length_erase_of_mem hx
    have p : 0 < l2.length := List.length_pos_of_mem hx
    have ih := sub_le (l2 := l2.erase x) nd.2 fun y hy => (List.mem_erase_of_ne (fun z => nd.1 (by rw [← z]; exact hy))).mpr (h y (List.mem_cons_of_mem _ hy))
    rw [List.length_cons]
    omega
theorem OrdB.ok {L : List Bg} {m : Nat} {ord : List Nat} (h : OrdB L m ord) (U : UpsOk m L) (hl : ord.length = m) : OrdOk L m ord := by
  have mem : ∀ k, k ∈ ord ↔ k < m := fun k => by
    refine ⟨h.lt k, fun km => ?_⟩
    by_cases hk : k ∈ ord
    · exact hk
    · have := sub_le (l1 := k :: ord) (l2 := List.range m) (List.nodup_cons.mpr ⟨hk, h.nd⟩) fun x hx => by
        rcases List.mem_cons.mp hx with z | z
        · rw [z]; exact List.mem_range.mpr km
        · exact List.mem_range.mpr (h.lt x z)
      rw [List.length_cons, List.length_range] at this
      omega
  refine ⟨h.nd, mem, hl, ?_, fun b hb k hk => ?_⟩
  · obtain ⟨r, e⟩ := h.zero
    rw [e, mv, if_pos rfl]
  · have hp : (k, b.u) ∈ upP L := List.mem_flatMap.mpr ⟨b, hb, List.mem_map.mpr ⟨k, hk, rfl⟩⟩
    have hk2 : k ∈ List.range' 1 (m - 1) := (U.all.mem_iff).mp (List.mem_flatMap.mpr ⟨b, hb, hk⟩)
    have := List.mem_range'_1.mp hk2
    exact (h.up k b.u hp ((mem k).mpr (by omega))).2
/-- some option is ready -/
theorem OrdB.ready {L : List Bg} {m : Nat} {ord : List Nat} (h : OrdB L m ord) (U : UpsOk m L) (hl : ord.length < m) : ∃ k u, 1 ≤ k ∧ k < m ∧ k ∉ ord ∧ (k, u) ∈ upP L ∧ u ∈ ord := by
  apply Classical.byContradiction
  intro no
  have all : ∀ k, k < m → k ∈ ord := fun k => by
    induction k using Nat.strongRecOn with
    | _ k ih =>
      intro km
      by_cases k0 : k = 0
      · obtain ⟨r, e⟩ := h.zero
        rw [k0, e]
        exact List.mem_cons_self
      · obtain ⟨u, hu, lt⟩ := U.has (k := k) (by omega) km
        by_cases hk : k ∈ ord
        · exact hk
        · exact absurd ⟨k, u, by omega, km, hk, hu, ih u lt (by omega)⟩ no
  have := sub_le (l1 := List.range m) (l2 := ord) List.nodup_range fun x hx => all x (List.mem_range.mp hx)
  rw [List.length_range] at this
  omega
def spOrder (K : PySem.W.Frag) : Sp := fun vs H Q _ => ∃ (sp lb : Addr) (ns : List Int) (L : List Bg) (xs : List V) (m : Nat), vs = [.ref sp, .ref lb, .int (m : Int)] ∧ SqL K H sp (ns.map V.int) ∧ ns.length ≤ 63 ∧ H lb = some (.lst xs) ∧ DnL H ((L.map Bg.tie).map Tie.toD) xs ∧ UpsOk m L ∧ 1 ≤ m ∧ m ≤ 9 ∧
  ∀ (p : Addr) (ord : List Nat) (H' : Hp), Same H H' → H p = none → OrdAt H' p ord → OrdOk L m ord → Q (.ref p) H'
/-! ### ties by the new numbers -/
theorem nats_of_ints {ms : List Int} {l : List Nat} (p : ms.Perm (l.map fun k : Nat => (k : Int))) (so : ms.Pairwise (· ≤ ·)) (nd : l.Nodup) : ∃ M : List Nat, ms = (M.map fun k : Nat => (k : Int)) ∧ M.Perm l ∧ M.Pairwise (· < ·) := by
  have nn : ∀ x ∈ ms, 0 ≤ x := fun x hx => by
    obtain ⟨k, _, rfl⟩ := List.mem_map.mp ((p.mem_iff).mp hx)
    exact Int.natCast_nonneg k
  have e : ms = (ms.map Int.toNat).map fun k : Nat => (k : Int) := by
    rw [List.map_map]
    refine (List.map_id'' (fun x => rfl) ms).symm.trans (List.map_congr_left fun x hx => ?_)
    show x = ((x.toNat : Nat) : Int)
    have := nn x hx
    omega
  have pm : (ms.map Int.toNat).Perm l := by
    have := p.map Int.toNat
    rw [List.map_map] at this
    refine this.trans ?_
    have e2 : (Int.toNat ∘ fun k : Nat => (k : Int)) = id := by funext k; rfl
    rw [e2, List.map_id]
  refine ⟨ms.map Int.toNat, e, pm, ?_⟩
  have nd2 : (ms.map Int.toNat).Nodup := (pm.nodup_iff).mpr nd
  rw [List.pairwise_map]
  rw [List.nodup_iff_pairwise_ne, List.pairwise_map] at nd2
  exact (so.and nd2).imp_of_mem fun {a b} ha hb h => by
    have := nn a ha
    have := nn b hb
    have h1 := h.1
    have h2 := h.2
    omega
def spMovedB : Sp := fun vs H Q _ => ∃ (v : V) (a : Addr) (b : Bg) (ord : List Nat), vs = [v, .ref a] ∧ Dn H b.tie.toD v ∧ OrdAt H a ord ∧ ord.Nodup ∧ b.u ∈ ord ∧ (∀ k ∈ b.ks, k ∈ ord) ∧ b.ks.Nodup ∧ b.ks.length ≤ 1000 ∧
  ∀ (v' : V) (ks : List Nat) (H' : Hp), Same H H' → ks.Perm (b.ks.map (mv ord)) → ks.Pairwise (· < ·) → Dn H' (Tie.bough (mv ord b.u) b.lo b.hi ks).toD v' → Q v' H'
theorem mv_map_nodup {ord ks : List Nat} (nd : ks.Nodup) (h : ∀ k ∈ ks, k ∈ ord) : (ks.map (mv ord)).Nodup := by
  rw [List.nodup_iff_pairwise_ne, List.pairwise_map]
  rw [List.nodup_iff_pairwise_ne] at nd
  refine nd.imp_of_mem fun {x y} hx hy ne e => ne ?_
  have h1 := mv_at (h x hx)
  have h2 := mv_at (h y hy)
  rw [e, h2] at h1
  exact (Option.some.inj h1).symm
end Ow

set_option maxRecDepth 100000
set_option maxHeartbeats 4000000
namespace Ow
open PySem L2 Wd
/-! ### pairs sorted -/
def pairOf (H : Hp) (a : Addr) : Nat × Int := match H a with
  | some (.tup [.int k, .int c]) => (k.toNat, c)
  | _ => (0, 0)
theorem pairs_es {H : Hp} : ∀ {qs : List (Nat × Int)} {ys : List V}, DnL H (qs.map pairD) ys → ∃ es : List (Int × Addr), ys = es.map (fun e => V.ref e.2) ∧ es.map (fun e => pairOf H e.2) = qs ∧ ∀ e ∈ es, H e.2 = some (.tup [.int e.1, .int (pairOf H e.2).2]) ∧ e.1 = (((pairOf H e.2).1 : Nat) : Int)
  | [], ys, h => ⟨[], h, rfl, fun e he => nomatch he⟩
  | q :: qs, _, ⟨v, r, e, ⟨a, xs, ev, ha, x1, r1, ex1, z1, x2, r2, ex2, z2, z3⟩, z⟩ => by
    obtain ⟨es, h1, h2, h3⟩ := pairs_es z
    have z1 : x1 = .int (q.1 : Int) := z1
    have z2 : x2 = .int q.2 := z2
    have z3 : r2 = [] := z3
    have ha' : H a = some (.tup [.int (q.1 : Int), .int q.2]) := by rw [ha, ex1, ex2, z1, z2, z3]
    have pa : pairOf H a = q := by
      unfold pairOf
      rw [ha']
      rfl
    refine ⟨((q.1 : Int), a) :: es, by rw [e, ev, h1]; rfl, by rw [List.map_cons, h2, pa], fun e he => ?_⟩
    rcases List.mem_cons.mp he with y | y
    · rw [y]
      show H a = some (.tup [.int (q.1 : Int), .int (pairOf H a).2]) ∧ (q.1 : Int) = (((pairOf H a).1 : Nat) : Int)
      rw [pa]
      exact ⟨ha', rfl⟩
    · exact h3 e y
theorem pairs_of_es {H : Hp} : ∀ (es : List (Int × Addr)), (∀ e ∈ es, H e.2 = some (.tup [.int e.1, .int (pairOf H e.2).2]) ∧ e.1 = (((pairOf H e.2).1 : Nat) : Int)) → DnL H ((es.map fun e => pairOf H e.2).map pairD) (es.map fun e => V.ref e.2)
  | [], _ => rfl
  | e :: es, h => by
    obtain ⟨h1, h2⟩ := h e List.mem_cons_self
    refine ⟨_, _, rfl, ⟨e.2, _, rfl, h1, _, _, rfl, ?_, _, _, rfl, rfl, rfl⟩, pairs_of_es es fun x hx => h x (List.mem_cons_of_mem _ hx)⟩
    show V.int e.1 = V.int _
    rw [h2]
theorem pairs_sort {H : Hp} {qs : List (Nat × Int)} {ys : List V} (dn : DnL H (qs.map pairD) ys) (nd : (qs.map (·.1)).Nodup) (few : qs.length ≤ 60) : ∃ es : List (Int × Addr), ys = es.map (fun e => V.ref e.2) ∧ TupsBy H es ∧ es.length < 64 ∧
    ∀ es' : List (Int × Addr), es'.Perm es → (es'.map (·.1)).Pairwise (· < ·) → ∃ ps : List (Nat × Int), ps.Perm qs ∧ (ps.map (·.1)).Pairwise (· < ·) ∧ DnL H (ps.map pairD) (es'.map fun e => V.ref e.2) := by
  obtain ⟨es, e1, e3, e4⟩ := pairs_es dn
  have ln : es.length = qs.length := by rw [← e3, List.length_map]
  refine ⟨es, e1, ⟨fun e he => ⟨_, (e4 e he).1⟩, ?_⟩, by omega, fun es' pe pw => ?_⟩
  · have : es.map (·.1) = (qs.map (·.1)).map fun k : Nat => (k : Int) := by
      rw [← e3, List.map_map, List.map_map]
      exact List.map_congr_left fun e he => (e4 e he).2
    rw [this, List.nodup_iff_pairwise_ne, List.pairwise_map]
    exact List.Pairwise.imp (fun {a b} h z => h (by omega)) (List.nodup_iff_pairwise_ne.mp nd)
  have e4' := fun e (he : e ∈ es') => e4 e (pe.mem_iff.mp he)
  refine ⟨es'.map fun e => pairOf H e.2, by rw [← e3]; exact pe.map _, ?_, pairs_of_es es' e4'⟩
  rw [List.map_map, List.pairwise_map]
  rw [List.pairwise_map] at pw
  refine List.Pairwise.imp_of_mem (fun {a b} ha hb h => ?_) pw
  have a1 := (e4' a ha).2
  have b1 := (e4' b hb).2
  show (pairOf H a.2).1 < (pairOf H b.2).1
  omega
/-! ### a cross tie by the new numbers -/
def MovedT (ord : List Nat) : Tie → Tie → Prop
  | .needs a b, t => t = .needs (mv ord a) (mv ord b)
  | .bans a b, t => t = .bans (mv ord a) (mv ord b)
  | .most top ps, t => ∃ qs : List (Nat × Int), t = .most top qs ∧ qs.Perm (ps.map fun p => (mv ord p.1, p.2)) ∧ (qs.map (·.1)).Pairwise (· < ·)
  | .bough u lo hi ks, t => ∃ ls : List Nat, t = .bough (mv ord u) lo hi ls ∧ ls.Perm (ks.map (mv ord)) ∧ ls.Pairwise (· < ·)
def spMovedT : Sp := fun vs H Q _ => ∃ (v : V) (a : Addr) (t : Tie) (m : Nat) (ord : List Nat), vs = [v, .ref a] ∧ Dn H t.toD v ∧ t.Ok m ∧ m ≤ 9 ∧ (∀ u lo hi ks, t ≠ .bough u lo hi ks) ∧ OrdAt H a ord ∧ (∀ k, k < m → k ∈ ord) ∧
  ∀ (v' : V) (t' : Tie) (H' : Hp), Same H H' → MovedT ord t t' → Dn H' t'.toD v' → Q v' H'
theorem sumP_perm {f : Nat × Int → Bool} {ps qs : List (Nat × Int)} (p : ps.Perm qs) : sumP ps f = sumP qs f := by
  induction p with
  | nil => rfl
  | cons x _ ih => rw [sumP_cons, sumP_cons, ih]
  | swap x y l => rw [sumP_cons, sumP_cons, sumP_cons, sumP_cons]; omega
  | trans _ _ h1 h2 => exact h1.trans h2
theorem sumP_img {ord : List Nat} {g : Nat → Int → Bool} {h : Nat → Int → Bool} : ∀ {ps : List (Nat × Int)}, (∀ p ∈ ps, g (mv ord p.1) p.2 = h p.1 p.2) → sumP (ps.map fun p => (mv ord p.1, p.2)) (fun p => g p.1 p.2) = sumP ps (fun p => h p.1 p.2)
  | [], _ => rfl
  | p :: ps, hp => by
    rw [List.map_cons, sumP_cons, sumP_cons, sumP_img fun q hq => hp q (List.mem_cons_of_mem _ hq)]
    show (if g (mv ord p.1) p.2 = true then p.2 else 0) + _ = _
    rw [hp p List.mem_cons_self]
theorem cnt_moved {ord ks ls : List Nat} {s : Nat} (p : ls.Perm (ks.map (mv ord))) (h : ∀ k ∈ ks, k ∈ ord) : cnt ls (imgS ord s) = cnt ks s := by
  unfold cnt
  rw [(p.filter _).length_eq, List.filter_map, List.length_map]
  congr 1
  exact List.filter_congr fun k hk => img_mv (h k hk)
section
variable {L : List Bg} {m : Nat} {ord : List Nat} {t t' : Tie}
theorem keep_moved (O : OrdOk L m ord) (ok : t.Ok m) (h : MovedT ord t t') (s : Nat) : t'.keep (imgS ord s) = t.keep s := by
  have im : ∀ k, k < m → (imgS ord s).testBit (mv ord k) = s.testBit k := fun k hk => img_mv ((O.mem k).mpr hk)
  cases t with
  | needs a b =>
    have h : t' = _ := h
    subst h
    simp only [Tie.keep, im a ok.1, im b ok.2.1]
  | bans a b =>
    have h : t' = _ := h
    subst h
    simp only [Tie.keep, im a ok.1, im b ok.2.1]
  | most top ps =>
    obtain ⟨qs, rfl, q1, q2⟩ := h
    simp only [Tie.keep]
    rw [sumP_perm q1, sumP_img (g := fun k _ => (imgS ord s).testBit k) (h := fun k _ => s.testBit k) fun p hp => im p.1 (ok.2.1 p hp)]
  | bough u lo hi ks =>
    obtain ⟨ls, rfl, q1, q2⟩ := h
    have ok : Tie.BoughOkW m u lo hi ks := ok
    simp only [Tie.keep, im u ok.um, cnt_moved q1 fun k hk => (O.mem k).mpr (ok.up k hk).2]
theorem sb_moved (O : OrdOk L m ord) (ok : t.Ok m) (h : MovedT ord t t') (y n : Nat) : t'.sb (imgS ord y) (imgS ord n) = t.sb y n := by
  have im : ∀ s k, k < m → (imgS ord s).testBit (mv ord k) = s.testBit k := fun s k hk => img_mv ((O.mem k).mpr hk)
  cases t with
  | needs a b =>
    have h : t' = _ := h
    subst h
    simp only [Tie.sb, im _ a ok.1, im _ b ok.2.1]
  | bans a b =>
    have h : t' = _ := h
    subst h
    simp only [Tie.sb, im _ a ok.1, im _ b ok.2.1]
  | most top ps =>
    obtain ⟨qs, rfl, q1, q2⟩ := h
    have e : leastSum qs (imgS ord y) (imgS ord n) = leastSum ps y n := by
      unfold leastSum
      rw [sumP_perm q1, sumP_img (g := fun k c => (imgS ord y).testBit k || (decide (c < 0) && !(imgS ord n).testBit k)) (h := fun k c => y.testBit k || (decide (c < 0) && !n.testBit k)) fun p hp => by rw [im y p.1 (ok.2.1 p hp), im n p.1 (ok.2.1 p hp)]]
    show decide (top < leastSum qs (imgS ord y) (imgS ord n)) = decide (top < leastSum ps y n)
    rw [e]
  | bough u lo hi ks =>
    obtain ⟨ls, rfl, q1, q2⟩ := h
    have ok : Tie.BoughOkW m u lo hi ks := ok
    have hk : ∀ k ∈ ks, k ∈ ord := fun k hk => (O.mem k).mpr (ok.up k hk).2
    have ll : ls.length = ks.length := by rw [q1.length_eq, List.length_map]
    simp only [Tie.sb, im _ u ok.um, cnt_moved q1 hk, ll]
theorem sk_moved (O : OrdOk L m ord) (ok : t.Ok m) (h : MovedT ord t t') (y n : Nat) : t'.sk (imgS ord y) (imgS ord n) = t.sk y n := by
  have im : ∀ s k, k < m → (imgS ord s).testBit (mv ord k) = s.testBit k := fun s k hk => img_mv ((O.mem k).mpr hk)
  cases t with
  | needs a b =>
    have h : t' = _ := h
    subst h
    simp only [Tie.sk, im _ a ok.1, im _ b ok.2.1]
  | bans a b =>
    have h : t' = _ := h
    subst h
    simp only [Tie.sk, im _ a ok.1, im _ b ok.2.1]
  | most top ps =>
    obtain ⟨qs, rfl, q1, q2⟩ := h
    have e : greatSum qs (imgS ord y) (imgS ord n) = greatSum ps y n := by
      unfold greatSum
      rw [sumP_perm q1, sumP_img (g := fun k c => (imgS ord y).testBit k || (decide (0 < c) && !(imgS ord n).testBit k)) (h := fun k c => y.testBit k || (decide (0 < c) && !n.testBit k)) fun p hp => by rw [im y p.1 (ok.2.1 p hp), im n p.1 (ok.2.1 p hp)]]
    show decide (greatSum qs (imgS ord y) (imgS ord n) ≤ top) = decide (greatSum ps y n ≤ top)
    rw [e]
  | bough u lo hi ks =>
    obtain ⟨ls, rfl, q1, q2⟩ := h
    have ok : Tie.BoughOkW m u lo hi ks := ok
    have hk : ∀ k ∈ ks, k ∈ ord := fun k hk => (O.mem k).mpr (ok.up k hk).2
    have ll : ls.length = ks.length := by rw [q1.length_eq, List.length_map]
    simp only [Tie.sk, im _ u ok.um, cnt_moved q1 hk, ll]
theorem mv_inj {a b : Nat} (ha : a ∈ ord) (hb : b ∈ ord) (e : mv ord a = mv ord b) : a = b := by
  have h1 := mv_at ha
  have h2 := mv_at hb
  rw [e, h2] at h1
  exact (Option.some.inj h1).symm
/-- a tie by the new numbers is a tie -/
theorem moved_ok (O : OrdOk L m ord) (ok : t.Ok m) (h : MovedT ord t t') (up : ∀ u lo hi ks, t = .bough u lo hi ks → ∀ k ∈ ks, mv ord u < mv ord k) : t'.Ok m := by
  have lt : ∀ k, k < m → mv ord k < m := fun k hk => by
    have := mv_lt ((O.mem k).mpr hk)
    rwa [O.len] at this
  cases t with
  | needs a b =>
    have h : t' = _ := h
    subst h
    exact ⟨lt a ok.1, lt b ok.2.1, fun z => ok.2.2 (mv_inj ((O.mem a).mpr ok.1) ((O.mem b).mpr ok.2.1) z)⟩
  | bans a b =>
    have h : t' = _ := h
    subst h
    exact ⟨lt a ok.1, lt b ok.2.1, fun z => ok.2.2 (mv_inj ((O.mem a).mpr ok.1) ((O.mem b).mpr ok.2.1) z)⟩
  | most top ps =>
    obtain ⟨qs, rfl, q1, q2⟩ := h
    obtain ⟨o1, o2, o3, o4⟩ := ok
    have ln : qs.length = ps.length := by rw [q1.length_eq, List.length_map]
    refine ⟨fun z => o1 (List.length_eq_zero_iff.mp (by rw [← ln, z]; rfl)), fun p hp => ?_, q2, by omega⟩
    obtain ⟨f, hf, rfl⟩ := List.mem_map.mp ((q1.mem_iff).mp hp)
    exact lt f.1 (o2 f hf)
  | bough u lo hi ks =>
    obtain ⟨ls, rfl, q1, q2⟩ := h
    have ok : Tie.BoughOkW m u lo hi ks := ok
    have ln : ls.length = ks.length := by rw [q1.length_eq, List.length_map]
    refine (show Tie.BoughOkW m (mv ord u) lo hi ls from ⟨lt u ok.um, fun z => ok.ks0 (List.length_eq_zero_iff.mp (by rw [← ln, z]; rfl)), fun k hk => ?_, q2, by have := ok.few; omega, ok.lo0, ok.lohi⟩)
    obtain ⟨f, hf, rfl⟩ := List.mem_map.mp ((q1.mem_iff).mp hk)
    exact ⟨up u lo hi ks rfl f hf, lt f (ok.up f hf).2⟩
end
/-! ### ups and what is beneath -/
def upO (L : List Bg) (k : Nat) : Option Nat := (L.find? fun b => decide (k ∈ b.ks)).map (·.u)
def upV : Option Nat → V
  | some u => .int (u : Int)
  | none => .non
def WdL (H : Hp) (wd : Addr) (m : Nat) (L : List Bg) : Prop := ∃ tb tc : Addr, H wd = some (.tup [.int (m : Int), .ref tb, .ref tc]) ∧ TiesAt H tb (L.map Bg.tie)
def spUpO : Sp := fun vs H Q _ => ∃ (wd : Addr) (m k : Nat) (L : List Bg), vs = [.ref wd, .int (k : Int)] ∧ WdL H wd m L ∧ Q (upV (upO L k)) H
theorem up_find {L : List Bg} {i k : Nat} {b : Bg} (h : L[i]? = some b) (n : (L.take i).find? (fun b => decide (k ∈ b.ks)) = none) (hk : k ∈ b.ks) : upO L k = some b.u := by
  obtain ⟨hi, e⟩ := List.getElem?_eq_some_iff.mp h
  have eL : L = L.take i ++ b :: L.drop (i + 1) := by
    rw [← e, ← List.drop_eq_getElem_cons hi, List.take_append_drop]
  unfold upO
  rw [eL, List.find?_append, n, Option.none_or, List.find?_cons, decide_eq_true hk]
  rfl
theorem up_mem {L : List Bg} {m k : Nat} (U : UpsOk m L) (k1 : 1 ≤ k) (km : k < m) : ∃ u, upO L k = some u ∧ (k, u) ∈ upP L ∧ u < k := by
  obtain ⟨u, hu, lt⟩ := U.has k1 km
  obtain ⟨b, hb, hkb⟩ := List.mem_flatMap.mp hu
  obtain ⟨k', hk', e⟩ := List.mem_map.mp hkb
  injection e with e1 e2
  subst e1 e2
  unfold upO
  cases q : L.find? fun b => decide (k' ∈ b.ks) with
  | none =>
    have := List.find?_eq_none.mp q b hb
    simp [hk'] at this
  | some b' =>
    have h1 := List.mem_of_find?_eq_some q
    have h2 : k' ∈ b'.ks := by simpa using List.find?_some q
    exact ⟨b'.u, rfl, List.mem_flatMap.mpr ⟨b', h1, List.mem_map.mpr ⟨k', h2, rfl⟩⟩, U.low b' h1 k' h2⟩
/-- the set beneath k, up to the n-th option behind it -/
def benN (L : List Bg) (k : Nat) : Nat → Nat
  | 0 => 2 ^ k
  | n + 1 => if (benN L k n).testBit ((upO L (k + 1 + n)).getD 0) = true then benN L k n ||| 2 ^ (k + 1 + n) else benN L k n
def spBenN : Sp := fun vs H Q _ => ∃ (wd : Addr) (m k : Nat) (L : List Bg), vs = [.ref wd, .int (k : Int)] ∧ WdL H wd m L ∧ UpsOk m L ∧ k < m ∧ m ≤ 9 ∧ Q (.int (benN L k (m - 1 - k) : Int)) H
/-- k is j or above it -/
inductive Anc (L : List Bg) (k : Nat) : Nat → Prop
  | self : Anc L k k
  | up {j u : Nat} (hu : (j, u) ∈ upP L) (a : Anc L k u) : Anc L k j
theorem anc_inv {L : List Bg} {k j : Nat} (a : Anc L k j) : j = k ∨ ∃ u, (j, u) ∈ upP L ∧ Anc L k u := by
  cases a with
  | self => exact .inl rfl
  | up hu a => exact .inr ⟨_, hu, a⟩
theorem anc_le {L : List Bg} {m k j : Nat} (U : UpsOk m L) (a : Anc L k j) : k ≤ j := by
  induction a with
  | self => exact Nat.le_refl _
  | @up j u hu _ ih =>
    obtain ⟨b, hb, hkb⟩ := List.mem_flatMap.mp hu
    obtain ⟨k', hk', e⟩ := List.mem_map.mp hkb
    injection e with e1 e2
    have := U.low b hb k' hk'
    omega
theorem up_one {L : List Bg} {m k u u' : Nat} (U : UpsOk m L) (h : (k, u) ∈ upP L) (h' : (k, u') ∈ upP L) : u = u' := by
  have nd := U.nodup
  have go : ∀ {ps : List (Nat × Nat)}, (ps.map (·.1)).Nodup → (k, u) ∈ ps → (k, u') ∈ ps → u = u' := fun {ps} => by
    induction ps with
    | nil => intro _ z; cases z
    | cons p ps ih =>
      intro nd a b
      rw [List.map_cons, List.nodup_cons] at nd
      rcases List.mem_cons.mp a with a | a <;> rcases List.mem_cons.mp b with b | b
      · rw [← a] at b
        injection b with _ b
        exact b.symm
      · exact absurd (List.mem_map.mpr ⟨_, b, rfl⟩) (by rw [← a] at nd; exact nd.1)
      · exact absurd (List.mem_map.mpr ⟨_, a, rfl⟩) (by rw [← b] at nd; exact nd.1)
      · exact ih nd.2 a b
  exact go nd h h'
theorem ben_bit {L : List Bg} {m k : Nat} (U : UpsOk m L) : ∀ (n : Nat), k + 1 + n ≤ m → ∀ j, (benN L k n).testBit j = true ↔ (j < k + 1 + n ∧ Anc L k j)
  | 0, hn, j => by
    show (2 ^ k).testBit j = true ↔ _
    rw [Nat.testBit_two_pow, decide_eq_true_iff]
    constructor
    · intro e
      subst e
      exact ⟨by omega, .self⟩
    · rintro ⟨h1, h2⟩
      have := anc_le U h2
      omega
  | n + 1, hn, j => by
    have ih := ben_bit (k := k) U n (by omega)
    obtain ⟨u, hu, hm, lt⟩ := up_mem U (k := k + 1 + n) (by omega) (by omega)
    have key : Anc L k (k + 1 + n) ↔ (benN L k n).testBit u = true := by
      rw [ih u]
      constructor
      · intro a
        rcases anc_inv a with z | ⟨u', hu', a'⟩
        · omega
        · have e : u' = u := up_one U hu' hm
          rw [e] at a'
          exact ⟨by omega, a'⟩
      · rintro ⟨_, a⟩
        exact .up hm a
    show (if (benN L k n).testBit ((upO L (k + 1 + n)).getD 0) = true then benN L k n ||| 2 ^ (k + 1 + n) else benN L k n).testBit j = true ↔ _
    rw [hu, Option.getD_some]
    by_cases c : (benN L k n).testBit u = true
    · rw [if_pos c, Nat.testBit_or, Bool.or_eq_true, ih j, Nat.testBit_two_pow, decide_eq_true_iff]
      constructor
      · rintro (⟨h1, h2⟩ | h)
        · exact ⟨by omega, h2⟩
        · subst h
          exact ⟨by omega, key.mpr c⟩
      · rintro ⟨h1, h2⟩
        by_cases e : j = k + 1 + n
        · exact .inr e.symm
        · exact .inl ⟨by omega, h2⟩
    · rw [if_neg c, ih j]
      constructor
      · rintro ⟨h1, h2⟩
        exact ⟨by omega, h2⟩
      · rintro ⟨h1, h2⟩
        refine ⟨?_, h2⟩
        by_cases e : j = k + 1 + n
        · subst e
          exact absurd (key.mp h2) c
        · omega
end Ow

set_option maxRecDepth 100000
set_option maxHeartbeats 4000000
namespace L2
open PySem PySem.Spec PyProof.Rows
/-- over a list or a tuple that stays as it is -/
theorem lc_seq {K : PySem.W.Frag} {a : Addr} {xs : List V} {σ0 : St} {H : Hp} {g : TG} {tc : TT} {te : TE} {Q : VK} (hq : H a = some (.tup xs) ∨ H a = some (.lst xs)) (Pv : Nat → List V → St → Hp → Prop) (h0 : Pv 0 [] σ0 H) (hz : ∀ i ys σ H, i ≤ xs.length → Pv i ys σ H → ys.length ≤ sizeLine)
    (hl : ∀ i ys σ H2, i ≤ xs.length → Pv i ys σ H2 → H2 a = H a)
    (hs : ∀ i x ys σ H, xs[i]? = some x → Pv i ys σ H → g x σ H fun σ3 H3 => tc σ3 H3 fun b H4 => if b = true then te σ3 H4 fun v H5 => Pv (i + 1) (ys ++ [v]) σ3 H5 else Pv (i + 1) ys σ3 H4)
    (hd : ∀ ys σ H, Pv xs.length ys σ H → ∀ p, H p = none → Q (.ref p) (upd H p (.lst ys))) :
    ((∃ xs, SqL K H a xs) ∧ lcGo (Itl K a) g tc te σ0 H Q) ∨ ((∃ xs, SqT K H a xs) ∧ lcGo (Itt K a) g tc te σ0 H Q) := by
  rcases hq with h | h
  · exact .inr ⟨⟨_, Wd.sqT h⟩, lc_tup Pv h0 hz (fun i ys σ H2 hi pv => Wd.sqT ((hl i ys σ H2 hi pv).trans h)) hs hd⟩
  · exact .inl ⟨⟨_, SqL.of h⟩, lc_list Pv h0 hz (fun i ys σ H2 hi pv => SqL.of ((hl i ys σ H2 hi pv).trans h)) hs hd⟩
end L2
namespace Wd
open PySem L2 Ow
def spSumA (f : List (Nat × Int) → Nat → Nat → Int) : Sp := fun vs H Q _ => ∃ (q : Addr) (xs : List V) (ps : List (Nat × Int)) (y n : Nat), vs = [.ref q, .int y, .int n] ∧ (H q = some (.tup xs) ∨ H q = some (.lst xs)) ∧ DnL H (ps.map pairD) xs ∧ ps.length ≤ 1000 ∧ ∀ H', Same H H' → Q (.int (f ps y n)) H'
theorem spSumA_of {f : List (Nat × Int) → Nat → Nat → Int} {vs : List V} {H : Hp} {Q : VK} {E : XK} (h : spSum f vs H Q E) : spSumA f vs H Q E := by
  obtain ⟨q, xs, ps, y, n, e, hq, r⟩ := h
  exact ⟨q, xs, ps, y, n, e, .inl hq, r⟩
end Wd

set_option maxRecDepth 100000
set_option maxHeartbeats 4000000
namespace Wd
open PySem L2 Ow
/-! ### why: the picks that are needed -/
/-! ### a choice that is played -/
/-! ### a tree with no ware -/
/-! ### what why tells, held against its law -/
end Wd

set_option maxRecDepth 100000
set_option maxHeartbeats 4000000
namespace L2
open PySem PySem.Spec PyProof.Rows
/-! ### a list turned round -/
theorem pick_revL (its : List Value) : slicePick its.toArray none none (some (-1)) = its.reverse.toArray := by
  have h : sliceBounds none none (some (-1)) its.toArray.size = ((its.length : Int) - 1, -1, -1) := by
    unfold sliceBounds
    simp
  unfold slicePick
  rw [h]
  show ((sliceRange ((its.length : Int) - 1) (-1) (-1)).filterMap fun i => its.toArray[i]?).toArray = _
  congr 1
  have hr : sliceRange ((its.length : Int) - 1) (-1) (-1) = (List.range its.length).map fun k => its.length - 1 - k := by
    unfold sliceRange
    have hc : (if (-1 : Int) > 0 then (if (its.length : Int) - 1 < -1 then (-1 - ((its.length : Int) - 1) + -1 - 1) / -1 else 0) else (if (its.length : Int) - 1 > -1 then ((its.length : Int) - 1 - -1 - -1 - 1) / (- -1) else 0)).toNat = its.length := by
      rw [if_neg (by decide)]
      split
      · rw [show (- -1 : Int) = 1 from rfl, Int.ediv_one]; omega
      · omega
    simp only [hc]
    refine List.map_congr_left fun k hk => ?_
    have := List.mem_range.mp hk
    omega
  rw [hr]
  apply List.ext_getElem?
  intro i
  have e : ∀ n : Nat, n ≤ its.length → ((List.range n).map fun k => its.length - 1 - k).filterMap (fun i => its.toArray[i]?) = its.reverse.take n := by
    intro n
    induction n with
    | zero => intro _; rfl
    | succ n ih =>
      intro hn
      rw [List.range_succ, List.map_append, List.filterMap_append, ih (by omega), List.take_add_one]
      congr 1
      have : its.reverse[n]? = some its[its.length - 1 - n] := by
        rw [List.getElem?_reverse (by omega), List.getElem?_eq_getElem (by omega)]
      rw [this]
      simp only [List.map_cons, List.map_nil, List.filterMap_cons, List.filterMap_nil, List.getElem?_toArray]
      rw [List.getElem?_eq_getElem (by omega)]
      rfl
  rw [e _ (Nat.le_refl _), List.take_of_length_le (by rw [List.length_reverse]; exact Nat.le_refl _)]
section
variable {X : Cx} {e st : Expr} {te tst : TE} {pos p2 : Pos}
def tRevL (te tst : TE) : TE := fun σ H Q => te σ H fun x H1 => tst σ H1 fun y H2 => ∃ a xs, y = .int (-1) ∧ x = .ref a ∧ H2 a = some (.lst xs) ∧ ∀ p, H2 p = none → Q (.ref p) (upd H2 p (.lst xs.reverse))
/-- l[::-1] of a list -/
theorem pe_revL (he : PE X e te) (hst : PE X st tst) : PE X (.Subscript e (.Slice none none (some st) p2) pos) (tRevL te tst) := by
  intro pins s σ H Q I h
  refine Subscript_ (thn (he pins s σ H _ I h) fun v s1 ⟨x, H1, I1, r1, q1⟩ => ?_)
  refine wpAny_Slice ?_
  rw [evalPart_none]
  refine wpAny_pure (wpAny_pure ?_)
  rw [evalPart_some]
  refine thn (hst pins s1 σ H1 _ I1 q1) fun vs s3 ⟨y, H3, I3, r3, q3⟩ => ?_
  obtain ⟨a, xs, rfl, rfl, hx, q⟩ := q3
  cases r1
  obtain ⟨t, rfl⟩ := r3
  have I4 : Inv X pins σ H3 { s3 with heap := s3.heap.push { cls := .type "slice", data := .fields #[.none, .none, .int (-1) t] } } := I3.kept (t' := s3.toks) fun b ob q => Heap.get?_push_of_some _ q
  obtain ⟨its, r, ht, hz⟩ := I4.list (SqL.of hx)
  have hlen := r.length
  show wpAny (model X.prog X.w) X.A (subscriptTail e (.Slice none none (some st) p2) (.ref a) (.ref s3.heap.objs.size)) (EP X pins σ Q) X.xe { s3 with heap := s3.heap.push { cls := .type "slice", data := .fields #[.none, .none, .int (-1) t] } }
  refine tail_any (ops := [.ref a, .ref s3.heap.objs.size]) ht.isList.typeIs slot_list_getitem.lookup ?_ (by with_unfolding_all rfl)
  refine wpAny_getItem_list_slice ht.isList (Heap.IsSliceOf.new ..) .none .none (.int (-1) t) (by simp) ?_ (by rw [List.size_toArray]; omega)
  rw [pick_revL]
  refine ⟨.ref _, _, I4.laid (t' := s3.toks) (o := .lst xs.reverse) (fun b ob q => Heap.get?_push_of_some _ q) (Nat.le_refl _) ?_, rfl, q _ (I4.hok.fresh (Nat.le_refl _))⟩
  exact ⟨by rw [List.length_reverse]; exact hz, its.reverse, 0, r.reverse, Heap.get?_push_size _ rfl⟩
end
end L2
namespace Wd
open PySem L2 Ow
/-! ### why, held elsewhere -/
/-! ### data that lies in a heap, of any kind but dicts -/
/-! ### what others a why tells -/
/-! ### picks sorted -/
/-! ### a wood of some of its cross ties -/
end Wd

set_option maxRecDepth 100000
set_option maxHeartbeats 4000000
namespace L2
open PySem
/-- a loop over zip of two lists of one length -/
theorem for_zipL {K : PySem.W.Frag} {a b : Addr} {xs ys : List V} {g : TG} {tb : TS} {D : Ends} {σ : St} {H : Hp} (Pv : Nat → St → Hp → Prop) (hlen : xs.length = ys.length) (h0 : Pv 0 σ H) (hl : ∀ i σ H, i ≤ xs.length → Pv i σ H → SqL K H a xs ∧ SqL K H b ys)
    (hs : ∀ i x y σ H, xs[i]? = some x → ys[i]? = some y → Pv i σ H → ∀ T, H T = none → g (.ref T) σ (upd H T (.tup [x, y])) fun σ2 H2 => tb { D with nx := Pv (i + 1), ct := Pv (i + 1), bk := D.nx } σ2 H2) (hd : ∀ σ H, Pv xs.length σ H → D.nx σ H) :
    ∃ W : Nat → Nat → St → Hp → Prop, (∃ m, W 0 m σ H) ∧ ∀ i m σ H, W i m σ H →
      ((ItzL K a b).stop i H ∧ D.nx σ H) ∨ ((ItzL K a b).go i H ∧ ∃ N : St → Hp → Prop, (∀ σ' H', N σ' H' → ∃ m', m' < m ∧ W (i + 1) m' σ' H') ∧ ∀ x H', (ItzL K a b).yld i H x H' → g x σ H' fun σ2 H2 => tb { D with nx := N, ct := N, bk := D.nx } σ2 H2) := by
  refine ⟨fun i m σ H => m = xs.length - i ∧ i ≤ xs.length ∧ Pv i σ H, ⟨xs.length, by simp, Nat.zero_le _, h0⟩, ?_⟩
  rintro i m σ H ⟨rfl, hi, p⟩
  obtain ⟨q1, q2⟩ := hl i σ H hi p
  by_cases hlt : i < xs.length
  · refine .inr ⟨⟨xs, ys, xs[i], ys[i], q1, q2, by simp [hlt], List.getElem?_eq_getElem (by omega)⟩, Pv (i + 1), fun σ' H' p' => ⟨xs.length - (i + 1), by omega, rfl, hlt, p'⟩, fun v H' y => ?_⟩
    obtain ⟨T, x, y, rfl, hT, rfl, hv⟩ := y
    obtain ⟨v1, v2⟩ := hv xs ys q1 q2
    exact hs i x y σ H v1 v2 p T hT
  · have e : i = xs.length := by omega
    subst e
    exact .inl ⟨⟨xs, ys, q1, q2, rfl⟩, hd σ H p⟩
end L2
namespace Ow
open PySem L2 Wd
/-! ### the wood by the new numbers -/
def MovedB (ord : List Nat) (b b' : Bg) : Prop := b'.u = mv ord b.u ∧ b'.lo = b.lo ∧ b'.hi = b.hi ∧ b'.ks.Perm (b.ks.map (mv ord)) ∧ b'.ks.Pairwise (· < ·)
def MovedL (ord : List Nat) : List Bg → List Bg → Prop
  | [], M => M = []
  | b :: L, M => ∃ b' M', M = b' :: M' ∧ MovedB ord b b' ∧ MovedL ord L M'
theorem MovedB.t {ord : List Nat} {b b' : Bg} (h : MovedB ord b b') : MovedT ord b.tie b'.tie := by
  obtain ⟨h1, h2, h3, h4, h5⟩ := h
  refine ⟨b'.ks, ?_, h4, h5⟩
  show Tie.bough b'.u b'.lo b'.hi b'.ks = _
  rw [h1, h2, h3]
theorem MovedL.back {ord : List Nat} : ∀ {L M : List Bg} {b' : Bg}, MovedL ord L M → b' ∈ M → ∃ b ∈ L, MovedB ord b b'
  | [], M, b', h, hb => by
    have h : M = [] := h
    rw [h] at hb
    cases hb
  | b :: L, _, b', ⟨c, M', rfl, h, hr⟩, hb => by
    rcases List.mem_cons.mp hb with z | z
    · rw [z]
      exact ⟨b, List.mem_cons_self, h⟩
    · obtain ⟨x, hx, g⟩ := MovedL.back hr z
      exact ⟨x, List.mem_cons_of_mem _ hx, g⟩
theorem MovedL.forth {ord : List Nat} : ∀ {L M : List Bg} {b : Bg}, MovedL ord L M → b ∈ L → ∃ b' ∈ M, MovedB ord b b'
  | [], M, b, h, hb => by cases hb
  | c :: L, _, b, ⟨c', M', rfl, h, hr⟩, hb => by
    rcases List.mem_cons.mp hb with z | z
    · rw [z]
      exact ⟨c', List.mem_cons_self, h⟩
    · obtain ⟨x, hx, g⟩ := MovedL.forth hr z
      exact ⟨x, List.mem_cons_of_mem _ hx, g⟩
theorem MovedL.kids {ord : List Nat} : ∀ {L M : List Bg}, MovedL ord L M → (M.flatMap (·.ks)).Perm ((L.flatMap (·.ks)).map (mv ord))
  | [], M, h => by
    have h : M = [] := h
    rw [h]
    exact List.Perm.refl _
  | b :: L, _, ⟨b', M', rfl, h, hr⟩ => by
    rw [List.flatMap_cons, List.flatMap_cons, List.map_append]
    exact h.2.2.2.1.append (MovedL.kids hr)
section
variable {L M : List Bg} {m : Nat} {ord : List Nat}
theorem mv_back (O : OrdOk L m ord) {i : Nat} (hi : i < m) : ∃ k, k < m ∧ ord[i]? = some k ∧ mv ord k = i := by
  have hl : i < ord.length := by rw [O.len]; exact hi
  have e : ord[i]? = some ord[i] := List.getElem?_eq_getElem hl
  exact ⟨ord[i], (O.mem _).mp (List.mem_of_getElem? e), e, mv_nodup O.nd e⟩
theorem mv_ltm (O : OrdOk L m ord) {k : Nat} (hk : k < m) : mv ord k < m := by
  have := mv_lt ((O.mem k).mpr hk)
  rwa [O.len] at this
theorem moved_ups (O : OrdOk L m ord) (U : UpsOk m L) (m1 : 1 ≤ m) (h : MovedL ord L M) : UpsOk m M := by
  refine ⟨fun b' hb' k' hk' => ?_, ?_⟩
  · obtain ⟨b, hb, h1, _, _, h4, _⟩ := h.back hb'
    obtain ⟨k, hk, rfl⟩ := List.mem_map.mp ((h4.mem_iff).mp hk')
    rw [h1]
    exact O.up b hb k hk
  · refine h.kids.trans ((U.all.map (mv ord)).trans ?_)
    have r : ∀ k, k ∈ List.range' 1 (m - 1) ↔ 1 ≤ k ∧ k < m := fun k => by rw [List.mem_range'_1]; omega
    have nd1 : ((List.range' 1 (m - 1)).map (mv ord)).Nodup := mv_map_nodup List.nodup_range' fun k hk => (O.mem k).mpr ((r k).mp hk).2
    refine (List.perm_ext_iff_of_nodup nd1 List.nodup_range').mpr fun i => ?_
    have z0 : (0 : Nat) ∈ ord := (O.mem 0).mpr (by omega)
    constructor
    · intro hi
      obtain ⟨k, hk, rfl⟩ := List.mem_map.mp hi
      have hk := (r k).mp hk
      refine (r _).mpr ⟨?_, mv_ltm O hk.2⟩
      apply Nat.one_le_iff_ne_zero.mpr
      intro e
      have := mv_inj ((O.mem k).mpr hk.2) z0 (by rw [e, O.zero])
      omega
    · intro hi
      have hi := (r i).mp hi
      obtain ⟨k, km, _, e⟩ := mv_back O hi.2
      refine List.mem_map.mpr ⟨k, (r k).mpr ⟨?_, km⟩, e⟩
      apply Nat.one_le_iff_ne_zero.mpr
      intro z
      rw [z, O.zero] at e
      omega
theorem upP_moved (h : MovedL ord L M) {k u : Nat} (hk : (k, u) ∈ upP L) : (mv ord k, mv ord u) ∈ upP M := by
  obtain ⟨b, hb, hkb⟩ := List.mem_flatMap.mp hk
  obtain ⟨k', hk', e⟩ := List.mem_map.mp hkb
  injection e with e1 e2
  subst e1 e2
  obtain ⟨b', hb', h1, _, _, h4, _⟩ := h.forth hb
  refine List.mem_flatMap.mpr ⟨b', hb', List.mem_map.mpr ⟨mv ord k', (h4.mem_iff).mpr (List.mem_map.mpr ⟨k', hk', rfl⟩), by rw [h1]⟩⟩
/-- the up by the new numbers -/
theorem up_moved (O : OrdOk L m ord) (U : UpsOk m L) (m1 : 1 ≤ m) (U' : UpsOk m M) (hp : ∀ k u, (k, u) ∈ upP L → (mv ord k, mv ord u) ∈ upP M) {k : Nat} (k1 : 1 ≤ k) (km : k < m) : ∃ u, upO L k = some u ∧ u < k ∧ upO M (mv ord k) = some (mv ord u) := by
  obtain ⟨u, hu, hm, lt⟩ := up_mem U k1 km
  have n0 : 1 ≤ mv ord k := by
    apply Nat.one_le_iff_ne_zero.mpr
    intro e
    have := mv_inj ((O.mem k).mpr km) ((O.mem 0).mpr (by omega)) (by rw [e, O.zero])
    omega
  obtain ⟨u', hu', hm', _⟩ := up_mem U' n0 (mv_ltm O km)
  exact ⟨u, hu, lt, by rw [hu', up_one U' hm' (hp _ _ hm)]⟩
theorem anc_moved (O : OrdOk L m ord) (U : UpsOk m L) (m1 : 1 ≤ m) (U' : UpsOk m M) (hp : ∀ k u, (k, u) ∈ upP L → (mv ord k, mv ord u) ∈ upP M) {k : Nat} (km : k < m) : ∀ j, j < m → (Anc L k j ↔ Anc M (mv ord k) (mv ord j)) := fun j => by
  induction j using Nat.strongRecOn with
  | _ j ih =>
    intro jm
    constructor
    · intro a
      rcases anc_inv a with z | ⟨u, hu, a'⟩
      · rw [z]
        exact .self
      · have hpu := hp _ _ hu
        obtain ⟨b, hb, hkb⟩ := List.mem_flatMap.mp hu
        obtain ⟨k', hk', e⟩ := List.mem_map.mp hkb
        injection e with e1 e2
        have lt := U.low b hb k' hk'
        exact .up hpu ((ih u (by omega) (by omega)).mp a')
    · intro a
      rcases anc_inv a with z | ⟨u', hu', a'⟩
      · rw [mv_inj ((O.mem j).mpr jm) ((O.mem k).mpr km) z]
        exact .self
      · by_cases j0 : j = 0
        · obtain ⟨b, hb, hkb⟩ := List.mem_flatMap.mp hu'
          obtain ⟨k', hk', e⟩ := List.mem_map.mp hkb
          injection e with e1 e2
          have lt := U'.low b hb k' hk'
          rw [j0, O.zero] at e1
          omega
        · obtain ⟨u, hu, lt, hm⟩ := up_moved O U m1 U' hp (k := j) (by omega) jm
          obtain ⟨u2, hu2, hp2, lt2⟩ := up_mem U (k := j) (by omega) jm
          have e : u' = mv ord u2 := up_one U' hu' (hp _ _ hp2)
          rw [e] at a'
          exact .up hp2 ((ih u2 lt2 (by omega)).mpr a')
/-- what is beneath, by the new numbers -/
theorem ben_moved (O : OrdOk L m ord) (U : UpsOk m L) (m1 : 1 ≤ m) (U' : UpsOk m M) (hp : ∀ k u, (k, u) ∈ upP L → (mv ord k, mv ord u) ∈ upP M) {k : Nat} (km : k < m) : imgS ord (benN L k (m - 1 - k)) = benN M (mv ord k) (m - 1 - mv ord k) := by
  have lm := mv_ltm O km
  refine Nat.eq_of_testBit_eq fun i => ?_
  rw [Bool.eq_iff_iff, ben_bit U' _ (by omega)]
  unfold imgS
  rw [bitsOf_bit, Bool.and_eq_true, decide_eq_true_iff, O.len, ben_bit U _ (by omega)]
  constructor
  · rintro ⟨hi, _, a⟩
    obtain ⟨x, xm, ex, e⟩ := mv_back O hi
    have hg : ord.getD i 0 = x := by rw [List.getD_eq_getElem?_getD, ex]; rfl
    rw [hg] at a
    refine ⟨by omega, ?_⟩
    rw [← e]
    exact (anc_moved O U m1 U' hp km x xm).mp a
  · rintro ⟨hi, a⟩
    have hi : i < m := by omega
    obtain ⟨x, xm, ex, e⟩ := mv_back O hi
    have hg : ord.getD i 0 = x := by rw [List.getD_eq_getElem?_getD, ex]; rfl
    rw [hg]
    rw [← e] at a
    exact ⟨hi, by omega, (anc_moved O U m1 U' hp km x xm).mpr a⟩
/-- a set is a ware just where it is one by the new numbers -/
theorem ware_moved (O : OrdOk L m ord) (m1 : 1 ≤ m) {ts ts' us : List Tie} (ok : ∀ t ∈ ts, t.Ok m) (p : us.Perm ts') (fw : ∀ t ∈ ts, ∃ t' ∈ ts', MovedT ord t t') (bw : ∀ t' ∈ ts', ∃ t ∈ ts, MovedT ord t t') (s : Nat) : wareB us (imgS ord s) = wareB ts s := by
  have z : (imgS ord s).testBit 0 = s.testBit 0 := by
    have := img_mv (w := s) ((O.mem 0).mpr (by omega))
    rwa [O.zero] at this
  unfold wareB
  rw [z]
  congr 1
  rw [Bool.eq_iff_iff, List.all_eq_true, List.all_eq_true]
  constructor
  · intro a t ht
    obtain ⟨t', ht', hm⟩ := fw t ht
    rw [← keep_moved O (ok t ht) hm s]
    exact a t' ((p.mem_iff).mpr ht')
  · intro a t' ht'
    obtain ⟨t, ht, hm⟩ := bw t' ((p.mem_iff).mp ht')
    rw [keep_moved O (ok t ht) hm s]
    exact a t ht
end
theorem MovedL.snoc {ord : List Nat} {b b' : Bg} (g : MovedB ord b b') : ∀ {L M : List Bg}, MovedL ord L M → MovedL ord (L ++ [b]) (M ++ [b'])
  | [], M, h => by
    have h : M = [] := h
    rw [h]
    exact ⟨b', [], rfl, g, rfl⟩
  | c :: L, _, ⟨c', M', rfl, h, hr⟩ => ⟨c', M' ++ [b'], rfl, h, MovedL.snoc g hr⟩
def MovedTs (ord : List Nat) : List Tie → List Tie → Prop
  | [], M => M = []
  | t :: C, M => ∃ t' M', M = t' :: M' ∧ MovedT ord t t' ∧ MovedTs ord C M'
theorem MovedTs.snoc {ord : List Nat} {t t' : Tie} (g : MovedT ord t t') : ∀ {C M : List Tie}, MovedTs ord C M → MovedTs ord (C ++ [t]) (M ++ [t'])
  | [], M, h => by
    have h : M = [] := h
    rw [h]
    exact ⟨t', [], rfl, g, rfl⟩
  | c :: L, _, ⟨c', M', rfl, h, hr⟩ => ⟨c', M' ++ [t'], rfl, h, MovedTs.snoc g hr⟩
theorem MovedTs.append {ord : List Nat} : ∀ {C C' M M' : List Tie}, MovedTs ord C M → MovedTs ord C' M' → MovedTs ord (C ++ C') (M ++ M')
  | [], C', M, M', h, h' => by
    have h : M = [] := h
    rw [h]
    exact h'
  | c :: L, C', _, M', ⟨c', N, rfl, h, hr⟩, h' => ⟨c', N ++ M', rfl, h, MovedTs.append hr h'⟩
theorem MovedL.ts {ord : List Nat} : ∀ {L M : List Bg}, MovedL ord L M → MovedTs ord (L.map Bg.tie) (M.map Bg.tie)
  | [], M, h => by
    have h : M = [] := h
    rw [h]
    rfl
  | b :: L, _, ⟨b', M', rfl, h, hr⟩ => ⟨b'.tie, _, rfl, h.t, MovedL.ts hr⟩
theorem MovedTs.get {ord : List Nat} : ∀ {C M : List Tie} {i : Nat} {t : Tie}, MovedTs ord C M → C[i]? = some t → ∃ t', M[i]? = some t' ∧ MovedT ord t t'
  | [], M, i, t, h, e => by simp at e
  | c :: C, _, 0, t, ⟨c', M', rfl, h, hr⟩, e => by
    cases e
    exact ⟨c', rfl, h⟩
  | c :: C, _, i + 1, t, ⟨c', M', rfl, h, hr⟩, e => by
    rw [List.getElem?_cons_succ] at e ⊢
    exact MovedTs.get hr e
theorem MovedTs.back {ord : List Nat} : ∀ {C M : List Tie} {t' : Tie}, MovedTs ord C M → t' ∈ M → ∃ t ∈ C, MovedT ord t t'
  | [], M, t', h, ht => by
    have h : M = [] := h
    rw [h] at ht
    cases ht
  | c :: C, _, t', ⟨c', M', rfl, h, hr⟩, ht => by
    rcases List.mem_cons.mp ht with z | z
    · rw [z]
      exact ⟨c, List.mem_cons_self, h⟩
    · obtain ⟨x, hx, g⟩ := MovedTs.back hr z
      exact ⟨x, List.mem_cons_of_mem _ hx, g⟩
theorem MovedTs.forth {ord : List Nat} {C M : List Tie} {t : Tie} (h : MovedTs ord C M) (ht : t ∈ C) : ∃ t' ∈ M, MovedT ord t t' := by
  obtain ⟨i, hi⟩ := List.mem_iff_getElem?.mp ht
  obtain ⟨t', h1, h2⟩ := h.get hi
  exact ⟨t', List.mem_of_getElem? h1, h2⟩
theorem MovedTs.length {ord : List Nat} : ∀ {C M : List Tie}, MovedTs ord C M → M.length = C.length
  | [], M, h => by
    have h : M = [] := h
    rw [h]
  | c :: C, _, ⟨c', M', rfl, h, hr⟩ => by rw [List.length_cons, List.length_cons, MovedTs.length hr]
section
variable {L M : List Bg} {m : Nat} {ord : List Nat}
theorem moved_good (O : OrdOk L m ord) (U : UpsOk m L) (m1 : 1 ≤ m) (okb : ∀ b ∈ L, Tie.BoughOk m b.u b.lo b.hi b.ks) (h : MovedL ord L M) : GoodB m ((M.map Bg.tie).map Tie.toD) := by
  have cast : ((List.range' 0 ((m : Int) - 1).toNat).map fun i : Nat => (1 : Int) + i) = (List.range' 1 (m - 1)).map fun k : Nat => (k : Int) := by
    rw [show ((m : Int) - 1).toNat = m - 1 by omega]
    apply List.ext_getElem
    · simp
    · intro i h1 h2
      simp only [List.getElem_map, List.getElem_range']
      omega
  refine ⟨fun d hd => ?_, ?_⟩
  · obtain ⟨t, ht, rfl⟩ := List.mem_map.mp hd
    obtain ⟨b', hb', rfl⟩ := List.mem_map.mp ht
    obtain ⟨b, hb, g⟩ := h.back hb'
    have ok := okb b hb
    have okm : Tie.Ok m b'.tie := moved_ok O (t := b.tie) ok.toBoughOkW g.t fun u lo hi ks e k hk => by
      injection e with e1 e2 e3 e4
      subst e1 e4
      exact O.up b hb k hk
    have ln : b'.ks.length = b.ks.length := by rw [g.2.2.2.1.length_eq, List.length_map]
    exact isBough_of okm (by rw [g.2.2.1]; exact ok.hi1) (by rw [g.2.2.1, ln]; exact ok.hik)
  · rw [kids_all, cast]
    exact (moved_ups O U m1 h).all.map _
theorem MovedT.nb {t t' : Tie} (h : MovedT ord t t') (n : ∀ u lo hi ks, t ≠ .bough u lo hi ks) : ∀ u lo hi ks, t' ≠ .bough u lo hi ks := by
  intro u lo hi ks e
  cases t with
  | bough u lo hi ks => exact n u lo hi ks rfl
  | needs a b =>
    have h : t' = _ := h
    rw [h] at e
    cases e
  | bans a b =>
    have h : t' = _ := h
    rw [h] at e
    cases e
  | most top ps =>
    obtain ⟨qs, h, _⟩ := h
    rw [h] at e
    cases e
theorem moved_ties (O : OrdOk L m ord) (m9 : m ≤ 9) {C D : List Tie} (okc : ∀ t ∈ C, t.Ok m) (nb : ∀ t ∈ C, ∀ u lo hi ks, t ≠ .bough u lo hi ks) (h : MovedTs ord C D) : tiesOk m (D.map Tie.toD) := by
  intro c hc
  obtain ⟨t', ht', rfl⟩ := List.mem_map.mp hc
  obtain ⟨t, ht, g⟩ := h.back ht'
  have n := nb t ht
  have ok' : t'.Ok m := moved_ok O (okc t ht) g fun u lo hi ks e => absurd e (n u lo hi ks)
  exact ⟨isTie_of ok' (g.nb n), third_of ok' m9 (g.nb n)⟩
theorem GoodB.ups (G : GoodB m ((L.map Bg.tie).map Tie.toD)) (m1 : 1 ≤ m) (okb : ∀ b ∈ L, Tie.BoughOk m b.u b.lo b.hi b.ks) : UpsOk m L := by
  refine ⟨fun b hb k hk => ((okb b hb).up k hk).1, ?_⟩
  have cast : ((List.range' 0 ((m : Int) - 1).toNat).map fun i : Nat => (1 : Int) + i) = (List.range' 1 (m - 1)).map fun k : Nat => (k : Int) := by
    rw [show ((m : Int) - 1).toNat = m - 1 by omega]
    apply List.ext_getElem
    · simp
    · intro i h1 h2
      simp only [List.getElem_map, List.getElem_range']
      omega
  have k := G.kids
  rw [kids_all, cast] at k
  have h2 := k.map Int.toNat
  rw [List.map_map, List.map_map] at h2
  have e : (Int.toNat ∘ fun k : Nat => (k : Int)) = id := funext fun k => Int.toNat_natCast k
  rwa [e, List.map_id, List.map_id] at h2
end
theorem UpsOk.rev {m : Nat} {M : List Bg} (U : UpsOk m M) : UpsOk m M.reverse :=
  ⟨fun b hb => U.low b (List.mem_reverse.mp hb), (List.Perm.flatMap_right _ (List.reverse_perm M)).trans U.all⟩
theorem upP_rev {M : List Bg} {p : Nat × Nat} (h : p ∈ upP M) : p ∈ upP M.reverse := by
  obtain ⟨b, hb, hk⟩ := List.mem_flatMap.mp h
  exact List.mem_flatMap.mpr ⟨b, List.mem_reverse.mpr hb, hk⟩
theorem cut_head1 (us : List V) : cutV us none (some 1) = us.take 1 := by
  cases us with
  | nil => rfl
  | cons x r => exact cut_head (x :: r) 1 (by rw [List.length_cons]; omega)
end Ow

set_option maxRecDepth 100000
set_option maxHeartbeats 4000000
namespace Ow
open PySem L2 Wd
def top (i : Nat) : Stmt := PySem.Challenge.pw_optionwood_k14_whole_woods_renumbered.main.body.getD i (.Pass ⟨0, 0, 0, 0⟩)
abbrev s_has : Stmt := top 4
abbrev s_with_option : Stmt := top 5
abbrev s_wood_of : Stmt := top 9
abbrev s_many_ties : Stmt := top 10
abbrev s_tie_at : Stmt := top 11
abbrev s_up_of : Stmt := top 12
abbrev s_beneath : Stmt := top 13
abbrev s_check_boughs : Stmt := top 14
abbrev s_check_cross_ties : Stmt := top 15
abbrev s_is_whole : Stmt := top 16
abbrev s_is_whole_within : Stmt := top 17
abbrev s_is_option : Stmt := top 18
abbrev s_is_tuple_of_length : Stmt := top 19
abbrev s_is_filled_tuple : Stmt := top 20
abbrev s_are_rising_options : Stmt := top 21
abbrev s_is_bough : Stmt := top 22
abbrev s_is_cross_tie : Stmt := top 23
abbrev s_are_pairs : Stmt := top 24
abbrev s_keeps : Stmt := top 26
abbrev s_keeps_bough : Stmt := top 27
abbrev s_count_in : Stmt := top 28
abbrev s_every_tie : Stmt := top 29
abbrev s_first_broken : Stmt := top 30
abbrev s_is_ware : Stmt := top 31
abbrev s_sure_broken : Stmt := top 32
abbrev s_sure_kept : Stmt := top 33
abbrev s_least_sum : Stmt := top 34
abbrev s_greatest_sum : Stmt := top 35
abbrev s_sure_broken_bough : Stmt := top 36
abbrev s_sure_kept_bough : Stmt := top 37
abbrev s_law_cell_at : Stmt := top 39
abbrev s_law_boughs : Stmt := top 40
abbrev s_law_tie : Stmt := top 41
abbrev s_law_cross : Stmt := top 42
abbrev s_law_many : Stmt := top 43
abbrev s_law_stand : Stmt := top 44
abbrev s_law_order : Stmt := top 45
abbrev s_law_moved_bough : Stmt := top 46
abbrev s_law_moved_tie : Stmt := top 47
abbrev s_law_by : Stmt := top 48
abbrev s_law : Stmt := top 49
set_option genInjectivity false
set_option genSizeOfSpec false
set_option genSizeOf false
structure Adr where
  (f_has f_with_option f_wood_of f_many_ties f_tie_at f_up_of f_beneath f_check_boughs f_check_cross_ties f_is_whole f_is_whole_within f_is_option f_is_tuple_of_length f_is_filled_tuple f_are_rising_options f_is_bough f_is_cross_tie f_are_pairs f_keeps f_keeps_bough f_count_in f_every_tie f_first_broken f_is_ware f_sure_broken f_sure_kept f_least_sum f_greatest_sum f_sure_broken_bough f_sure_kept_bough f_law_cell_at f_law_boughs f_law_tie f_law_cross f_law_many f_law_stand f_law_order f_law_moved_bough f_law_moved_tie f_law_by f_law : Addr)
structure Fds where
  (f_has f_with_option f_wood_of f_many_ties f_tie_at f_up_of f_beneath f_check_boughs f_check_cross_ties f_is_whole f_is_whole_within f_is_option f_is_tuple_of_length f_is_filled_tuple f_are_rising_options f_is_bough f_is_cross_tie f_are_pairs f_keeps f_keeps_bough f_count_in f_every_tie f_first_broken f_is_ware f_sure_broken f_sure_kept f_least_sum f_greatest_sum f_sure_broken_bough f_sure_kept_bough f_law_cell_at f_law_boughs f_law_tie f_law_cross f_law_many f_law_stand f_law_order f_law_moved_bough f_law_moved_tie f_law_by f_law : FuncData)
structure Txt (K : PySem.W.Frag) (mg : Str → Option Value) (a : Adr) (d : Fds) : Prop where
  m_range : mg "range" = none
  m_len : mg "len" = none
  m_isinstance : mg "isinstance" = none
  m_max : mg "max" = none
  m_int : mg "int" = none
  m_bool : mg "bool" = none
  m_list : mg "list" = none
  m_tuple : mg "tuple" = none
  m_str : mg "str" = none
  m_sorted : mg "sorted" = none
  m_enumerate : mg "enumerate" = none
  m_sum : mg "sum" = none
  m_zip : mg "zip" = none
  c_MOST_OPTIONS : ∃ t, mg "MOST_OPTIONS" = some (Value.int 9 t)
  c_MOST_CROSS_TIES : ∃ t, mg "MOST_CROSS_TIES" = some (Value.int 8 t)
  K_has : Df K mg "has" s_has a.f_has d.f_has ["some", "k"]
  K_with_option : Df K mg "with_option" s_with_option a.f_with_option d.f_with_option ["some", "k"]
  K_wood_of : Df K mg "wood_of" s_wood_of a.f_wood_of d.f_wood_of ["many", "boughs", "cross"]
  K_many_ties : Df K mg "many_ties" s_many_ties a.f_many_ties d.f_many_ties ["wood"]
  K_tie_at : Df K mg "tie_at" s_tie_at a.f_tie_at d.f_tie_at ["wood", "t"]
  K_up_of : Df K mg "up_of" s_up_of a.f_up_of d.f_up_of ["wood", "k"]
  K_beneath : Df K mg "beneath" s_beneath a.f_beneath d.f_beneath ["wood", "k"]
  K_check_boughs : Df K mg "check_boughs" s_check_boughs a.f_check_boughs d.f_check_boughs ["many", "boughs"]
  K_check_cross_ties : Df K mg "check_cross_ties" s_check_cross_ties a.f_check_cross_ties d.f_check_cross_ties ["many", "cross"]
  K_is_whole : Df K mg "is_whole" s_is_whole a.f_is_whole d.f_is_whole ["thing"]
  K_is_whole_within : Df K mg "is_whole_within" s_is_whole_within a.f_is_whole_within d.f_is_whole_within ["thing", "least", "greatest"]
  K_is_option : Df K mg "is_option" s_is_option a.f_is_option d.f_is_option ["many", "thing"]
  K_is_tuple_of_length : Df K mg "is_tuple_of_length" s_is_tuple_of_length a.f_is_tuple_of_length d.f_is_tuple_of_length ["thing", "length"]
  K_is_filled_tuple : Df K mg "is_filled_tuple" s_is_filled_tuple a.f_is_filled_tuple d.f_is_filled_tuple ["thing"]
  K_are_rising_options : Df K mg "are_rising_options" s_are_rising_options a.f_are_rising_options d.f_are_rising_options ["many", "things", "floor"]
  K_is_bough : Df K mg "is_bough" s_is_bough a.f_is_bough d.f_is_bough ["many", "bough"]
  K_is_cross_tie : Df K mg "is_cross_tie" s_is_cross_tie a.f_is_cross_tie d.f_is_cross_tie ["many", "tie"]
  K_are_pairs : Df K mg "are_pairs" s_are_pairs a.f_are_pairs d.f_are_pairs ["many", "pairs"]
  K_keeps : Df K mg "keeps" s_keeps a.f_keeps d.f_keeps ["tie", "some"]
  K_keeps_bough : Df K mg "keeps_bough" s_keeps_bough a.f_keeps_bough d.f_keeps_bough ["bough", "some"]
  K_count_in : Df K mg "count_in" s_count_in a.f_count_in d.f_count_in ["kids", "some"]
  K_every_tie : Df K mg "every_tie" s_every_tie a.f_every_tie d.f_every_tie ["wood"]
  K_first_broken : Df K mg "first_broken" s_first_broken a.f_first_broken d.f_first_broken ["wood", "some"]
  K_is_ware : Df K mg "is_ware" s_is_ware a.f_is_ware d.f_is_ware ["wood", "some"]
  K_sure_broken : Df K mg "sure_broken" s_sure_broken a.f_sure_broken d.f_sure_broken ["tie", "yes", "no"]
  K_sure_kept : Df K mg "sure_kept" s_sure_kept a.f_sure_kept d.f_sure_kept ["tie", "yes", "no"]
  K_least_sum : Df K mg "least_sum" s_least_sum a.f_least_sum d.f_least_sum ["pairs", "yes", "no"]
  K_greatest_sum : Df K mg "greatest_sum" s_greatest_sum a.f_greatest_sum d.f_greatest_sum ["pairs", "yes", "no"]
  K_sure_broken_bough : Df K mg "sure_broken_bough" s_sure_broken_bough a.f_sure_broken_bough d.f_sure_broken_bough ["bough", "yes", "no"]
  K_sure_kept_bough : Df K mg "sure_kept_bough" s_sure_kept_bough a.f_sure_kept_bough d.f_sure_kept_bough ["bough", "yes", "no"]
  K_law_cell_at : Df K mg "_law_cell_at" s_law_cell_at a.f_law_cell_at d.f_law_cell_at ["_law_script", "_law_k"]
  K_law_boughs : Df K mg "_law_boughs" s_law_boughs a.f_law_boughs d.f_law_boughs ["_law_script", "_law_many_here"]
  K_law_tie : Df K mg "_law_tie" s_law_tie a.f_law_tie d.f_law_tie ["_law_cell", "_law_many_here"]
  K_law_cross : Df K mg "_law_cross" s_law_cross a.f_law_cross d.f_law_cross ["_law_script", "_law_many_here"]
  K_law_many : Df K mg "_law_many" s_law_many a.f_law_many d.f_law_many ["_law_script"]
  K_law_stand : Df K mg "_law_stand" s_law_stand a.f_law_stand d.f_law_stand ["_law_script", "_law_many_here", "_law_k"]
  K_law_order : Df K mg "_law_order" s_law_order a.f_law_order d.f_law_order ["_law_script", "_law_boughs_here", "_law_many_here"]
  K_law_moved_bough : Df K mg "_law_moved_bough" s_law_moved_bough a.f_law_moved_bough d.f_law_moved_bough ["_law_bough", "_law_new"]
  K_law_moved_tie : Df K mg "_law_moved_tie" s_law_moved_tie a.f_law_moved_tie d.f_law_moved_tie ["_law_tie_here", "_law_new"]
  K_law_by : Df K mg "_law_by" s_law_by a.f_law_by d.f_law_by ["_law_some", "_law_new"]
  K_law : Df K mg "law" s_law a.f_law d.f_law ["_law_script"]
theorem sc_has : FnScope ["some", "k"] ["some", "k"] (defScope s_has) := scm rfl rfl rfl rfl (by decide +kernel)
theorem sc_with_option : FnScope ["some", "k"] ["some", "k"] (defScope s_with_option) := scm rfl rfl rfl rfl (by decide +kernel)
theorem sc_wood_of : FnScope ["many", "boughs", "cross", "wood"] ["many", "boughs", "cross"] (defScope s_wood_of) := scm rfl rfl rfl rfl (by decide +kernel)
theorem sc_many_ties : FnScope ["wood"] ["wood"] (defScope s_many_ties) := scm rfl rfl rfl rfl (by decide +kernel)
theorem sc_tie_at : FnScope ["wood", "t", "boughs"] ["wood", "t"] (defScope s_tie_at) := scm rfl rfl rfl rfl (by decide +kernel)
theorem sc_up_of : FnScope ["wood", "k", "bough"] ["wood", "k"] (defScope s_up_of) := scm rfl rfl rfl rfl (by decide +kernel)
theorem sc_beneath : FnScope ["wood", "k", "some", "option"] ["wood", "k"] (defScope s_beneath) := scm rfl rfl rfl rfl (by decide +kernel)
theorem sc_check_boughs : FnScope ["many", "boughs", "kids", "place", "bough"] ["many", "boughs"] (defScope s_check_boughs) := scm rfl rfl rfl rfl (by decide +kernel)
theorem sc_check_cross_ties : FnScope ["many", "cross", "place", "tie"] ["many", "cross"] (defScope s_check_cross_ties) := scm rfl rfl rfl rfl (by decide +kernel)
theorem sc_is_whole : FnScope ["thing"] ["thing"] (defScope s_is_whole) := scm rfl rfl rfl rfl (by decide +kernel)
theorem sc_is_whole_within : FnScope ["thing", "least", "greatest"] ["thing", "least", "greatest"] (defScope s_is_whole_within) := scm rfl rfl rfl rfl (by decide +kernel)
theorem sc_is_option : FnScope ["many", "thing"] ["many", "thing"] (defScope s_is_option) := scm rfl rfl rfl rfl (by decide +kernel)
theorem sc_is_tuple_of_length : FnScope ["thing", "length"] ["thing", "length"] (defScope s_is_tuple_of_length) := scm rfl rfl rfl rfl (by decide +kernel)
theorem sc_is_filled_tuple : FnScope ["thing"] ["thing"] (defScope s_is_filled_tuple) := scm rfl rfl rfl rfl (by decide +kernel)
theorem sc_are_rising_options : FnScope ["many", "things", "floor", "last", "thing"] ["many", "things", "floor"] (defScope s_are_rising_options) := scm rfl rfl rfl rfl (by decide +kernel)
theorem sc_is_bough : FnScope ["many", "bough", "up", "high", "kids"] ["many", "bough"] (defScope s_is_bough) := scm rfl rfl rfl rfl (by decide +kernel)
theorem sc_is_cross_tie : FnScope ["many", "tie"] ["many", "tie"] (defScope s_is_cross_tie) := scm rfl rfl rfl rfl (by decide +kernel)
theorem sc_are_pairs : FnScope ["many", "pairs", "pair"] ["many", "pairs"] (defScope s_are_pairs) := scm rfl rfl rfl rfl (by decide +kernel)
theorem sc_keeps : FnScope ["tie", "some"] ["tie", "some"] (defScope s_keeps) := scm rfl rfl rfl rfl (by decide +kernel)
theorem sc_keeps_bough : FnScope ["bough", "some", "count"] ["bough", "some"] (defScope s_keeps_bough) := scm rfl rfl rfl rfl (by decide +kernel)
theorem sc_count_in : FnScope ["kids", "some"] ["kids", "some"] (defScope s_count_in) := scm rfl rfl rfl rfl (by decide +kernel)
theorem sc_every_tie : FnScope ["wood"] ["wood"] (defScope s_every_tie) := scm rfl rfl rfl rfl (by decide +kernel)
theorem sc_first_broken : FnScope ["wood", "some", "t"] ["wood", "some"] (defScope s_first_broken) := scm rfl rfl rfl rfl (by decide +kernel)
theorem sc_is_ware : FnScope ["wood", "some"] ["wood", "some"] (defScope s_is_ware) := scm rfl rfl rfl rfl (by decide +kernel)
theorem sc_sure_broken : FnScope ["tie", "yes", "no"] ["tie", "yes", "no"] (defScope s_sure_broken) := scm rfl rfl rfl rfl (by decide +kernel)
theorem sc_sure_kept : FnScope ["tie", "yes", "no"] ["tie", "yes", "no"] (defScope s_sure_kept) := scm rfl rfl rfl rfl (by decide +kernel)
theorem sc_least_sum : FnScope ["pairs", "yes", "no"] ["pairs", "yes", "no"] (defScope s_least_sum) := scm rfl rfl rfl rfl (by decide +kernel)
theorem sc_greatest_sum : FnScope ["pairs", "yes", "no"] ["pairs", "yes", "no"] (defScope s_greatest_sum) := scm rfl rfl rfl rfl (by decide +kernel)
theorem sc_sure_broken_bough : FnScope ["bough", "yes", "no", "least", "greatest", "some_with_up", "some_without_up"] ["bough", "yes", "no"] (defScope s_sure_broken_bough) := scm rfl rfl rfl rfl (by decide +kernel)
theorem sc_sure_kept_bough : FnScope ["bough", "yes", "no", "least", "greatest", "all_with_up", "all_without_up"] ["bough", "yes", "no"] (defScope s_sure_kept_bough) := scm rfl rfl rfl rfl (by decide +kernel)
theorem sc_law_cell_at : FnScope ["_law_script", "_law_k", "_law_number"] ["_law_script", "_law_k"] (defScope s_law_cell_at) := scm rfl rfl rfl rfl (by decide +kernel)
theorem sc_law_boughs : FnScope ["_law_script", "_law_many_here", "_law_groups", "_law_k", "_law_cell", "_law_up", "_law_there", "_law_turn", "_law_boughs_here", "_law_kids", "_law_high"] ["_law_script", "_law_many_here"] (defScope s_law_boughs) := scm rfl rfl rfl rfl (by decide +kernel)
theorem sc_law_tie : FnScope ["_law_cell", "_law_many_here", "_law_one", "_law_other", "_law_some", "_law_pairs", "_law_k", "_law_number", "_law_top"] ["_law_cell", "_law_many_here"] (defScope s_law_tie) := scm rfl rfl rfl rfl (by decide +kernel)
theorem sc_law_cross : FnScope ["_law_script", "_law_many_here", "_law_count"] ["_law_script", "_law_many_here"] (defScope s_law_cross) := scm rfl rfl rfl rfl (by decide +kernel)
theorem sc_law_many : FnScope ["_law_script", "_law_cell"] ["_law_script"] (defScope s_law_many) := scm rfl rfl rfl rfl (by decide +kernel)
theorem sc_law_stand : FnScope ["_law_script", "_law_many_here", "_law_k", "_law_cell", "_law_full", "_law_yes", "_law_no"] ["_law_script", "_law_many_here", "_law_k"] (defScope s_law_stand) := scm rfl rfl rfl rfl (by decide +kernel)
theorem sc_law_order : FnScope ["_law_script", "_law_boughs_here", "_law_many_here", "_law_ups", "_law_up", "_law_low", "_law_high", "_law_kids", "_law_k", "_law_new", "_law_step", "_law_ready"] ["_law_script", "_law_boughs_here", "_law_many_here"] (defScope s_law_order) := scm rfl rfl rfl rfl (by decide +kernel)
theorem sc_law_moved_bough : FnScope ["_law_bough", "_law_new"] ["_law_bough", "_law_new"] (defScope s_law_moved_bough) := scm rfl rfl rfl rfl (by decide +kernel)
theorem sc_law_moved_tie : FnScope ["_law_tie_here", "_law_new"] ["_law_tie_here", "_law_new"] (defScope s_law_moved_tie) := scm rfl rfl rfl rfl (by decide +kernel)
theorem sc_law_by : FnScope ["_law_some", "_law_new"] ["_law_some", "_law_new"] (defScope s_law_by) := scm rfl rfl rfl rfl (by decide +kernel)
theorem sc_law : FnScope ["_law_script", "_law_many_here", "_law_boughs_here", "_law_cross_here", "_law_new", "_law_wood", "_law_branches", "_law_across", "_law_other", "_law_k", "_law_some", "_law_yes", "_law_no", "_law_tie_here", "_law_beside"] ["_law_script"] (defScope s_law) := scm rfl rfl rfl rfl (by decide +kernel)
end Ow

namespace Ow
open PySem L2 Wd
section
variable {P : Program} {w : World} {K : PySem.W.Frag} {mg : Str → Option Value} {base : Heap} {a : Adr} {d : Fds}
def spHas : Sp := fun vs H Q _ => ∃ n k : Int, vs = [.int n, .int k] ∧ Q (.bl (hasV n k)) H
theorem ok_has (T : Txt K mg a d) : FnOk P w K mg base CX0 1 a.f_has d.f_has ["some", "k"] spHas := by
  refine T.K_has.ok sc_has (fun vs H Q E h => ?_) (fun cdv A outer s H vs Q E hr h => ?_)
  · obtain ⟨n, k, rfl, _⟩ := h
    rfl
  obtain ⟨n, k, rfl, q⟩ := h
  refine ⟨_, (pss_one (ps_ret (pe_and (pe_cmpR op_ge (pv 1) pe_int (nomark _)) (pe_one (pe_cmpR op_eq (pe_op op_and (pe_op op_shr (pv 0) (pv 1)) pe_int) pe_int (nomark _)))))), ?_⟩
  refine ⟨_, rfl, _, _, rfl, rfl, _, rfl, ?_⟩
  refine ite2 (fun c => ?_) (fun c => ?_)
  · have hk : (0 : Int) ≤ k := of_decide_eq_true c
    refine ⟨_, rfl, _, rfl, _, _, rfl, rfl, hk, _, _, rfl, rfl, rfl, ?_⟩
    have e : decide (V.int (Builtin.bitAnd (n / 2 ^ k.toNat) 1) = V.int 1) = hasV n k := by
      unfold hasV
      rw [decide_eq_true hk, Bool.true_and, dec_int, bitI]
      by_cases z : n / 2 ^ k.toNat % 2 = 1
      · rw [decide_eq_true z]
        simpa using z
      · rw [decide_eq_false z]
        simpa using z
    show Q (.bl (decide (V.int (Builtin.bitAnd (n / 2 ^ k.toNat) 1) = V.int 1))) H
    rw [e]
    exact q
  · have hk : ¬ (0 : Int) ≤ k := of_decide_eq_false (Bool.eq_false_iff.mpr c)
    have e : hasV n k = false := by
      unfold hasV
      rw [decide_eq_false hk, Bool.false_and]
    rw [e] at q
    exact q

end
section
variable {P : Program} {w : World} {K : PySem.W.Frag} {mg : Str → Option Value} {base : Heap} {a : Adr} {d : Fds}
theorem ok_with_option (T : Txt K mg a d) : FnOk P w K mg base CX0 1 a.f_with_option d.f_with_option ["some", "k"] spWithO := by
  refine T.K_with_option.ok sc_with_option (fun vs H Q E h => ?_) (fun cdv A outer s H vs Q E hr h => ?_)
  · obtain ⟨n, k, rfl, _⟩ := h
    rfl
  obtain ⟨n, k, rfl, hk, q⟩ := h
  refine ⟨_, (pss_one (ps_ret (pe_op op_or (pv 0) (pe_op op_shl pe_int (pv 1))))), ?_⟩
  refine ⟨_, rfl, _, rfl, _, _, rfl, rfl, ⟨by omega, by omega, by decide⟩, _, _, rfl, rfl, ?_⟩
  have e : Builtin.bitOr (n : Int) (1 * 2 ^ ((k : Nat) : Int).toNat) = ((n ||| 2 ^ k : Nat) : Int) := by rw [shl1, lor_nat]
  show Q (.int (Builtin.bitOr (n : Int) (1 * 2 ^ ((k : Nat) : Int).toNat))) H
  rw [e]
  exact q

end
section
variable {P : Program} {w : World} {K : PySem.W.Frag} {mg : Str → Option Value} {base : Heap} {a : Adr} {d : Fds}
theorem ok_is_tuple_of_length (T : Txt K mg a d) : FnOk P w K mg base CX0 1 a.f_is_tuple_of_length d.f_is_tuple_of_length ["thing", "length"] spTupLen := by
  refine T.K_is_tuple_of_length.ok sc_is_tuple_of_length (fun vs H Q E h => ?_) (fun cdv A outer s H vs Q E hr h => ?_)
  · obtain ⟨d, v, n, rfl, _⟩ := h
    rfl
  obtain ⟨d, v, n, rfl, hd, q⟩ := h
  refine ⟨_, (pss_one (ps_ret (pe_and (pe_callB (isiK (K := K)) rfl T.m_isinstance PyProof.Rows.boot_isinstance (pa_cons (pv 0) (pa_cons (pe_bltn (v := .ty "tuple") rfl T.m_tuple PyProof.Rows.boot_tuple rfl) pa_nil))) (pe_one (pe_cmpR op_eq (pe_callB (lenS (K := K)) rfl T.m_len PySem.boot_len (pa_cons (pv 0) pa_nil)) (pv 1) (nomark _)))))), ?_⟩
  refine ⟨_, rfl, _, _, _, _, rfl, dn_ty hd, ty_tup d, _, rfl, ?_⟩
  refine ite2 (fun c => ?_) (fun c => ?_)
  · obtain ⟨ds, rfl⟩ := isTup_tup c
    obtain ⟨p, xs, rfl, hp, hl⟩ := dn_tup hd
    refine ⟨_, rfl, p, _, rfl, .inr (sqT hp), _, rfl, rfl, ?_⟩
    have e : decide (V.int (xs.length : Nat) = V.int n) = tupLen (.tuple ds) n := by
      rw [dec_int, ← hl.length]
      show _ = decide ((ds.length : Int) = n)
      by_cases z : (ds.length : Int) = n
      · rw [decide_eq_true z]
        simpa using z
      · rw [decide_eq_false z]
        simpa using z
    show Q (.bl (decide (V.int (xs.length : Nat) = V.int n))) H
    rw [e]
    exact q
  · have e : tupLen d n = false := by
      cases d <;> first | rfl | exact absurd rfl c
    rw [e] at q
    exact q

end
section
variable {P : Program} {w : World} {K : PySem.W.Frag} {mg : Str → Option Value} {base : Heap} {a : Adr} {d : Fds}
theorem ok_is_whole (T : Txt K mg a d) : FnOk P w K mg base CX0 1 a.f_is_whole d.f_is_whole ["thing"] spWhole := by
  refine T.K_is_whole.ok sc_is_whole (fun vs H Q E h => ?_) (fun cdv A outer s H vs Q E hr h => ?_)
  · obtain ⟨d, v, rfl, _⟩ := h
    rfl
  obtain ⟨d, v, rfl, hd, q⟩ := h
  refine ⟨_, (pss_one (ps_ret (pe_and (pe_callB (isiK (K := K)) rfl T.m_isinstance PyProof.Rows.boot_isinstance (pa_cons (pv 0) (pa_cons (pe_bltn (v := .ty "int") rfl T.m_int PyProof.Rows.boot_int rfl) pa_nil))) (pe_one (pe_not (pe_callB (isiK (K := K)) rfl T.m_isinstance PyProof.Rows.boot_isinstance (pa_cons (pv 0) (pa_cons (pe_bltn (v := .ty "bool") rfl T.m_bool PyProof.Rows.boot_bool rfl) pa_nil)))))))), ?_⟩
  refine ⟨_, rfl, _, _, _, _, rfl, dn_ty hd, ty_int d, _, rfl, ?_⟩
  refine ite2 (fun c => ?_) (fun c => ?_)
  · refine ⟨_, rfl, _, _, _, _, rfl, dn_ty hd, ty_bool d, _, rfl, ?_⟩
    have e : (!isBool d) = isW d := by
      cases d <;> first | rfl | cases c
    rw [e]
    exact q
  · have e : isW d = false := by
      cases d <;> first | rfl | exact absurd rfl c
    rw [e] at q
    exact q

end
section
variable {P : Program} {w : World} {K : PySem.W.Frag} {mg : Str → Option Value} {base : Heap} {a : Adr} {d : Fds}
theorem ok_is_whole_within (T : Txt K mg a d) : FnOk P w K mg base CX0 2 a.f_is_whole_within d.f_is_whole_within ["thing", "least", "greatest"] spWithin := by
  have G_is_whole := ok_is_whole (P := P) (w := w) (base := base) T
  refine T.K_is_whole_within.ok sc_is_whole_within (fun vs H Q E h => ?_) (fun cdv A outer s H vs Q E hr h => ?_)
  · obtain ⟨d, v, lo, hi, rfl, _⟩ := h
    rfl
  obtain ⟨d, v, lo, hi, rfl, hd, q⟩ := h
  refine ⟨_, (pss_one (ps_ret (pe_and (pe_callD G_is_whole hr.lv rfl T.K_is_whole (pa_cons (pv 0) pa_nil)) (pe_one (pe_chain op_le op_le (pv 1) (pv 0) (pv 2)))))), ?_⟩
  refine ⟨_, rfl, d, v, rfl, hd, _, rfl, ?_⟩
  refine ite2 (fun c => ?_) (fun c => ?_)
  · obtain ⟨i, rfl⟩ := isW_int c
    cases dn_int hd
    refine ⟨_, rfl, _, rfl, _, _, rfl, rfl, _, rfl, ?_⟩
    refine ite2 (fun c2 => ?_) (fun c2 => ?_)
    · refine ⟨_, rfl, _, _, rfl, rfl, ?_⟩
      have e : within (.int i) lo hi = decide (i ≤ hi) := by
        show (decide (lo ≤ i) && decide (i ≤ hi)) = _
        rw [c2, Bool.true_and]
      rw [e] at q
      exact q
    · have e : within (.int i) lo hi = false := by
        show (decide (lo ≤ i) && decide (i ≤ hi)) = _
        rw [Bool.eq_false_iff.mpr c2, Bool.false_and]
      rw [e] at q
      exact q
  · have e : within d lo hi = false := by
      cases d <;> first | rfl | exact absurd rfl c
    rw [e] at q
    exact q

end
section
variable {P : Program} {w : World} {K : PySem.W.Frag} {mg : Str → Option Value} {base : Heap} {a : Adr} {d : Fds}
theorem ok_are_rising_options (T : Txt K mg a d) : FnOk P w K mg base CX0 3 a.f_are_rising_options d.f_are_rising_options ["many", "things", "floor"] (spRising K) := by
  have G_is_whole_within := ok_is_whole_within (P := P) (w := w) (base := base) T
  refine T.K_are_rising_options.ok sc_are_rising_options (fun vs H Q E h => ?_) (fun cdv A outer s H vs Q E hr h => ?_)
  · obtain ⟨many, floor, p, b, ds, xs, rfl, _⟩ := h
    rfl
  obtain ⟨many, floor, p, b, ds, xs, rfl, hq, hl, q⟩ := h
  refine ⟨_, (pss_cons (ps_set (i := 3) sc_are_rising_options.nd rfl (Or.inl rfl) (pv 2))
      (pss_cons (ps_for PassesOwn.never rfl (pi_seq (pv 1)) (pg_name (i := 4) sc_are_rising_options.nd rfl (Or.inl rfl)) (pss_cons (ps_if (pt_not (pt_val (pe_callD G_is_whole_within hr.lv rfl T.K_is_whole_within (pa_cons (pv 4) (pa_cons (pe_op op_add (pv 3) pe_int) (pa_cons (pe_op op_sub (pv 0) pe_int) pa_nil)))))) (pss_one (ps_ret pe_bl)) pss_nil)
      (pss_one (ps_set (i := 3) sc_are_rising_options.nd rfl (Or.inl rfl) (pv 4)))))
      (pss_one (ps_ret pe_bl)))), ?_⟩
  refine ⟨_, rfl, ?_⟩
  have fin : ∀ (last : Int), rising many (ds.drop xs.length) last = true := fun last => by
    rw [← hl.length, List.drop_length]
    rfl
  cases b with
  | false =>
    refine ⟨_, rfl, p, rfl, .inl ⟨⟨xs, hq⟩, for_list (K := K) (a := p) (xs := xs) (rPv many floor p ds H) ⟨⟨floor, none, rfl, rfl⟩, rfl⟩ (fun i σ H2 _ z => by rw [z.2]; exact hq) ?_ ?_⟩⟩
    · rintro i x σ H2 hx ⟨⟨last, v, rfl, hri⟩, rfl⟩
      obtain ⟨e, he, hd⟩ := hl.get hx
      rw [rising_at he] at hri
      refine ⟨_, rfl, _, rfl, _, _, rfl, rfl, _, rfl, _, _, rfl, rfl, e, x, _, _, rfl, hd, _, rfl, ?_⟩
      refine ite2 (fun c => ?_) (fun c => ?_)
      · have z : within e (last + 1) (many - 1) = false := by simpa using c
        rw [z, Bool.false_and] at hri
        rw [← hri] at q
        exact q
      · have z : within e (last + 1) (many - 1) = true := by simpa using c
        rw [z, Bool.true_and] at hri
        cases e with
        | int j =>
          cases dn_int hd
          exact ⟨_, rfl, ⟨j, _, rfl, hri⟩, rfl⟩
        | _ => cases z
    · rintro σ H2 ⟨⟨last, v, rfl, hri⟩, rfl⟩
      rw [fin last] at hri
      rw [← hri] at q
      exact q
  | true =>
    refine ⟨_, rfl, p, rfl, .inr ⟨⟨xs, hq⟩, for_tup (K := K) (a := p) (xs := xs) (rPv many floor p ds H) ⟨⟨floor, none, rfl, rfl⟩, rfl⟩ (fun i σ H2 _ z => by rw [z.2]; exact hq) ?_ ?_⟩⟩
    · rintro i x σ H2 hx ⟨⟨last, v, rfl, hri⟩, rfl⟩
      obtain ⟨e, he, hd⟩ := hl.get hx
      rw [rising_at he] at hri
      refine ⟨_, rfl, _, rfl, _, _, rfl, rfl, _, rfl, _, _, rfl, rfl, e, x, _, _, rfl, hd, _, rfl, ?_⟩
      refine ite2 (fun c => ?_) (fun c => ?_)
      · have z : within e (last + 1) (many - 1) = false := by simpa using c
        rw [z, Bool.false_and] at hri
        rw [← hri] at q
        exact q
      · have z : within e (last + 1) (many - 1) = true := by simpa using c
        rw [z, Bool.true_and] at hri
        cases e with
        | int j =>
          cases dn_int hd
          exact ⟨_, rfl, ⟨j, _, rfl, hri⟩, rfl⟩
        | _ => cases z
    · rintro σ H2 ⟨⟨last, v, rfl, hri⟩, rfl⟩
      rw [fin last] at hri
      rw [← hri] at q
      exact q

end
section
variable {P : Program} {w : World} {K : PySem.W.Frag} {mg : Str → Option Value} {base : Heap} {a : Adr} {d : Fds}
theorem ok_is_option (T : Txt K mg a d) : FnOk P w K mg base CX0 3 a.f_is_option d.f_is_option ["many", "thing"] spOption := by
  have G_is_whole_within := ok_is_whole_within (P := P) (w := w) (base := base) T
  refine T.K_is_option.ok sc_is_option (fun vs H Q E h => ?_) (fun cdv A outer s H vs Q E hr h => ?_)
  · obtain ⟨d, v, many, rfl, _⟩ := h
    rfl
  obtain ⟨d, v, many, rfl, hd, q⟩ := h
  refine ⟨_, (pss_one (ps_ret (pe_callD G_is_whole_within hr.lv rfl T.K_is_whole_within (pa_cons (pv 1) (pa_cons pe_int (pa_cons (pe_op op_sub (pv 0) pe_int) pa_nil)))))), ?_⟩
  exact ⟨_, rfl, _, rfl, _, _, rfl, rfl, d, v, _, _, rfl, hd, q⟩

end
section
variable {P : Program} {w : World} {K : PySem.W.Frag} {mg : Str → Option Value} {base : Heap} {a : Adr} {d : Fds}
theorem ok_is_filled_tuple (T : Txt K mg a d) : FnOk P w K mg base CX0 1 a.f_is_filled_tuple d.f_is_filled_tuple ["thing"] spFull := by
  refine T.K_is_filled_tuple.ok sc_is_filled_tuple (fun vs H Q E h => ?_) (fun cdv A outer s H vs Q E hr h => ?_)
  · obtain ⟨d, v, rfl, _⟩ := h
    rfl
  obtain ⟨d, v, rfl, hd, q⟩ := h
  refine ⟨_, (pss_one (ps_ret (pe_and (pe_callB (isiK (K := K)) rfl T.m_isinstance PyProof.Rows.boot_isinstance (pa_cons (pv 0) (pa_cons (pe_bltn (v := .ty "tuple") rfl T.m_tuple PyProof.Rows.boot_tuple rfl) pa_nil))) (pe_one (pe_cmpR op_gt (pe_callB (lenS (K := K)) rfl T.m_len PySem.boot_len (pa_cons (pv 0) pa_nil)) pe_int (nomark _)))))), ?_⟩
  refine ⟨_, rfl, _, _, _, _, rfl, dn_ty hd, ty_tup d, _, rfl, ?_⟩
  refine ite2 (fun c => ?_) (fun c => ?_)
  · obtain ⟨ds, rfl⟩ := isTup_tup c
    obtain ⟨p, xs, rfl, hp, hl⟩ := dn_tup hd
    refine ⟨_, rfl, p, _, rfl, .inr (sqT hp), _, _, rfl, rfl, ?_⟩
    have e : decide ((0 : Int) < ((xs.length : Nat) : Int)) = tupFull (.tuple ds) := by
      rw [← hl.length]
      show _ = decide (0 < ds.length)
      by_cases z : 0 < ds.length
      · rw [decide_eq_true z, decide_eq_true (by omega)]
      · rw [decide_eq_false z, decide_eq_false (by omega)]
    show Q (.bl (decide ((0 : Int) < ((xs.length : Nat) : Int)))) H
    rw [e]
    exact q
  · have e : tupFull d = false := by
      cases d <;> first | rfl | exact absurd rfl c
    rw [e] at q
    exact q

end
section
variable {P : Program} {w : World} {K : PySem.W.Frag} {mg : Str → Option Value} {base : Heap} {a : Adr} {d : Fds}
theorem ok_is_bough (T : Txt K mg a d) : FnOk P w K mg base CX0 4 a.f_is_bough d.f_is_bough ["many", "bough"] spBough := by
  have G_is_option := ok_is_option (P := P) (w := w) (base := base) T
  have G_is_tuple_of_length := ok_is_tuple_of_length (P := P) (w := w) (base := base) T
  have G_is_filled_tuple := ok_is_filled_tuple (P := P) (w := w) (base := base) T
  have G_are_rising_options := ok_are_rising_options (P := P) (w := w) (base := base) T
  have G_is_whole_within := ok_is_whole_within (P := P) (w := w) (base := base) T
  refine T.K_is_bough.ok sc_is_bough (fun vs H Q E h => ?_) (fun cdv A outer s H vs Q E hr h => ?_)
  · obtain ⟨d, v, many, rfl, _⟩ := h
    rfl
  obtain ⟨d, v, many, rfl, hd, q⟩ := h
  refine ⟨_, (pss_cons (ps_if (pt_not (pt_val (pe_callD G_is_tuple_of_length hr.lv rfl T.K_is_tuple_of_length (pa_cons (pv 1) (pa_cons pe_int pa_nil))))) (pss_one (ps_ret pe_bl)) pss_nil)
      (pss_cons (ps_set (i := 2) sc_is_bough.nd rfl (Or.inl rfl) (pe_ix (ixT (K := K)) (pv 1) pe_int (fun _ _ => rfl)))
      (pss_cons (ps_set (i := 3) sc_is_bough.nd rfl (Or.inl rfl) (pe_ix (ixT (K := K)) (pv 1) pe_int (fun _ _ => rfl)))
      (pss_cons (ps_set (i := 4) sc_is_bough.nd rfl (Or.inl rfl) (pe_ix (ixT (K := K)) (pv 1) pe_int (fun _ _ => rfl)))
      (pss_cons (ps_if (PW.pt (pw_or (pt_not (pt_val (pe_callD G_is_option hr.lv rfl T.K_is_option (pa_cons (pv 0) (pa_cons (pv 2) pa_nil))))) (pw_or1 (pt_not (pt_val (pe_callD G_is_filled_tuple hr.lv rfl T.K_is_filled_tuple (pa_cons (pv 4) pa_nil))))))) (pss_one (ps_ret pe_bl)) pss_nil)
      (pss_cons (ps_if (pt_not (pt_val (pe_callD G_are_rising_options hr.lv rfl T.K_are_rising_options (pa_cons (pv 0) (pa_cons (pv 4) (pa_cons (pv 2) pa_nil)))))) (pss_one (ps_ret pe_bl)) pss_nil)
      (pss_one (ps_ret (pe_and (pe_callD G_is_whole_within hr.lv rfl T.K_is_whole_within (pa_cons (pv 3) (pa_cons pe_int (pa_cons (pe_callB (lenS (K := K)) rfl T.m_len PySem.boot_len (pa_cons (pv 4) pa_nil)) pa_nil)))) (pe_one (pe_callD G_is_whole_within hr.lv rfl T.K_is_whole_within (pa_cons (pe_ix (ixT (K := K)) (pv 1) pe_int (fun _ _ => rfl)) (pa_cons pe_int (pa_cons (pv 3) pa_nil)))))))))))))), ?_⟩
  refine ⟨_, rfl, d, v, 4, rfl, hd, _, rfl, ?_⟩
  refine ite2 (fun c => ?_) (fun c => ?_)
  · have z : tupLen d 4 = false := by simpa using c
    rw [noBough z] at q
    exact q
  have z : tupLen d (4 : Nat) = true := by simpa using c
  obtain ⟨ds, rfl, hlen⟩ := tupLen_tup z
  obtain ⟨u, l, h, k, rfl⟩ := four hlen
  obtain ⟨p, xs, rfl, hp, xu, r1, rfl, hu, xl, r2, rfl, hlo, xh, r3, rfl, hh, xk, r4, rfl, hk, hnil⟩ := dn_tup hd
  cases (show r4 = [] from hnil)
  refine ⟨_, rfl, p, _, _, _, rfl, rfl, sqT hp, at0, ?_⟩
  refine ⟨_, rfl, p, _, _, _, rfl, rfl, sqT hp, at2, ?_⟩
  refine ⟨_, rfl, p, _, _, _, rfl, rfl, sqT hp, at3, ?_⟩
  have eb : isBough many (.tuple [u, l, h, k]) = (within u 0 (many - 1) && (tupFull k && (risK many u k && (highK h k && lowH l h)))) := rfl
  rw [eb] at q
  refine ⟨_, rfl, _, rfl, u, xu, many, rfl, hu, _, rfl, ?_⟩
  refine ite2 (fun c1 => ?_) (fun c1 => ?_)
  · have z1 : within u 0 (many - 1) = false := by simpa using c1
    rw [z1, Bool.false_and] at q
    exact q
  have z1 : within u 0 (many - 1) = true := by simpa using c1
  obtain ⟨up, rfl, u0, u1⟩ := within_int z1
  cases dn_int hu
  rw [z1, Bool.true_and] at q
  refine ⟨_, rfl, k, xk, rfl, hk, _, rfl, ?_⟩
  refine ite2 (fun c2 => ?_) (fun c2 => ?_)
  · have z2 : tupFull k = false := by simpa using c2
    rw [z2, Bool.false_and] at q
    exact q
  have z2 : tupFull k = true := by simpa using c2
  rw [z2, Bool.true_and] at q
  obtain ⟨ks, rfl, k0⟩ := tupFull_tup z2
  obtain ⟨pk, ys, rfl, hpk, hks⟩ := dn_tup hk
  refine ⟨_, rfl, _, rfl, _, rfl, many, up, pk, true, ks, ys, rfl, sqT hpk, hks, _, rfl, ?_⟩
  refine ite2 (fun c3 => ?_) (fun c3 => ?_)
  · have z3 : risK many (.int up) (.tuple ks) = false := by
      show rising many ks up = false
      simpa using c3
    rw [z3, Bool.false_and] at q
    exact q
  have z3 : risK many (.int up) (.tuple ks) = true := by
    show rising many ks up = true
    simpa using c3
  rw [z3, Bool.true_and] at q
  refine ⟨_, rfl, _, rfl, pk, _, rfl, .inr (sqT hpk), h, xh, _, _, rfl, hh, _, rfl, ?_⟩
  have e4 : highK h (.tuple ks) = within h 1 (ys.length : Nat) := by
    show within h 1 (ks.length : Nat) = _
    rw [hks.length]
  rw [e4] at q
  refine ite2 (fun c4 => ?_) (fun c4 => ?_)
  · rw [c4, Bool.true_and] at q
    obtain ⟨hi, rfl, h0, h1⟩ := within_int c4
    cases dn_int hh
    exact ⟨_, rfl, p, _, _, _, rfl, rfl, sqT hp, at1, _, rfl, l, xl, _, _, rfl, hlo, q⟩
  · rw [Bool.eq_false_iff.mpr c4, Bool.false_and] at q
    exact q

end
section
variable {P : Program} {w : World} {K : PySem.W.Frag} {mg : Str → Option Value} {base : Heap} {a : Adr} {d : Fds}
theorem ok_check_boughs (T : Txt K mg a d) : FnOk P w K mg base CX0 5 a.f_check_boughs d.f_check_boughs ["many", "boughs"] spCheckB := by
  have G_is_bough := ok_is_bough (P := P) (w := w) (base := base) T
  refine T.K_check_boughs.ok sc_check_boughs (fun vs H Q E h => ?_) (fun cdv A outer s H vs Q E hr h => ?_)
  · obtain ⟨many, p, xs, bs, rfl, _⟩ := h
    rfl
  obtain ⟨many, p, xs, bs, rfl, hp, hl, G, m1, m9, hb9, q⟩ := h
  refine ⟨_, (pss_cons (ps_set (i := 2) sc_check_boughs.nd rfl (Or.inl rfl) (pe_lst pa_nil))
      (pss_cons (ps_for PassesOwn.never rfl (pi_enum rfl T.m_enumerate (pa_cons (pv 1) pa_nil)) (pgT (K := K) (n := 2) rfl (pgs_cons (pg_name (i := 3) sc_check_boughs.nd rfl (Or.inl rfl)) (pgs_cons (pg_name (i := 4) sc_check_boughs.nd rfl (Or.inl rfl)) pgs_nil))) (pss_cons (ps_if (pt_not (pt_val (pe_callD G_is_bough hr.lv rfl T.K_is_bough (pa_cons (pv 0) (pa_cons (pv 4) pa_nil))))) (pss_one ps_never) pss_nil)
      (pss_one (ps_expr (pe_bmK (K := K) PySem.F.plainAttrs_list PySem.F.slot_list_extend PySem.F.type_list_extend mt_extendT (pv 2) (pa_cons (pe_ix (ixT (K := K)) (pv 4) pe_int (fun _ _ => rfl)) pa_nil))))))
      (pss_one (ps_if (pt_cmpR (op_ne_ints hr.units) (pe_callB call_sorted rfl T.m_sorted PyProof.Rows.boot_sorted (pa_cons (pv 2) pa_nil)) (pe_callTy (call_list_rng rfl) rfl T.m_list PyProof.Rows.boot_list (pa_cons (pe_callTy call_rng rfl T.m_range PyProof.Rows.boot_range (pa_cons pe_int (pa_cons (pv 0) pa_nil))) pa_nil)) (nomark _)) (pss_one ps_never) pss_nil)))), ?_⟩
  refine ⟨small (by decide), fun kl hkl => ?_⟩
  refine ⟨_, rfl, true, p, rfl, ⟨xs, sqT ((same_new hkl _) _ _ hp)⟩, ?_⟩
  refine for_enum (K := K) (b := true) (a := p) (xs := xs) (fun i σ H2 => (∃ v3 v4, σ = [some (.int many), some (.ref p), some (.ref kl), v3, v4]) ∧ Same H H2 ∧ H2 kl = some (.lst (((bs.take i).flatMap kidsOf).map V.int))) ⟨⟨none, none, rfl⟩, same_new hkl _, upd_same⟩ (fun i σ H2 _ z => sqT (z.2.1 _ _ hp)) ?_ ?_
  · rintro i x σ H2 hx ⟨⟨v3, v4, rfl⟩, sm, hk⟩ TT hT
    obtain ⟨b, hb, hd⟩ := hl.get hx
    have gb := G.each b (List.mem_of_getElem? hb)
    have sm2 : Same H (upd H2 TT (.tup [.int i, x])) := sm.trans (same_new hT _)
    have hk2 : upd H2 TT (.tup [.int i, x]) kl = some (.lst (((bs.take i).flatMap kidsOf).map V.int)) := (same_new hT _) _ _ hk
    refine ⟨TT, _, rfl, sqT upd_same, rfl, _, _, rfl, _, _, rfl, rfl, ?_⟩
    refine ⟨_, rfl, _, rfl, b, x, many, rfl, Dn.same sm2 _ _ hd, _, rfl, ?_⟩
    rw [gb]
    refine iteF ?_
    obtain ⟨pb, xu, xl, xh, pk, rfl, hpb, hpk⟩ := bough_kids gb (Dn.same sm2 _ _ hd)
    have fw := kids_few G m9 (i + 1)
    rw [flatMap_take hb, List.length_append] at fw
    refine ⟨_, rfl, .inl ⟨rfl, _, SqL.of hk2⟩, _, rfl, pb, _, _, _, rfl, rfl, sqT hpb, at3, kl, pk, _, _, rfl, rfl, hk2, hpk, ?_, ?_⟩
    · rw [List.length_map, List.length_map]
      exact small (by omega)
    · refine ⟨⟨_, _, rfl⟩, Wd.Same.put sm2 hkl hk2, ?_⟩
      · rw [upd_same, flatMap_take hb, List.map_append]
  · rintro σ H2 ⟨⟨v3, v4, rfl⟩, sm, hk⟩
    rw [← hl.length, List.take_length] at hk
    have fw := kids_few G m9 bs.length
    rw [List.take_length] at fw
    have p62 : (2 : Int) ^ 62 = 4611686018427387904 := by decide
    refine ⟨_, rfl, kl, _, rfl, SqL.of hk, by omega, fun ms pm ps l1 hl1 => ?_⟩
    have sm1 := sm.trans (same_new hl1 (.lst (ms.map V.int)))
    refine ⟨_, rfl, _, _, rfl, fun rp hrp => ?_⟩
    refine ⟨rp, 1, many, rfl, upd_same, by rw [p62]; omega, by rw [p62]; omega, by rw [p62]; omega, by rw [p62]; omega, by omega, fun l2 hl2 => ?_⟩
    have sm2 := (sm1.trans (same_new hrp (.rng 1 many))).trans (same_new hl2 (.lst ((List.range' 0 (many - 1).toNat).map fun i : Nat => V.int (1 + (i : Int)))))
    have e1 : ms = (List.range' 0 (many - 1).toNat).map fun i : Nat => (1 : Int) + i := PySem.W.ksm_same (pm.trans G.kids) ps (range_sorted 1 _ 0)
    have h1 : upd (upd (upd H2 l1 (.lst (ms.map V.int))) rp (.rng 1 many)) l2 (.lst ((List.range' 0 (many - 1).toNat).map fun i : Nat => V.int (1 + (i : Int)))) l1 = some (.lst (ms.map V.int)) := (same_new hl2 _) _ _ ((same_new hrp _) _ _ upd_same)
    refine ⟨l1, l2, ms, ms, rfl, rfl, SqL.of h1, ?_, _, rfl, ?_⟩
    · refine SqL.of ?_
      rw [upd_same, e1, List.map_map]
      rfl
    · refine iteNS rfl ?_
      exact q _ sm2

end
section
variable {P : Program} {w : World} {K : PySem.W.Frag} {mg : Str → Option Value} {base : Heap} {a : Adr} {d : Fds}
theorem ok_are_pairs (T : Txt K mg a d) : FnOk P w K mg base CX0 4 a.f_are_pairs d.f_are_pairs ["many", "pairs"] spPairs := by
  have G_is_tuple_of_length := ok_is_tuple_of_length (P := P) (w := w) (base := base) T
  have G_is_filled_tuple := ok_is_filled_tuple (P := P) (w := w) (base := base) T
  have G_are_rising_options := ok_are_rising_options (P := P) (w := w) (base := base) T
  have G_is_whole := ok_is_whole (P := P) (w := w) (base := base) T
  refine T.K_are_pairs.ok sc_are_pairs (fun vs H Q E h => ?_) (fun cdv A outer s H vs Q E hr h => ?_)
  · obtain ⟨d, v, many, rfl, _⟩ := h
    rfl
  obtain ⟨d, v, many, rfl, hd, hlen9, q⟩ := h
  refine ⟨_, (pss_cons (ps_if (pt_not (pt_val (pe_callD G_is_filled_tuple hr.lv rfl T.K_is_filled_tuple (pa_cons (pv 1) pa_nil)))) (pss_one (ps_ret pe_bl)) pss_nil)
      (pss_cons (ps_for PassesOwn.never rfl (piT (K := K) (pv 1)) (pg_name (i := 2) sc_are_pairs.nd rfl (Or.inl rfl)) (pss_one (ps_if (PW.pt (pw_or (pt_not (pt_val (pe_callD G_is_tuple_of_length hr.lv rfl T.K_is_tuple_of_length (pa_cons (pv 2) (pa_cons pe_int pa_nil))))) (pw_or1 (pt_not (pt_val (pe_callD G_is_whole hr.lv rfl T.K_is_whole (pa_cons (pe_ix (ixT (K := K)) (pv 2) pe_int (fun _ _ => rfl)) pa_nil))))))) (pss_one (ps_ret pe_bl)) pss_nil)))
      (pss_one (ps_ret (pe_callD G_are_rising_options hr.lv rfl T.K_are_rising_options (pa_cons (pv 0) (pa_cons (pe_lc (sc0 := defScope s_are_pairs) (XN := ["many", "pairs", "pair"]) (N' := ["pair"]) (n := 1) (kp := []) rfl (piT (K := K) (pv 1)) rfl rfl (by decide +kernel) (fun _ _ _ _ _ => (pg_name (i := 0) (by show List.Nodup (["pair"] : List Str); decide +kernel) rfl (Or.inl rfl))) (fun _ _ _ _ _ => pts_nil) (fun _ _ _ _ _ => (pe_ix (ixT (K := K)) (pv 0) pe_int (fun _ _ => rfl)))) (pa_cons (pe_un un_neg pe_int) pa_nil)))))))), ?_⟩
  refine ⟨_, rfl, d, v, rfl, hd, _, rfl, ?_⟩
  refine ite2 (fun c => ?_) (fun c => ?_)
  · have z : tupFull d = false := by simpa using c
    have e : arePairs many d = false := by
      cases d with
      | tuple ds =>
        show (decide (0 < ds.length) && ds.all pairOk && rising many (ds.map fstD) (-1)) = false
        rw [show decide (0 < ds.length) = false from z, Bool.false_and, Bool.false_and]
      | _ => rfl
    rw [e] at q
    exact q H (Same.refl H)
  have z : tupFull d = true := by simpa using c
  obtain ⟨ds, rfl, k0⟩ := tupFull_tup z
  obtain ⟨p, xs, rfl, hp, hl⟩ := dn_tup hd
  have e : arePairs many (.tuple ds) = (ds.all pairOk && rising many (ds.map fstD) (-1)) := by
    show (decide (0 < ds.length) && ds.all pairOk && rising many (ds.map fstD) (-1)) = _
    rw [show decide (0 < ds.length) = true from decide_eq_true k0, Bool.true_and]
  rw [e] at q
  refine ⟨_, rfl, p, rfl, ⟨xs, sqT hp⟩, for_tup (K := K) (a := p) (xs := xs) (fun i σ H2 => (∃ v, σ = [some (.int many), some (.ref p), v]) ∧ H2 = H ∧ (ds.take i).all pairOk = true) ⟨⟨none, rfl⟩, rfl, rfl⟩ (fun i σ H2 _ z => by rw [z.2.1]; exact sqT hp) ?_ ?_⟩
  · rintro i x σ H2 hx ⟨⟨v, rfl⟩, rfl, ha⟩
    obtain ⟨e1, he1, hd1⟩ := hl.get hx
    refine ⟨_, rfl, e1, x, 2, rfl, hd1, _, rfl, ?_⟩
    refine ite2 (fun c1 => ?_) (fun c1 => ?_)
    · have z1 : tupLen e1 2 = false := by simpa using c1
      rw [all_not he1 (noPair z1), Bool.false_and] at q
      exact q H2 (Same.refl H2)
    have z1 : tupLen e1 (2 : Nat) = true := by simpa using c1
    obtain ⟨es, rfl, hlen⟩ := tupLen_tup z1
    obtain ⟨o, n, rfl⟩ := two hlen
    obtain ⟨pp, ys, rfl, hpp, xo, r1, rfl, ho, xn, r2, rfl, hn, hnil⟩ := dn_tup hd1
    cases (show r2 = [] from hnil)
    refine ⟨_, rfl, pp, _, _, _, rfl, rfl, sqT hpp, at1, n, xn, rfl, hn, _, rfl, ?_⟩
    refine ite2 (fun c2 => ?_) (fun c2 => ?_)
    · have z2 : pairOk (.tuple [o, n]) = false := by
        show isW n = false
        simpa using c2
      rw [all_not he1 z2, Bool.false_and] at q
      exact q H2 (Same.refl H2)
    · have z2 : pairOk (.tuple [o, n]) = true := by
        show isW n = true
        simpa using c2
      exact ⟨⟨_, rfl⟩, rfl, take_all he1 ha z2⟩
  · rintro σ H2 ⟨⟨v, rfl⟩, rfl, ha⟩
    rw [← hl.length, List.take_length] at ha
    rw [ha, Bool.true_and] at q
    refine ⟨_, rfl, _, rfl, p, rfl, ⟨xs, sqT hp⟩, ?_⟩
    refine lc_tup (K := K) (a := p) (xs := xs) (fun i ys σ H3 => (∃ v, σ = [v]) ∧ H3 = H2 ∧ i ≤ xs.length ∧ DnL H2 ((ds.take i).map fstD) ys) ⟨⟨none, rfl⟩, rfl, Nat.zero_le _, rfl⟩ (fun i ys σ H3 hi pv => ?_) (fun i ys σ H3 hi pv => ?_) (fun i x ys σ H3 hx pv => ?_) (fun ys σ H3 pv l hl3 => ?_)
    · obtain ⟨_, _, h1, h2⟩ := pv
      have e1 := h2.length
      rw [List.length_map, List.length_take] at e1
      have e2 := hl.length
      have e3 : ds.length ≤ 1000 := hlen9
      exact small (by omega)
    · rw [pv.2.1]
      exact sqT hp
    · obtain ⟨⟨v, rfl⟩, rfl, h1, h2⟩ := pv
      obtain ⟨e1, he1, hd1⟩ := hl.get hx
      have po : pairOk e1 = true := by
        rw [List.all_eq_true] at ha
        exact ha e1 (List.mem_of_getElem? he1)
      cases e1 with
      | tuple es =>
        match es, po, hd1 with
        | [o, n], po, hd1 =>
          obtain ⟨pp, zs, rfl, hpp, xo, r1, rfl, ho, xn, r2, rfl, hn, hnil⟩ := dn_tup hd1
          refine ⟨_, rfl, pp, _, _, _, rfl, rfl, sqT hpp, at0, ⟨_, rfl⟩, rfl, (List.getElem?_eq_some_iff.mp hx).1, ?_⟩
          obtain ⟨hi, ee⟩ := List.getElem?_eq_some_iff.mp he1
          rw [List.take_succ_eq_append_getElem hi, List.map_append, ee]
          exact h2.append ⟨xo, [], rfl, ho, rfl⟩
      | _ => cases po
    · obtain ⟨_, rfl, _, h2⟩ := pv
      rw [← hl.length, List.take_length] at h2
      exact ⟨_, rfl, many, -1, l, false, ds.map fstD, ys, rfl, SqL.of upd_same, DnL.same (same_new hl3 _) _ _ h2, q _ (same_new hl3 _)⟩

end
section
variable {P : Program} {w : World} {K : PySem.W.Frag} {mg : Str → Option Value} {base : Heap} {a : Adr} {d : Fds}
theorem ok_is_cross_tie (T : Txt K mg a d) : FnOk P w K mg base CX0 5 a.f_is_cross_tie d.f_is_cross_tie ["many", "tie"] spTie := by
  have G_is_option := ok_is_option (P := P) (w := w) (base := base) T
  have G_is_tuple_of_length := ok_is_tuple_of_length (P := P) (w := w) (base := base) T
  have G_are_pairs := ok_are_pairs (P := P) (w := w) (base := base) T
  have G_is_whole := ok_is_whole (P := P) (w := w) (base := base) T
  refine T.K_is_cross_tie.ok sc_is_cross_tie (fun vs H Q E h => ?_) (fun cdv A outer s H vs Q E hr h => ?_)
  · obtain ⟨d, v, many, rfl, _⟩ := h
    rfl
  obtain ⟨d, v, many, rfl, hd, h3, q⟩ := h
  refine ⟨_, (pss_cons (ps_if (PW.pt (pw_or (pt_not (pt_val (pe_callD G_is_tuple_of_length hr.lv rfl T.K_is_tuple_of_length (pa_cons (pv 1) (pa_cons pe_int pa_nil))))) (pw_or1 (pt_not (pt_val (pe_callB (isiK (K := K)) rfl T.m_isinstance PyProof.Rows.boot_isinstance (pa_cons (pe_ix (ixT (K := K)) (pv 1) pe_int (fun _ _ => rfl)) (pa_cons (pe_bltn (v := .ty "str") rfl T.m_str PyProof.Rows.boot_str rfl) pa_nil)))))))) (pss_one (ps_ret pe_bl)) pss_nil)
      (pss_cons (ps_if (pt_cmpR op_eq (pe_ix (ixT (K := K)) (pv 1) pe_int (fun _ _ => rfl)) pe_str (nomark _)) (pss_one (ps_ret (pe_and (pe_callD G_is_whole hr.lv rfl T.K_is_whole (pa_cons (pe_ix (ixT (K := K)) (pv 1) pe_int (fun _ _ => rfl)) pa_nil)) (pe_one (pe_callD G_are_pairs hr.lv rfl T.K_are_pairs (pa_cons (pv 0) (pa_cons (pe_ix (ixT (K := K)) (pv 1) pe_int (fun _ _ => rfl)) pa_nil))))))) pss_nil)
      (pss_cons (ps_if (pt_cmpR op_notIn_seq (pe_ix (ixT (K := K)) (pv 1) pe_int (fun _ _ => rfl)) (pe_tup (pa_cons pe_str (pa_cons pe_str pa_nil))) (by with_unfolding_all rfl)) (pss_one (ps_ret pe_bl)) pss_nil)
      (pss_one (ps_ret (pe_and (pe_callD G_is_option hr.lv rfl T.K_is_option (pa_cons (pv 0) (pa_cons (pe_ix (ixT (K := K)) (pv 1) pe_int (fun _ _ => rfl)) pa_nil))) (pe_and (pe_callD G_is_option hr.lv rfl T.K_is_option (pa_cons (pv 0) (pa_cons (pe_ix (ixT (K := K)) (pv 1) pe_int (fun _ _ => rfl)) pa_nil))) (pe_one (pe_cmpR op_ne (pe_ix (ixT (K := K)) (pv 1) pe_int (fun _ _ => rfl)) (pe_ix (ixT (K := K)) (pv 1) pe_int (fun _ _ => rfl)) (nomark _)))))))))), ?_⟩
  refine ⟨_, rfl, d, v, 3, rfl, hd, _, rfl, ?_⟩
  refine ite2 (fun c => ?_) (fun c => ?_)
  · have z : tupLen d 3 = false := by simpa using c
    rw [noTie z] at q
    exact q H (Same.refl H)
  have z : tupLen d (3 : Nat) = true := by simpa using c
  obtain ⟨ds, rfl, hlen⟩ := tupLen_tup z
  obtain ⟨k, x, y, rfl⟩ := three hlen
  obtain ⟨p, xs, rfl, hp, xk, r1, rfl, hk, xx, r2, rfl, hx, xy, r3, rfl, hy, hnil⟩ := dn_tup hd
  cases (show r3 = [] from hnil)
  have q' : ∀ H', Same H H' → Q (.bl (tieD many x y k)) H' := q
  refine ⟨_, rfl, p, _, _, _, rfl, rfl, sqT hp, at0, _, _, _, _, rfl, dn_ty hk, ty_str k, _, rfl, ?_⟩
  refine ite2 (fun c1 => ?_) (fun c1 => ?_)
  · have z1 : tieD many x y k = false := by
      cases k with
      | str s => cases c1
      | _ => rfl
    rw [z1] at q'
    exact q' H (Same.refl H)
  obtain ⟨s, rfl⟩ : ∃ s, k = .str s := by
    cases k with
    | str s => exact ⟨s, rfl⟩
    | _ => exact absurd rfl c1
  cases (show xk = .str s from hk)
  have q2 : ∀ H', Same H H' → Q (.bl (tieK many s x y)) H' := q'
  unfold tieK at q2
  refine ⟨_, rfl, p, _, _, _, rfl, rfl, sqT hp, at0, rfl, _, rfl, ?_⟩
  refine ite2 (fun c2 => ?_) (fun c2 => ?_)
  · have e2 : s = ("most" : Str) := of_decide_eq_true ((dec_strs _ _).symm.trans c2)
    rw [if_pos e2] at q2
    refine ⟨_, rfl, p, _, _, _, rfl, rfl, sqT hp, at1, x, xx, rfl, hx, _, rfl, ?_⟩
    refine ite2 (fun c3 => ?_) (fun c3 => ?_)
    · rw [c3, Bool.true_and] at q2
      exact ⟨_, rfl, _, rfl, p, _, _, _, rfl, rfl, sqT hp, at2, y, xy, many, rfl, hy, h3, q2⟩
    · rw [Bool.eq_false_iff.mpr c3, Bool.false_and] at q2
      exact q2 H (Same.refl H)
  have e2 : ¬ s = ("most" : Str) := of_decide_eq_false ((dec_strs _ _).symm.trans (Bool.eq_false_iff.mpr c2))
  rw [if_neg e2] at q2
  refine ⟨_, rfl, p, _, _, _, rfl, rfl, sqT hp, at0, small (by show 2 ≤ 1000; decide), fun tp htp => ?_⟩
  refine ⟨tp, _, rfl, .inr (sqT upd_same), rfl, rfl, _, rfl, ?_⟩
  have sm := same_new htp (.tup [.str ("needs" : Str), .str ("bans" : Str)])
  have hp' : upd H tp (.tup [.str ("needs" : Str), .str ("bans" : Str)]) p = some (.tup [.str s, xx, xy]) := sm _ _ hp
  have ein : (if true = true then !inV (.str s) [.str ("needs" : Str), .str ("bans" : Str)] else inV (.str s) [.str ("needs" : Str), .str ("bans" : Str)]) = !decide (s = ("needs" : Str) ∨ s = ("bans" : Str)) := by
    show (!(((("needs" : Str) == s) || ((("bans" : Str) == s) || false)))) = _
    by_cases h1 : s = ("needs" : Str)
    · subst h1
      simp
    · by_cases h2 : s = ("bans" : Str)
      · subst h2
        simp
      · have g1 : ((("needs" : Str) == s) = false) := by
          rw [Bool.eq_false_iff]
          intro z
          exact h1 (eq_of_beq z).symm
        have g2 : ((("bans" : Str) == s) = false) := by
          rw [Bool.eq_false_iff]
          intro z
          exact h2 (eq_of_beq z).symm
        rw [g1, g2, decide_eq_false (by rintro (z | z) <;> contradiction)]
        rfl
  rw [ein]
  refine ite2 (fun c3 => ?_) (fun c3 => ?_)
  · have e3 : ¬ (s = ("needs" : Str) ∨ s = ("bans" : Str)) := by simpa using c3
    rw [if_neg e3] at q2
    exact q2 _ sm
  have e3 : s = ("needs" : Str) ∨ s = ("bans" : Str) := by
    by_cases z : s = ("needs" : Str) ∨ s = ("bans" : Str)
    · exact z
    · exact absurd (by rw [decide_eq_false z]; rfl) c3
  rw [if_pos e3] at q2
  refine ⟨_, rfl, _, rfl, p, _, _, _, rfl, rfl, sqT hp', at1, x, xx, many, rfl, Dn.same sm _ _ hx, _, rfl, ?_⟩
  refine ite2 (fun c4 => ?_) (fun c4 => ?_)
  · rw [c4, Bool.true_and] at q2
    refine ⟨_, rfl, _, rfl, p, _, _, _, rfl, rfl, sqT hp', at2, y, xy, many, rfl, Dn.same sm _ _ hy, _, rfl, ?_⟩
    refine ite2 (fun c5 => ?_) (fun c5 => ?_)
    · rw [c5, Bool.true_and] at q2
      obtain ⟨i, rfl, _⟩ := within_int c4
      obtain ⟨j, rfl, _⟩ := within_int c5
      cases dn_int hx
      cases dn_int hy
      refine ⟨_, rfl, p, _, _, _, rfl, rfl, sqT hp', at1, _, rfl, p, _, _, _, rfl, rfl, sqT hp', at2, rfl, ?_⟩
      have e5 : (!decide (V.int i = V.int j)) = neI (.int i) (.int j) := by
        show _ = !decide (i = j)
        rw [dec_int]
        by_cases z : i = j
        · rw [decide_eq_true z]
          simpa using z
        · rw [decide_eq_false z]
          simpa using z
      rw [e5]
      exact q2 _ sm
    · rw [Bool.eq_false_iff.mpr c5, Bool.false_and] at q2
      exact q2 _ sm
  · rw [Bool.eq_false_iff.mpr c4, Bool.false_and] at q2
    exact q2 _ sm

end
section
variable {P : Program} {w : World} {K : PySem.W.Frag} {mg : Str → Option Value} {base : Heap} {a : Adr} {d : Fds}
theorem ok_check_cross_ties (T : Txt K mg a d) : FnOk P w K mg base CX0 6 a.f_check_cross_ties d.f_check_cross_ties ["many", "cross"] spCheckC := by
  have G_is_cross_tie := ok_is_cross_tie (P := P) (w := w) (base := base) T
  obtain ⟨_, c_MOST_CROSS_TIES⟩ := T.c_MOST_CROSS_TIES
  refine T.K_check_cross_ties.ok sc_check_cross_ties (fun vs H Q E h => ?_) (fun cdv A outer s H vs Q E hr h => ?_)
  · obtain ⟨many, p, xs, bs, rfl, _⟩ := h
    rfl
  obtain ⟨many, p, xs, cs, rfl, hp, hl, G, h8, q⟩ := h
  refine ⟨_, (pss_cons (ps_if (pt_cmpR op_gt (pe_callB (lenS (K := K)) rfl T.m_len PySem.boot_len (pa_cons (pv 1) pa_nil)) (pe_glob (v := .int 8) rfl c_MOST_CROSS_TIES ⟨_, rfl⟩) (nomark _)) (pss_one ps_never) pss_nil)
      (pss_one (ps_for PassesOwn.never rfl (pi_enum rfl T.m_enumerate (pa_cons (pv 1) pa_nil)) (pgT (K := K) (n := 2) rfl (pgs_cons (pg_name (i := 2) sc_check_cross_ties.nd rfl (Or.inl rfl)) (pgs_cons (pg_name (i := 3) sc_check_cross_ties.nd rfl (Or.inl rfl)) pgs_nil))) (pss_one (ps_if (pt_not (pt_val (pe_callD G_is_cross_tie hr.lv rfl T.K_is_cross_tie (pa_cons (pv 0) (pa_cons (pv 3) pa_nil))))) (pss_one ps_never) pss_nil))))), ?_⟩
  refine ⟨_, rfl, p, _, rfl, .inr (sqT hp), _, _, rfl, rfl, _, rfl, ?_⟩
  have e8 : decide ((8 : Int) < ((xs.length : Nat) : Int)) = false := by
    rw [← hl.length]
    exact decide_eq_false (by omega)
  rw [e8]
  refine iteF ?_
  refine ⟨_, rfl, true, p, rfl, ⟨xs, sqT hp⟩, ?_⟩
  refine for_enum (K := K) (b := true) (a := p) (xs := xs) (fun i σ H2 => (∃ v2 v3, σ = [some (.int many), some (.ref p), v2, v3]) ∧ Same H H2) ⟨⟨none, none, rfl⟩, Same.refl H⟩ (fun i σ H2 _ z => sqT (z.2 _ _ hp)) ?_ ?_
  · rintro i x σ H2 hx ⟨⟨v2, v3, rfl⟩, sm⟩ TT hT
    obtain ⟨b, hb, hd⟩ := hl.get hx
    obtain ⟨gb, g3⟩ := G b (List.mem_of_getElem? hb)
    have sm2 : Same H (upd H2 TT (.tup [.int i, x])) := sm.trans (same_new hT _)
    refine ⟨TT, _, rfl, sqT upd_same, rfl, _, _, rfl, _, _, rfl, rfl, ?_⟩
    refine ⟨_, rfl, _, rfl, b, x, many, rfl, Dn.same sm2 _ _ hd, g3, fun H3 sm3 => ⟨_, rfl, ?_⟩⟩
    rw [gb]
    refine iteF ?_
    exact ⟨⟨_, _, rfl⟩, sm2.trans sm3⟩
  · rintro σ H2 ⟨⟨v2, v3, rfl⟩, sm⟩
    exact q H2 sm

end
section
variable {P : Program} {w : World} {K : PySem.W.Frag} {mg : Str → Option Value} {base : Heap} {a : Adr} {d : Fds}
theorem ok_wood_of (T : Txt K mg a d) : FnOk P w K mg base CX0 7 a.f_wood_of d.f_wood_of ["many", "boughs", "cross"] spWood := by
  have G_is_whole_within := ok_is_whole_within (P := P) (w := w) (base := base) T
  have G_check_boughs := ok_check_boughs (P := P) (w := w) (base := base) T
  have G_check_cross_ties := ok_check_cross_ties (P := P) (w := w) (base := base) T
  obtain ⟨_, c_MOST_OPTIONS⟩ := T.c_MOST_OPTIONS
  refine T.K_wood_of.ok sc_wood_of (fun vs H Q E h => ?_) (fun cdv A outer s H vs Q E hr h => ?_)
  · obtain ⟨many, p, r, xs, ys, bs, cs, rfl, _⟩ := h
    rfl
  obtain ⟨many, p, r, xs, ys, bs, cs, rfl, hp, hr', hl, hl2, G, m1, m9, b9, GT, c8, q⟩ := h
  refine ⟨_, (pss_cons (ps_if (pt_not (pt_val (pe_callD G_is_whole_within hr.lv rfl T.K_is_whole_within (pa_cons (pv 0) (pa_cons pe_int (pa_cons (pe_glob (v := .int 9) rfl c_MOST_OPTIONS ⟨_, rfl⟩) pa_nil)))))) (pss_one ps_never) pss_nil)
      (pss_cons (ps_if (pt_not (pt_val (pe_callB (isiK (K := K)) rfl T.m_isinstance PyProof.Rows.boot_isinstance (pa_cons (pv 1) (pa_cons (pe_bltn (v := .ty "list") rfl T.m_list PyProof.Rows.boot_list rfl) pa_nil))))) (pss_one ps_never) pss_nil)
      (pss_cons (ps_if (pt_not (pt_val (pe_callB (isiK (K := K)) rfl T.m_isinstance PyProof.Rows.boot_isinstance (pa_cons (pv 2) (pa_cons (pe_bltn (v := .ty "list") rfl T.m_list PyProof.Rows.boot_list rfl) pa_nil))))) (pss_one ps_never) pss_nil)
      (pss_cons (ps_set (i := 3) sc_wood_of.nd rfl (Or.inl rfl) (pe_tup (pa_cons (pv 0) (pa_cons (pe_callTy call_tuple_of rfl T.m_tuple PyProof.Rows.boot_tuple (pa_cons (pv 1) pa_nil)) (pa_cons (pe_callTy call_tuple_of rfl T.m_tuple PyProof.Rows.boot_tuple (pa_cons (pv 2) pa_nil)) pa_nil)))))
      (pss_cons (ps_expr (pe_callD G_check_boughs hr.lv rfl T.K_check_boughs (pa_cons (pv 0) (pa_cons (pe_ix (ixT (K := K)) (pv 3) pe_int (fun _ _ => rfl)) pa_nil))))
      (pss_cons (ps_expr (pe_callD G_check_cross_ties hr.lv rfl T.K_check_cross_ties (pa_cons (pv 0) (pa_cons (pe_ix (ixT (K := K)) (pv 3) pe_int (fun _ _ => rfl)) pa_nil))))
      (pss_one (ps_ret (pv 3))))))))), ?_⟩
  refine ⟨_, rfl, .int many, .int many, 1, 9, rfl, rfl, _, rfl, ?_⟩
  have ew : within (.int many) 1 9 = true := by
    show (decide (1 ≤ many) && decide (many ≤ 9)) = true
    rw [decide_eq_true m1, decide_eq_true m9]
    rfl
  rw [ew]
  refine iteF ?_
  refine ⟨_, rfl, _, _, _, _, rfl, .lst hp, isi_list_list, _, rfl, ?_⟩
  refine iteF ?_
  refine ⟨_, rfl, _, _, _, _, rfl, .lst hr', isi_list_list, _, rfl, ?_⟩
  refine iteF ?_
  refine ⟨_, rfl, _, rfl, p, xs, rfl, .inl ⟨SqL.of hp, fun tb htb => ?_⟩⟩
  have sm1 := same_new htb (.tup xs)
  refine ⟨_, rfl, r, ys, rfl, .inl ⟨SqL.of (sm1 _ _ hr'), fun tc htc => ?_⟩⟩
  have sm2 := sm1.trans (same_new htc (.tup ys))
  refine ⟨small (by show 3 ≤ 1000; decide), fun wd hwd => ?_⟩
  have sm3 := sm2.trans (same_new hwd (.tup [.int many, .ref tb, .ref tc]))
  have etb : upd (upd (upd H tb (.tup xs)) tc (.tup ys)) wd (.tup [.int many, .ref tb, .ref tc]) tb = some (.tup xs) := (same_new hwd _) _ _ ((same_new htc _) _ _ upd_same)
  have etc : upd (upd (upd H tb (.tup xs)) tc (.tup ys)) wd (.tup [.int many, .ref tb, .ref tc]) tc = some (.tup ys) := (same_new hwd _) _ _ upd_same
  refine ⟨_, rfl, _, rfl, wd, _, _, _, rfl, rfl, sqT upd_same, at1, many, tb, xs, bs, rfl, etb, DnL.same sm3 _ _ hl, G, m1, m9, b9, fun H4 sm4 => ?_⟩
  have ewd := sm4 _ _ (show upd (upd (upd H tb (.tup xs)) tc (.tup ys)) wd (.tup [.int many, .ref tb, .ref tc]) wd = some (.tup [.int many, .ref tb, .ref tc]) from upd_same)
  refine ⟨_, rfl, _, rfl, wd, _, _, _, rfl, rfl, sqT ewd, at2, many, tc, ys, cs, rfl, sm4 _ _ etc, DnL.same (sm3.trans sm4) _ _ hl2, GT, c8, fun H5 sm5 => ?_⟩
  exact ⟨_, rfl, q wd tb tc H5 (sm3.trans (sm4.trans sm5)) (sm5 _ _ ewd) (sm5 _ _ (sm4 _ _ etb)) (sm5 _ _ (sm4 _ _ etc))⟩

end
section
variable {P : Program} {w : World} {K : PySem.W.Frag} {mg : Str → Option Value} {base : Heap} {a : Adr} {d : Fds}
theorem ok_many_ties (T : Txt K mg a d) : FnOk P w K mg base CX0 1 a.f_many_ties d.f_many_ties ["wood"] spMany := by
  refine T.K_many_ties.ok sc_many_ties (fun vs H Q E h => ?_) (fun cdv A outer s H vs Q E hr h => ?_)
  · obtain ⟨wd, many, xs, ys, rfl, _⟩ := h
    rfl
  obtain ⟨wd, many, xs, ys, rfl, ⟨tb, tc, hw, hb, hc⟩, q⟩ := h
  refine ⟨_, (pss_one (ps_ret (pe_op op_add (pe_callB (lenS (K := K)) rfl T.m_len PySem.boot_len (pa_cons (pe_ix (ixT (K := K)) (pv 0) pe_int (fun _ _ => rfl)) pa_nil)) (pe_callB (lenS (K := K)) rfl T.m_len PySem.boot_len (pa_cons (pe_ix (ixT (K := K)) (pv 0) pe_int (fun _ _ => rfl)) pa_nil))))), ?_⟩
  exact ⟨_, rfl, wd, _, _, _, rfl, rfl, sqT hw, at1, tb, _, rfl, .inr (sqT hb), _, rfl, wd, _, _, _, rfl, rfl, sqT hw, at2, tc, _, rfl, .inr (sqT hc), _, _, rfl, rfl, q⟩

end
section
variable {P : Program} {w : World} {K : PySem.W.Frag} {mg : Str → Option Value} {base : Heap} {a : Adr} {d : Fds}
theorem ok_tie_at (T : Txt K mg a d) : FnOk P w K mg base CX0 1 a.f_tie_at d.f_tie_at ["wood", "t"] spTieAt := by
  refine T.K_tie_at.ok sc_tie_at (fun vs H Q E h => ?_) (fun cdv A outer s H vs Q E hr h => ?_)
  · obtain ⟨wd, many, xs, ys, t, v, rfl, _⟩ := h
    rfl
  obtain ⟨wd, many, xs, ys, t, v, rfl, ⟨tb, tc, hw, hb, hc⟩, hv, q⟩ := h
  refine ⟨_, (pss_cons (ps_set (i := 2) sc_tie_at.nd rfl (Or.inl rfl) (pe_ix (ixT (K := K)) (pv 0) pe_int (fun _ _ => rfl)))
      (pss_cons (ps_if (pt_cmpR op_lt (pv 1) (pe_callB (lenS (K := K)) rfl T.m_len PySem.boot_len (pa_cons (pv 2) pa_nil)) (nomark _)) (pss_one (ps_ret (pe_ix (ixT (K := K)) (pv 2) (pv 1) (fun _ _ => rfl)))) pss_nil)
      (pss_one (ps_ret (pe_ix (ixT (K := K)) (pe_ix (ixT (K := K)) (pv 0) pe_int (fun _ _ => rfl)) (pe_op op_sub (pv 1) (pe_callB (lenS (K := K)) rfl T.m_len PySem.boot_len (pa_cons (pv 2) pa_nil))) (fun _ _ => rfl)))))), ?_⟩
  refine ⟨_, rfl, wd, _, _, _, rfl, rfl, sqT hw, at1, ?_⟩
  refine ⟨_, rfl, _, rfl, tb, _, rfl, .inr (sqT hb), _, _, rfl, rfl, _, rfl, ?_⟩
  refine ite2 (fun c => ?_) (fun c => ?_)
  · have c' : (t : Int) < (xs.length : Nat) := of_decide_eq_true c
    rw [List.getElem?_append_left (by omega)] at hv
    exact ⟨_, rfl, _, rfl, tb, _, _, _, rfl, rfl, sqT hb, atI_nat hv, q⟩
  · have c' : ¬ (t : Int) < (xs.length : Nat) := of_decide_eq_false (Bool.eq_false_iff.mpr c)
    rw [List.getElem?_append_right (by omega)] at hv
    have e : ((t : Int) - ((xs.length : Nat) : Int)) = ((t - xs.length : Nat) : Int) := by omega
    refine ⟨_, rfl, wd, _, _, _, rfl, rfl, sqT hw, at2, _, rfl, _, rfl, tb, _, rfl, .inr (sqT hb), _, _, rfl, rfl, tc, _, _, _, rfl, rfl, sqT hc, ?_, q⟩
    show atI ys ((t : Int) - ((xs.length : Nat) : Int)) = some v
    rw [e]
    exact atI_nat hv

end
section
variable {P : Program} {w : World} {K : PySem.W.Frag} {mg : Str → Option Value} {base : Heap} {a : Adr} {d : Fds}
theorem ok_up_of (T : Txt K mg a d) : FnOk P w K mg base CX0 1 a.f_up_of d.f_up_of ["wood", "k"] spUpO := by
  refine T.K_up_of.ok sc_up_of (fun vs H Q E h => ?_) (fun cdv A outer s H vs Q E hr h => ?_)
  · obtain ⟨wd, m, k, L, rfl, _⟩ := h
    rfl
  obtain ⟨wd, m, k, L, rfl, ⟨tb, tc, hw, xs, hb, dn⟩, q⟩ := h
  refine ⟨_, (pss_cons (ps_for PassesOwn.never rfl (piT (K := K) (pe_ix (ixT (K := K)) (pv 0) pe_int (fun _ _ => rfl))) (pg_name (i := 2) sc_up_of.nd rfl (Or.inl rfl)) (pss_one (ps_if (pt_cmpR (inS (K := K)) (pv 1) (pe_ix (ixT (K := K)) (pv 2) pe_int (fun _ _ => rfl)) (by with_unfolding_all rfl)) (pss_one (ps_ret (pe_ix (ixT (K := K)) (pv 2) pe_int (fun _ _ => rfl)))) pss_nil)))
      (pss_one (ps_ret pe_non))), ?_⟩
  refine ⟨_, rfl, wd, _, _, _, rfl, rfl, sqT hw, at1, tb, rfl, ⟨_, sqT hb⟩, ?_⟩
  refine for_tup (K := K) (a := tb) (xs := xs) (fun i σ H2 => (∃ v, σ = [some (.ref wd), some (.int (k : Int)), v]) ∧ H2 = H ∧ (L.take i).find? (fun b => decide (k ∈ b.ks)) = none) ⟨⟨none, rfl⟩, rfl, rfl⟩ (fun i σ H2 _ z => by rw [z.2.1]; exact sqT hb) ?_ ?_
  · rintro i x σ H2 hx ⟨⟨v, rfl⟩, rfl, nf⟩
    obtain ⟨e, he, hd⟩ := dn.get hx
    rw [List.map_map, List.getElem?_map] at he
    obtain ⟨b, hb0, rfl⟩ := Option.map_eq_some_iff.mp he
    obtain ⟨tt, ys, rfl, htt, y1, r1, e1, z1, y2, r2, e2, z2, y3, r3, e3, z3, y4, r4, e4, z4, z5⟩ := hd
    subst e1 e2 e3 e4
    have z5 : r4 = [] := z5
    subst z5
    have z1 : y1 = .int (b.u : Int) := z1
    subst z1
    obtain ⟨tk, ks, rfl, htk, dk⟩ := z4
    have ek : ks = natsL b.ks := by
      have : ∀ (l : List Nat) (ws : List V), DnL H2 (l.map fun k : Nat => PyData.int (k : Int)) ws → ws = natsL l := fun l => by
        induction l with
        | nil => intro ws z; exact z
        | cons k l ih =>
          rintro ws ⟨w1, r, rfl, z, zz⟩
          have z : w1 = .int (k : Int) := z
          rw [z, ih r zz]
          rfl
      exact this _ _ dk
    subst ek
    refine ⟨_, rfl, _, rfl, tt, _, _, _, rfl, rfl, sqT htt, at3, tk, _, rfl, .inr (sqT htk), rfl, flat_nats b.ks, _, rfl, ?_⟩
    have e1 : (if false = true then !inV (V.int (k : Int)) (natsL b.ks) else inV (V.int (k : Int)) (natsL b.ks)) = decide (k ∈ b.ks) := by
      rw [if_neg (by decide), inV_nats]
    rw [e1]
    by_cases hk : k ∈ b.ks
    · refine iteD hk ?_
      refine ⟨_, rfl, tt, _, _, _, rfl, rfl, sqT htt, at0, ?_⟩
      rw [up_find hb0 nf hk] at q
      exact q
    · refine iteDN hk ?_
      refine ⟨⟨_, rfl⟩, rfl, ?_⟩
      rw [List.take_succ, hb0, Option.toList_some, List.find?_append, nf, Option.none_or, List.find?_cons, decide_eq_false hk]
      rfl
  · rintro σ H2 ⟨⟨v, rfl⟩, rfl, nf⟩
    have lx : xs.length = L.length := by rw [← dn.length, List.length_map, List.length_map]
    rw [lx, List.take_length] at nf
    have e : upO L k = none := by unfold upO; rw [nf]; rfl
    rw [e] at q
    exact q

end
section
variable {P : Program} {w : World} {K : PySem.W.Frag} {mg : Str → Option Value} {base : Heap} {a : Adr} {d : Fds}
theorem ok_beneath (T : Txt K mg a d) : FnOk P w K mg base CX0 2 a.f_beneath d.f_beneath ["wood", "k"] spBenN := by
  have G_has := ok_has (P := P) (w := w) (base := base) T
  have G_with_option := ok_with_option (P := P) (w := w) (base := base) T
  have G_up_of := ok_up_of (P := P) (w := w) (base := base) T
  refine T.K_beneath.ok sc_beneath (fun vs H Q E h => ?_) (fun cdv A outer s H vs Q E hr h => ?_)
  · obtain ⟨wd, m, k, L, rfl, _⟩ := h
    rfl
  obtain ⟨wd, m, k, L, rfl, W, U, km, m9, q⟩ := h
  obtain ⟨tb, tc, hw, hb⟩ := id W
  have p62 : (2 : Int) ^ 62 = 4611686018427387904 := by decide
  refine ⟨_, (pss_cons (ps_set (i := 2) sc_beneath.nd rfl (Or.inl rfl) (pe_callD G_with_option hr.lv rfl T.K_with_option (pa_cons pe_int (pa_cons (pv 1) pa_nil))))
      (pss_cons (ps_for PassesOwn.never rfl (pi_range2 rfl T.m_range (pa_cons (pe_op op_add (pv 1) pe_int) (pa_cons (pe_ix (ixT (K := K)) (pv 0) pe_int (fun _ _ => rfl)) pa_nil))) (pg_name (i := 3) sc_beneath.nd rfl (Or.inl rfl)) (pss_one (ps_if (pt_val (pe_callD G_has hr.lv rfl T.K_has (pa_cons (pv 2) (pa_cons (pe_callD G_up_of hr.lv rfl T.K_up_of (pa_cons (pv 0) (pa_cons (pv 3) pa_nil))) pa_nil)))) (pss_one (ps_set (i := 2) sc_beneath.nd rfl (Or.inl rfl) (pe_callD G_with_option hr.lv rfl T.K_with_option (pa_cons (pv 2) (pa_cons (pv 3) pa_nil))))) pss_nil)))
      (pss_one (ps_ret (pv 2))))), ?_⟩
  refine ⟨_, rfl, 0, k, rfl, by omega, ?_⟩
  rw [Nat.zero_or]
  refine ⟨_, rfl, _, _, rfl, rfl, _, rfl, wd, _, _, _, rfl, rfl, sqT hw, at0, _, _, rfl, ⟨by rw [p62]; omega, by rw [p62]; omega, by rw [p62]; omega, by rw [p62]; omega⟩, ?_⟩
  have em : ((m : Int) - ((k : Int) + 1)).toNat = m - 1 - k := by omega
  refine for_range (lo := (k : Int) + 1) (n := ((m : Int) - ((k : Int) + 1)).toNat) (fun i σ H2 => (∃ v, σ = [some (.ref wd), some (.int (k : Int)), some (.int (benN L k i : Int)), v]) ∧ H2 = H) ⟨⟨none, rfl⟩, rfl⟩ ?_ ?_
  · rintro i σ H2 hi ⟨⟨v, rfl⟩, rfl⟩
    rw [em] at hi
    have ej : (k : Int) + 1 + (i : Int) = ((k + 1 + i : Nat) : Int) := by omega
    rw [ej]
    obtain ⟨u, hu, _, _⟩ := up_mem U (k := k + 1 + i) (by omega) (by omega)
    refine ⟨_, rfl, _, rfl, _, rfl, wd, m, k + 1 + i, L, rfl, W, ?_⟩
    rw [hu]
    refine ⟨(benN L k i : Int), (u : Int), rfl, _, rfl, ?_⟩
    rw [hasV_nat]
    have eb : benN L k (i + 1) = if (benN L k i).testBit u = true then benN L k i ||| 2 ^ (k + 1 + i) else benN L k i := by
      show (if (benN L k i).testBit ((upO L (k + 1 + i)).getD 0) = true then _ else _) = _
      rw [hu, Option.getD_some]
    cases c : (benN L k i).testBit u
    · refine iteF ?_
      refine ⟨⟨some (.int ((k + 1 + i : Nat) : Int)), ?_⟩, rfl⟩
      rw [eb, c]
      rfl
    · refine iteT ?_
      refine ⟨_, rfl, _, rfl, benN L k i, k + 1 + i, rfl, by omega, ⟨some (.int ((k + 1 + i : Nat) : Int)), ?_⟩, rfl⟩
      rw [eb, c]
      rfl
  · rintro σ H2 ⟨⟨v, rfl⟩, rfl⟩
    rw [em]
    exact ⟨_, rfl, q⟩

end
section
variable {P : Program} {w : World} {K : PySem.W.Frag} {mg : Str → Option Value} {base : Heap} {a : Adr} {d : Fds}
def spCount : Sp := fun vs H Q _ => ∃ (p : Addr) (ks : List Nat) (n : Nat), vs = [.ref p, .int n] ∧ H p = some (.tup (ks.map fun k : Nat => V.int (k : Int))) ∧ ks.length ≤ 1000 ∧ ∀ H', Same H H' → Q (.int (cnt ks n : Nat)) H'
theorem ok_count_in (T : Txt K mg a d) : FnOk P w K mg base CX0 2 a.f_count_in d.f_count_in ["kids", "some"] spCount := by
  have G_has := ok_has (P := P) (w := w) (base := base) T
  refine T.K_count_in.ok sc_count_in (fun vs H Q E h => ?_) (fun cdv A outer s H vs Q E hr h => ?_)
  · obtain ⟨p, ks, n, rfl, _⟩ := h
    rfl
  obtain ⟨p, ks, n, rfl, hp, hk, q⟩ := h
  refine ⟨_, (pss_one (ps_ret (pe_callB (lenS (K := K)) rfl T.m_len PySem.boot_len (pa_cons (pe_lc (sc0 := defScope s_count_in) (XN := ["kids", "some"]) (N' := ["k", "some"]) (n := 1) (kp := [1]) rfl (piT (K := K) (pv 0)) rfl rfl (by decide +kernel) (fun _ _ _ _ _ => (pg_name (i := 0) (by show List.Nodup (["k", "some"] : List Str); decide +kernel) rfl (Or.inl rfl))) (fun _ _ _ _ _ => (pts_one (pt_val (pe_callD G_has hr.lv rfl T.K_has (pa_cons (pv 1) (pa_cons (pv 0) pa_nil)))))) (fun _ _ _ _ _ => (pv 0))) pa_nil)))), ?_⟩
  refine ⟨_, rfl, p, rfl, ⟨_, sqT hp⟩, ?_⟩
  refine lc_tup (K := K) (a := p) (xs := ks.map fun k : Nat => V.int (k : Int)) (fun i ys σ H2 => (∃ v, σ = [v, some (.int n)]) ∧ H2 = H ∧ i ≤ ks.length ∧ ys = ((ks.take i).filter fun k => n.testBit k).map fun k : Nat => V.int (k : Int)) ⟨⟨none, rfl⟩, rfl, Nat.zero_le _, rfl⟩ (fun i ys σ H2 hi pv => ?_) (fun i ys σ H2 hi pv => ?_) (fun i x ys σ H2 hx pv => ?_) (fun ys σ H2 pv l hl => ?_)
  · obtain ⟨_, _, h1, rfl⟩ := pv
    rw [List.length_map]
    refine small (Nat.le_trans (List.length_filter_le _ _) ?_)
    rw [List.length_take]
    omega
  · rw [pv.2.1]
    exact sqT hp
  · obtain ⟨⟨v, rfl⟩, rfl, h1, rfl⟩ := pv
    rw [List.getElem?_map] at hx
    obtain ⟨k, hk', rfl⟩ := Option.map_eq_some_iff.mp hx
    have hj : i < ks.length := (List.getElem?_eq_some_iff.mp hk').1
    have ee := PySem.take_succ_filter (fun k => n.testBit k) ks i k hk'
    refine ⟨_, rfl, _, rfl, _, _, rfl, _, rfl, ?_⟩
    rw [hasV_nat]
    refine ite2 (fun c => ?_) (fun c => ?_)
    · refine ⟨_, rfl, ⟨_, rfl⟩, rfl, hj, ?_⟩
      rw [ee, if_pos c, List.map_append]
      rfl
    · refine ⟨⟨_, rfl⟩, rfl, hj, ?_⟩
      rw [ee, if_neg c, List.append_nil]
  · obtain ⟨_, rfl, _, rfl⟩ := pv
    have fin : ∀ L : List V, L.length = cnt ks n → ∀ H', Same H2 H' → Q (.int (L.length : Nat)) H' := fun L e H' sm => by
      rw [e]
      exact q H' sm
    exact ⟨l, _, rfl, .inl (SqL.of upd_same), fin _ (by simp [cnt]) _ (same_new hl _)⟩

end
section
variable {P : Program} {w : World} {K : PySem.W.Frag} {mg : Str → Option Value} {base : Heap} {a : Adr} {d : Fds}
def spKeepsB : Sp := fun vs H Q _ => ∃ (u : Nat) (lo hi : Int) (ks : List Nat) (n : Nat) (v : V), vs = [v, .int n] ∧ Dn H (Tie.bough u lo hi ks).toD v ∧ ks.length ≤ 1000 ∧ ∀ H', Same H H' → Q (.bl ((Tie.bough u lo hi ks).keep n)) H'
theorem ok_keeps_bough (T : Txt K mg a d) : FnOk P w K mg base CX0 3 a.f_keeps_bough d.f_keeps_bough ["bough", "some"] spKeepsB := by
  have G_has := ok_has (P := P) (w := w) (base := base) T
  have G_count_in := ok_count_in (P := P) (w := w) (base := base) T
  refine T.K_keeps_bough.ok sc_keeps_bough (fun vs H Q E h => ?_) (fun cdv A outer s H vs Q E hr h => ?_)
  · obtain ⟨u, lo, hi, ks, n, v, rfl, _⟩ := h
    rfl
  obtain ⟨u, lo, hi, ks, n, v, rfl, hd, hk, q⟩ := h
  obtain ⟨p, pk, rfl, hp, hpk⟩ := at_bough hd
  refine ⟨_, (pss_cons (ps_set (i := 2) sc_keeps_bough.nd rfl (Or.inl rfl) (pe_callD G_count_in hr.lv rfl T.K_count_in (pa_cons (pe_ix (ixT (K := K)) (pv 0) pe_int (fun _ _ => rfl)) (pa_cons (pv 1) pa_nil))))
      (pss_cons (ps_if (pt_val (pe_callD G_has hr.lv rfl T.K_has (pa_cons (pv 1) (pa_cons (pe_ix (ixT (K := K)) (pv 0) pe_int (fun _ _ => rfl)) pa_nil)))) (pss_one (ps_ret (pe_chain op_le op_le (pe_ix (ixT (K := K)) (pv 0) pe_int (fun _ _ => rfl)) (pv 2) (pe_ix (ixT (K := K)) (pv 0) pe_int (fun _ _ => rfl))))) pss_nil)
      (pss_one (ps_ret (pe_cmpR op_eq (pv 2) pe_int (nomark _)))))), ?_⟩
  refine ⟨_, rfl, p, _, _, _, rfl, rfl, sqT hp, at3, _, rfl, pk, ks, n, rfl, hpk, hk, fun H1 s1 => ?_⟩
  have hp1 := s1 _ _ hp
  have q1 := q H1 s1
  refine ⟨_, rfl, _, rfl, p, _, _, _, rfl, rfl, sqT hp1, at0, _, _, rfl, _, rfl, ?_⟩
  rw [hasV_nat]
  refine ite2 (fun c => ?_) (fun c => ?_)
  · rw [keep_up c] at q1
    refine ⟨_, rfl, p, _, _, _, rfl, rfl, sqT hp1, at1, _, rfl, _, _, rfl, rfl, _, rfl, ?_⟩
    refine ite2 (fun c2 => ?_) (fun c2 => ?_)
    · refine ⟨_, rfl, p, _, _, _, rfl, rfl, sqT hp1, at2, _, _, rfl, rfl, ?_⟩
      rw [c2, Bool.true_and] at q1
      exact q1
    · rw [Bool.eq_false_iff.mpr c2, Bool.false_and] at q1
      exact q1
  · rw [keep_no c] at q1
    refine ⟨_, rfl, rfl, ?_⟩
    have e : decide (V.int (cnt ks n : Nat) = V.int 0) = decide (cnt ks n = 0) := by
      rw [dec_int]
      by_cases z : cnt ks n = 0
      · rw [z]; rfl
      · rw [decide_eq_false z]
        simpa using z
    show Q (.bl (decide (V.int (cnt ks n : Nat) = V.int 0))) H1
    rw [e]
    exact q1

end
section
variable {P : Program} {w : World} {K : PySem.W.Frag} {mg : Str → Option Value} {base : Heap} {a : Adr} {d : Fds}
theorem ok_keeps (T : Txt K mg a d) : FnOk P w K mg base CX0 4 a.f_keeps d.f_keeps ["tie", "some"] spKeeps := by
  have G_has := ok_has (P := P) (w := w) (base := base) T
  have G_keeps_bough := ok_keeps_bough (P := P) (w := w) (base := base) T
  refine T.K_keeps.ok sc_keeps (fun vs H Q E h => ?_) (fun cdv A outer s H vs Q E hr h => ?_)
  · obtain ⟨t, m, n, v, rfl, _⟩ := h
    rfl
  obtain ⟨t, m, n, v, rfl, hd, ok, hm, q⟩ := h
  have q0 := q H (Same.refl H)
  refine ⟨_, (pss_cons (ps_if (pt_cmpR op_eq (pe_ix (ixT (K := K)) (pv 0) pe_int (fun _ _ => rfl)) pe_str (nomark _)) (pss_one (ps_ret (pe_or (pe_not (pe_callD G_has hr.lv rfl T.K_has (pa_cons (pv 1) (pa_cons (pe_ix (ixT (K := K)) (pv 0) pe_int (fun _ _ => rfl)) pa_nil)))) (pe_one (pe_callD G_has hr.lv rfl T.K_has (pa_cons (pv 1) (pa_cons (pe_ix (ixT (K := K)) (pv 0) pe_int (fun _ _ => rfl)) pa_nil))))))) pss_nil)
      (pss_cons (ps_if (pt_cmpR op_eq (pe_ix (ixT (K := K)) (pv 0) pe_int (fun _ _ => rfl)) pe_str (nomark _)) (pss_one (ps_ret (pe_or (pe_not (pe_callD G_has hr.lv rfl T.K_has (pa_cons (pv 1) (pa_cons (pe_ix (ixT (K := K)) (pv 0) pe_int (fun _ _ => rfl)) pa_nil)))) (pe_one (pe_not (pe_callD G_has hr.lv rfl T.K_has (pa_cons (pv 1) (pa_cons (pe_ix (ixT (K := K)) (pv 0) pe_int (fun _ _ => rfl)) pa_nil)))))))) pss_nil)
      (pss_cons (ps_if (pt_cmpR op_eq (pe_ix (ixT (K := K)) (pv 0) pe_int (fun _ _ => rfl)) pe_str (nomark _)) (pss_one (ps_ret (pe_cmpR op_le (pe_callB (call_sum_ints rfl) rfl T.m_sum PyProof.Rows.boot_sum (pa_cons (pe_lc (sc0 := defScope s_keeps) (XN := ["tie", "some"]) (N' := ["k", "number", "some"]) (n := 2) (kp := [1]) rfl (piT (K := K) (pe_ix (ixT (K := K)) (pv 0) pe_int (fun _ _ => rfl))) rfl rfl (by decide +kernel) (fun _ _ _ _ _ => (pgT (K := K) (n := 2) rfl (pgs_cons (pg_name (i := 0) (by show List.Nodup (["k", "number", "some"] : List Str); decide +kernel) rfl (Or.inl rfl)) (pgs_cons (pg_name (i := 1) (by show List.Nodup (["k", "number", "some"] : List Str); decide +kernel) rfl (Or.inl rfl)) pgs_nil)))) (fun _ _ _ _ _ => (pts_one (pt_val (pe_callD G_has hr.lv rfl T.K_has (pa_cons (pv 2) (pa_cons (pv 0) pa_nil)))))) (fun _ _ _ _ _ => (pv 1))) pa_nil)) (pe_ix (ixT (K := K)) (pv 0) pe_int (fun _ _ => rfl)) (nomark _)))) pss_nil)
      (pss_one (ps_ret (pe_callD G_keeps_bough hr.lv rfl T.K_keeps_bough (pa_cons (pv 0) (pa_cons (pv 1) pa_nil)))))))), ?_⟩
  cases t with
  | needs x y =>
    obtain ⟨p, rfl, hp⟩ := at_word hd
    refine ⟨_, rfl, p, _, _, _, rfl, rfl, sqT hp, at0, rfl, _, rfl, ?_⟩
    refine iteD rfl ?_
    refine ⟨_, rfl, _, rfl, p, _, _, _, rfl, rfl, sqT hp, at1, _, _, rfl, _, rfl, _, rfl, ?_⟩
    rw [hasV_nat]
    have q1 : Q (.bl (!n.testBit x || n.testBit y)) H := q0
    refine ite2 (fun c => ?_) (fun c => ?_)
    · rw [c, Bool.true_or] at q1
      exact q1
    · refine ⟨_, rfl, _, rfl, p, _, _, _, rfl, rfl, sqT hp, at2, _, _, rfl, ?_⟩
      rw [hasV_nat]
      rw [Bool.eq_false_iff.mpr c, Bool.false_or] at q1
      exact q1
  | bans x y =>
    obtain ⟨p, rfl, hp⟩ := at_word hd
    refine ⟨_, rfl, p, _, _, _, rfl, rfl, sqT hp, at0, rfl, _, rfl, ?_⟩
    refine iteDN bans_needs ?_
    refine ⟨_, rfl, p, _, _, _, rfl, rfl, sqT hp, at0, rfl, _, rfl, ?_⟩
    refine iteD rfl ?_
    refine ⟨_, rfl, _, rfl, p, _, _, _, rfl, rfl, sqT hp, at1, _, _, rfl, _, rfl, _, rfl, ?_⟩
    rw [hasV_nat]
    have q1 : Q (.bl (!n.testBit x || !n.testBit y)) H := q0
    refine ite2 (fun c => ?_) (fun c => ?_)
    · rw [c, Bool.true_or] at q1
      exact q1
    · refine ⟨_, rfl, _, rfl, p, _, _, _, rfl, rfl, sqT hp, at2, _, _, rfl, _, rfl, ?_⟩
      rw [hasV_nat]
      rw [Bool.eq_false_iff.mpr c, Bool.false_or] at q1
      exact q1
  | most top ps =>
    obtain ⟨p, pq, xs, rfl, hp, hq, hps⟩ := at_most hd
    have lx : xs.length = ps.length := by rw [← hps.length, List.length_map]
    have few : ps.length ≤ m := ok.2.2.2
    refine ⟨_, rfl, p, _, _, _, rfl, rfl, sqT hp, at0, rfl, _, rfl, ?_⟩
    refine iteDN most_needs ?_
    refine ⟨_, rfl, p, _, _, _, rfl, rfl, sqT hp, at0, rfl, _, rfl, ?_⟩
    refine iteDN most_bans ?_
    refine ⟨_, rfl, p, _, _, _, rfl, rfl, sqT hp, at0, rfl, _, rfl, ?_⟩
    refine iteD rfl ?_
    refine ⟨_, rfl, p, _, _, _, rfl, rfl, sqT hp, at2, pq, rfl, ⟨_, sqT hq⟩, ?_⟩
    refine lc_tup (K := K) (a := pq) (xs := xs) (fun i ys σ H2 => (∃ v v', σ = [v, v', some (.int n)]) ∧ H2 = H ∧ i ≤ ps.length ∧ ys = (((ps.take i).filter fun p => n.testBit p.1).map (·.2)).map V.int) ⟨⟨none, none, rfl⟩, rfl, Nat.zero_le _, rfl⟩ (fun i ys σ H2 hi pv => ?_) (fun i ys σ H2 hi pv => ?_) (fun i x ys σ H2 hx pv => ?_) (fun ys σ H2 pv l hl => ?_)
    · obtain ⟨_, _, h1, rfl⟩ := pv
      rw [List.length_map, List.length_map]
      refine small (Nat.le_trans (List.length_filter_le _ _) ?_)
      rw [List.length_take]
      omega
    · rw [pv.2.1]
      exact sqT hq
    · obtain ⟨⟨v, v', rfl⟩, rfl, h1, rfl⟩ := pv
      obtain ⟨pr, r, hpr, rfl, hr'⟩ := at_pair hps hx
      have hj : i < ps.length := (List.getElem?_eq_some_iff.mp hpr).1
      have ee := PySem.take_succ_filter (fun p : Nat × Int => n.testBit p.1) ps i pr hpr
      refine ⟨r, _, rfl, sqT hr', rfl, _, _, rfl, _, _, rfl, rfl, ?_⟩
      refine ⟨_, rfl, _, rfl, _, _, rfl, _, rfl, ?_⟩
      rw [hasV_nat]
      refine ite2 (fun c => ?_) (fun c => ?_)
      · refine ⟨_, rfl, ⟨_, _, rfl⟩, rfl, hj, ?_⟩
        rw [ee, if_pos c, List.map_append, List.map_append]
        rfl
      · refine ⟨⟨_, _, rfl⟩, rfl, hj, ?_⟩
        rw [ee, if_neg c, List.append_nil]
    · obtain ⟨_, rfl, _, rfl⟩ := pv
      have sm := same_new hl (.lst ((((ps.take xs.length).filter fun p => n.testBit p.1).map (·.2)).map V.int))
      refine ⟨l, _, rfl, SqL.of upd_same, _, rfl, p, _, _, _, rfl, rfl, sqT (sm _ _ hp), at1, _, _, rfl, rfl, ?_⟩
      have q1 := q _ sm
      have e : (Tie.most top ps).keep n = decide ((((ps.take xs.length).filter fun p => n.testBit p.1).map (·.2)).sum ≤ top) := by
        rw [lx, List.take_length]
        rfl
      rw [e] at q1
      exact q1
  | bough u lo hi ks =>
    obtain ⟨p, pk, e, hp, hpk⟩ := at_bough hd
    have ok' : Tie.BoughOkW m u lo hi ks := ok
    have few := ok'.few
    subst e
    refine ⟨_, rfl, p, _, _, _, rfl, rfl, sqT hp, at0, rfl, _, rfl, ?_⟩
    refine iteDN int_str ?_
    refine ⟨_, rfl, p, _, _, _, rfl, rfl, sqT hp, at0, rfl, _, rfl, ?_⟩
    refine iteDN int_str ?_
    refine ⟨_, rfl, p, _, _, _, rfl, rfl, sqT hp, at0, rfl, _, rfl, ?_⟩
    refine iteDN int_str ?_
    exact ⟨_, rfl, _, rfl, u, lo, hi, ks, n, _, rfl, hd, by omega, q⟩

end
section
variable {P : Program} {w : World} {K : PySem.W.Frag} {mg : Str → Option Value} {base : Heap} {a : Adr} {d : Fds}
theorem ok_every_tie (T : Txt K mg a d) : FnOk P w K mg base CX0 2 a.f_every_tie d.f_every_tie ["wood"] spEvery := by
  have G_many_ties := ok_many_ties (P := P) (w := w) (base := base) T
  refine T.K_every_tie.ok sc_every_tie (fun vs H Q E h => ?_) (fun cdv A outer s H vs Q E hr h => ?_)
  · obtain ⟨wd, m, ts, rfl, _⟩ := h
    rfl
  obtain ⟨wd, m, ts, rfl, W, q⟩ := h
  have p62 : (2 : Int) ^ 62 = 4611686018427387904 := by decide
  obtain ⟨xs, ys, WA, dn⟩ := W.ex
  have few := W.few
  have ln : ts.length = xs.length + ys.length := by
    have := dn.length
    rw [List.length_map, List.length_append] at this
    exact this
  refine ⟨_, (pss_one (ps_ret (pe_callTy (call_list_rng rfl) rfl T.m_list PyProof.Rows.boot_list (pa_cons (pe_callTy call_rng1 rfl T.m_range PyProof.Rows.boot_range (pa_cons (pe_callD G_many_ties hr.lv rfl T.K_many_ties (pa_cons (pv 0) pa_nil)) pa_nil)) pa_nil)))), ?_⟩
  refine ⟨_, rfl, wd, m, xs, ys, rfl, WA, _, rfl, fun rp hrp => ?_⟩
  refine ⟨rp, 0, _, rfl, upd_same, by rw [p62]; omega, by rw [p62]; omega, by rw [p62]; omega, by rw [p62]; omega, by omega, fun l hl => ?_⟩
  have e : ((List.range' 0 ((xs.length : Int) + (ys.length : Int) - 0).toNat).map fun i : Nat => V.int (0 + (i : Int))) = (List.range ts.length).map fun i : Nat => V.int (i : Int) := by
    have e1 : ((xs.length : Int) + (ys.length : Int) - 0).toNat = ts.length := by omega
    rw [e1, List.range_eq_range']
    simp
  rw [e]
  have s1 := (same_new hrp (.rng 0 ((xs.length : Int) + (ys.length : Int)))).trans (same_new hl (.lst ((List.range ts.length).map fun i : Nat => V.int (i : Int))))
  exact q l _ s1 ((same_new hrp (.rng 0 ((xs.length : Int) + (ys.length : Int)))).free hl) upd_same

end
section
variable {P : Program} {w : World} {K : PySem.W.Frag} {mg : Str → Option Value} {base : Heap} {a : Adr} {d : Fds}
theorem ok_first_broken (T : Txt K mg a d) : FnOk P w K mg base CX0 5 a.f_first_broken d.f_first_broken ["wood", "some"] spFirstB := by
  have G_every_tie := ok_every_tie (P := P) (w := w) (base := base) T
  have G_tie_at := ok_tie_at (P := P) (w := w) (base := base) T
  have G_keeps := ok_keeps (P := P) (w := w) (base := base) T
  refine T.K_first_broken.ok sc_first_broken (fun vs H Q E h => ?_) (fun cdv A outer s H vs Q E hr h => ?_)
  · obtain ⟨wd, m, ts, n, rfl, _⟩ := h
    rfl
  obtain ⟨wd, m, ts, n, rfl, W, q⟩ := h
  have m9 := W.m9
  refine ⟨_, (pss_cons (ps_for PassesOwn.never rfl (piL (K := K) (pe_callD G_every_tie hr.lv rfl T.K_every_tie (pa_cons (pv 0) pa_nil))) (pg_name (i := 2) sc_first_broken.nd rfl (Or.inl rfl)) (pss_one (ps_if (pt_not (pt_val (pe_callD G_keeps hr.lv rfl T.K_keeps (pa_cons (pe_callD G_tie_at hr.lv rfl T.K_tie_at (pa_cons (pv 0) (pa_cons (pv 2) pa_nil))) (pa_cons (pv 1) pa_nil))))) (pss_one (ps_ret (pv 2))) pss_nil)))
      (pss_one (ps_ret pe_non))), ?_⟩
  refine ⟨_, rfl, wd, m, ts, rfl, W, fun l H1 s1 n1 e1 => ?_⟩
  refine ⟨l, rfl, ⟨_, SqL.of e1⟩, ?_⟩
  refine for_list (K := K) (a := l) (xs := (List.range ts.length).map fun i : Nat => V.int (i : Int)) (fun i σ H2 => (∃ v, σ = [some (.ref wd), some (.int n), v]) ∧ Same H1 H2 ∧ ∀ j x, j < i → ts[j]? = some x → x.keep n = true) ⟨⟨_, rfl⟩, Same.refl _, fun j x hj => absurd hj (Nat.not_lt_zero j)⟩ (fun i σ H2 _ z => SqL.of (z.2.1 _ _ e1)) ?_ ?_
  · rintro i x σ H2 hx ⟨⟨v, rfl⟩, s2, hb⟩
    obtain ⟨hi, rfl⟩ := range_get hx
    have W2 := W.same (s1.trans s2)
    obtain ⟨xs, ys, WA, dn⟩ := W2.ex
    have ht : ts[i]? = some ts[i] := List.getElem?_eq_getElem hi
    obtain ⟨v2, hv2, hd⟩ := DnL.get' dn (i := i) (d := ts[i].toD) (by rw [List.getElem?_map, ht]; rfl)
    refine ⟨_, rfl, _, rfl, wd, m, xs, ys, i, v2, rfl, WA, hv2, ?_⟩
    refine ⟨_, rfl, ts[i], m, n, v2, rfl, hd, W.ok _ (List.getElem_mem hi), by omega, fun H3 s3 => ?_⟩
    refine ⟨_, rfl, ?_⟩
    refine ite2 (fun c => ?_) (fun c => ?_)
    · have c' : (ts[i]).keep n = false := by simpa using c
      have q1 := q H3 ((s1.trans s2).trans s3)
      rw [firstB_some ht c' hb] at q1
      exact ⟨_, rfl, q1⟩
    · have c' : (ts[i]).keep n = true := by simpa using c
      refine ⟨⟨_, rfl⟩, s2.trans s3, fun j x hj hx2 => ?_⟩
      by_cases e : j = i
      · subst e
        rw [ht] at hx2
        cases hx2
        exact c'
      · exact hb j x (by omega) hx2
  · rintro σ H2 ⟨⟨v, rfl⟩, s2, hb⟩
    have q1 := q H2 (s1.trans s2)
    rw [List.length_map, List.length_range] at hb
    rw [firstB_none hb] at q1
    exact q1

end
section
variable {P : Program} {w : World} {K : PySem.W.Frag} {mg : Str → Option Value} {base : Heap} {a : Adr} {d : Fds}
theorem ok_is_ware (T : Txt K mg a d) : FnOk P w K mg base CX0 6 a.f_is_ware d.f_is_ware ["wood", "some"] spWareB := by
  have G_has := ok_has (P := P) (w := w) (base := base) T
  have G_first_broken := ok_first_broken (P := P) (w := w) (base := base) T
  refine T.K_is_ware.ok sc_is_ware (fun vs H Q E h => ?_) (fun cdv A outer s H vs Q E hr h => ?_)
  · obtain ⟨wd, m, ts, n, rfl, _⟩ := h
    rfl
  obtain ⟨wd, m, ts, n, rfl, W, q⟩ := h
  refine ⟨_, (pss_one (ps_ret (pe_and (pe_callD G_has hr.lv rfl T.K_has (pa_cons (pv 1) (pa_cons pe_int pa_nil))) (pe_one (pe_cmpR op_isN (pe_callD G_first_broken hr.lv rfl T.K_first_broken (pa_cons (pv 0) (pa_cons (pv 1) pa_nil))) pe_non (nomark _)))))), ?_⟩
  refine ⟨_, rfl, _, _, rfl, _, rfl, ?_⟩
  have e0 : hasV (n : Int) 0 = n.testBit 0 := hasV_nat n 0
  rw [e0]
  refine ite2 (fun c => ?_) (fun c => ?_)
  · refine ⟨_, rfl, _, rfl, wd, m, ts, n, rfl, W, fun H1 s1 => ?_⟩
    have q1 := q H1 s1
    rw [wareB_first, c, Bool.true_and, ← optN_non] at q1
    exact ⟨rfl, q1⟩
  · have q1 := q H (Same.refl H)
    rw [wareB_first, Bool.eq_false_iff.mpr c, Bool.false_and] at q1
    exact q1

end
section
variable {P : Program} {w : World} {K : PySem.W.Frag} {mg : Str → Option Value} {base : Heap} {a : Adr} {d : Fds}
theorem ok_sure_broken_bough (T : Txt K mg a d) : FnOk P w K mg base CX0 3 a.f_sure_broken_bough d.f_sure_broken_bough ["bough", "yes", "no"] (spTie3B Tie.sb) := by
  have G_has := ok_has (P := P) (w := w) (base := base) T
  have G_count_in := ok_count_in (P := P) (w := w) (base := base) T
  refine T.K_sure_broken_bough.ok sc_sure_broken_bough (fun vs H Q E h => ?_) (fun cdv A outer s H vs Q E hr h => ?_)
  · obtain ⟨u, lo, hi, ks, m, y, n, v, rfl, _⟩ := h
    rfl
  obtain ⟨u, lo, hi, ks, m, y, n, v, rfl, hd, ok, hm, q⟩ := h
  obtain ⟨p, pk, rfl, hp, hpk⟩ := at_bough hd
  have few := ok.few
  have rest4 : ∃ t, PSs (cxOf CX0 P w K mg base ["bough", "yes", "no", "least", "greatest", "some_with_up", "some_without_up"] "sure_broken_bough" (defScope s_sure_broken_bough) a.f_sure_broken_bough cdv A outer s H E).nox ((defBody s_sure_broken_bough).drop 4) t ∧ ∀ (v3 v4 : Option V) (b5 b6 : Bool) (H1 : Hp), Same H H1 → (!b5 && !b6) = (Tie.bough u lo hi ks).sb y n → t { nx := fun _ H' => Q .non H', rt := Q } [some (.ref p), some (.int y), some (.int n), v3, v4, some (.bl b5), some (.bl b6)] H1 := by
    refine ⟨_, (pss_one (ps_ret (pe_and (pe_not (pv 5)) (pe_one (pe_not (pv 6)))))), ?_⟩
    intro v3 v4 b5 b6 H1 s1 e
    have q1 := q H1 s1
    rw [← e] at q1
    refine ⟨_, rfl, _, rfl, _, rfl, ?_⟩
    refine ite2 (fun c => ?_) (fun c => ?_)
    · rw [c, Bool.true_and] at q1
      exact ⟨_, rfl, _, rfl, q1⟩
    · rw [Bool.eq_false_iff.mpr c, Bool.false_and] at q1
      exact q1
  obtain ⟨t4, h4, r4⟩ := rest4
  have rest3 : ∃ t, PSs (cxOf CX0 P w K mg base ["bough", "yes", "no", "least", "greatest", "some_with_up", "some_without_up"] "sure_broken_bough" (defScope s_sure_broken_bough) a.f_sure_broken_bough cdv A outer s H E).nox ((defBody s_sure_broken_bough).drop 3) t ∧ ∀ (g : Int) (b5 : Bool) (H1 : Hp), Same H H1 → g = (ks.length : Int) - cnt ks n → b5 = (!n.testBit u && (decide ((cnt ks y : Int) ≤ hi) && decide (lo ≤ g))) → t { nx := fun _ H' => Q .non H', rt := Q } [some (.ref p), some (.int y), some (.int n), some (.int (cnt ks y : Nat)), some (.int g), some (.bl b5), none] H1 := by
    refine ⟨_, (pss_cons (ps_set (i := 6) sc_sure_broken_bough.nd rfl (Or.inl rfl) (pe_and (pe_not (pe_callD G_has hr.lv rfl T.K_has (pa_cons (pv 1) (pa_cons (pe_ix (ixT (K := K)) (pv 0) pe_int (fun _ _ => rfl)) pa_nil)))) (pe_one (pe_cmpR op_eq (pv 3) pe_int (nomark _)))))
      h4), ?_⟩
    intro g b5 H1 s1 eg e5
    have hp1 := s1 _ _ hp
    refine ⟨_, rfl, _, rfl, p, _, _, _, rfl, rfl, sqT hp1, at0, _, _, rfl, _, rfl, _, rfl, ?_⟩
    rw [hasV_nat]
    refine ite2 (fun c => ?_) (fun c => ?_)
    · refine ⟨_, rfl, rfl, ?_⟩
      refine r4 _ _ _ _ _ s1 ?_
      rw [e5, eg, dec_cnt0]
      show _ = (!_ && !(!y.testBit u && decide (cnt ks y = 0)))
      rw [c, Bool.true_and]
    · refine r4 _ _ _ _ _ s1 ?_
      rw [e5, eg]
      show _ = (!_ && !(!y.testBit u && decide (cnt ks y = 0)))
      rw [Bool.eq_false_iff.mpr c, Bool.false_and]
  obtain ⟨t3, h3, r3⟩ := rest3
  have rest2 : ∃ t, PSs (cxOf CX0 P w K mg base ["bough", "yes", "no", "least", "greatest", "some_with_up", "some_without_up"] "sure_broken_bough" (defScope s_sure_broken_bough) a.f_sure_broken_bough cdv A outer s H E).nox ((defBody s_sure_broken_bough).drop 2) t ∧ ∀ (g : Int) (H1 : Hp), Same H H1 → g = (ks.length : Int) - cnt ks n → t { nx := fun _ H' => Q .non H', rt := Q } [some (.ref p), some (.int y), some (.int n), some (.int (cnt ks y : Nat)), some (.int g), none, none] H1 := by
    refine ⟨_, (pss_cons (ps_set (i := 5) sc_sure_broken_bough.nd rfl (Or.inl rfl) (pe_and (pe_not (pe_callD G_has hr.lv rfl T.K_has (pa_cons (pv 2) (pa_cons (pe_ix (ixT (K := K)) (pv 0) pe_int (fun _ _ => rfl)) pa_nil)))) (pe_and (pe_cmpR op_le (pv 3) (pe_ix (ixT (K := K)) (pv 0) pe_int (fun _ _ => rfl)) (nomark _)) (pe_one (pe_cmpR op_le (pe_ix (ixT (K := K)) (pv 0) pe_int (fun _ _ => rfl)) (pv 4) (nomark _))))))
      h3), ?_⟩
    intro g H1 s1 eg
    have hp1 := s1 _ _ hp
    refine ⟨_, rfl, _, rfl, p, _, _, _, rfl, rfl, sqT hp1, at0, _, _, rfl, _, rfl, _, rfl, ?_⟩
    rw [hasV_nat]
    refine ite2 (fun c => ?_) (fun c => ?_)
    · refine ⟨_, rfl, _, rfl, p, _, _, _, rfl, rfl, sqT hp1, at2, _, _, rfl, rfl, _, rfl, ?_⟩
      refine ite2 (fun c2 => ?_) (fun c2 => ?_)
      · refine ⟨_, rfl, p, _, _, _, rfl, rfl, sqT hp1, at1, _, rfl, _, _, rfl, rfl, ?_⟩
        exact r3 _ _ _ s1 eg (by rw [c, Bool.true_and, c2, Bool.true_and])
      · exact r3 _ _ _ s1 eg (by rw [c, Bool.true_and, Bool.eq_false_iff.mpr c2, Bool.false_and])
    · exact r3 _ _ _ s1 eg (by rw [Bool.eq_false_iff.mpr c, Bool.false_and])
  obtain ⟨t2, h2, r2⟩ := rest2
  refine ⟨_, (pss_cons (ps_set (i := 3) sc_sure_broken_bough.nd rfl (Or.inl rfl) (pe_callD G_count_in hr.lv rfl T.K_count_in (pa_cons (pe_ix (ixT (K := K)) (pv 0) pe_int (fun _ _ => rfl)) (pa_cons (pv 1) pa_nil))))
      (pss_cons (ps_set (i := 4) sc_sure_broken_bough.nd rfl (Or.inl rfl) (pe_op op_sub (pe_callB (lenS (K := K)) rfl T.m_len PySem.boot_len (pa_cons (pe_ix (ixT (K := K)) (pv 0) pe_int (fun _ _ => rfl)) pa_nil)) (pe_callD G_count_in hr.lv rfl T.K_count_in (pa_cons (pe_ix (ixT (K := K)) (pv 0) pe_int (fun _ _ => rfl)) (pa_cons (pv 2) pa_nil)))))
      h2)), ?_⟩
  refine ⟨_, rfl, p, _, _, _, rfl, rfl, sqT hp, at3, _, rfl, pk, ks, y, rfl, hpk, by omega, fun H1 s1 => ?_⟩
  have hp1 := s1 _ _ hp
  have hpk1 := s1 _ _ hpk
  refine ⟨_, rfl, p, _, _, _, rfl, rfl, sqT hp1, at3, pk, _, rfl, .inr (sqT hpk1), ?_⟩
  refine ⟨_, rfl, p, _, _, _, rfl, rfl, sqT hp1, at3, _, rfl, pk, ks, n, rfl, hpk1, by omega, fun H2 s2 => ?_⟩
  refine ⟨_, _, rfl, rfl, ?_⟩
  exact r2 _ _ (s1.trans s2) (by rw [List.length_map])

end
section
variable {P : Program} {w : World} {K : PySem.W.Frag} {mg : Str → Option Value} {base : Heap} {a : Adr} {d : Fds}
theorem ok_least_sumA (T : Txt K mg a d) : FnOk P w K mg base CX0 2 a.f_least_sum d.f_least_sum ["pairs", "yes", "no"] (spSumA leastSum) := by
  have G_has := ok_has (P := P) (w := w) (base := base) T
  refine T.K_least_sum.ok sc_least_sum (fun vs H Q E h => ?_) (fun cdv A outer s H vs Q E hr h => ?_)
  · obtain ⟨pq, xs, ps, y, n, rfl, _⟩ := h
    rfl
  obtain ⟨pq, xs, ps, y, n, rfl, hq, hps, few, q⟩ := h
  have lx : xs.length = ps.length := by rw [← hps.length, List.length_map]
  refine ⟨_, (pss_one (ps_ret (pe_callB (call_sum_ints rfl) rfl T.m_sum PyProof.Rows.boot_sum (pa_cons (pe_lc (sc0 := defScope s_least_sum) (XN := ["pairs", "yes", "no"]) (N' := ["k", "number", "yes", "no"]) (n := 2) (kp := [1, 2]) rfl (pi_seq (pv 0)) rfl rfl (by decide +kernel) (fun _ _ _ _ _ => (pgT (K := K) (n := 2) rfl (pgs_cons (pg_name (i := 0) (by show List.Nodup (["k", "number", "yes", "no"] : List Str); decide +kernel) rfl (Or.inl rfl)) (pgs_cons (pg_name (i := 1) (by show List.Nodup (["k", "number", "yes", "no"] : List Str); decide +kernel) rfl (Or.inl rfl)) pgs_nil)))) (fun _ _ _ _ _ => (pts_one (PW.pt (pw_or (pt_val (pe_callD G_has hr.lv rfl T.K_has (pa_cons (pv 2) (pa_cons (pv 0) pa_nil)))) (pw_or1 (PW.pt (pw_and (pt_cmpR op_lt (pv 1) pe_int (nomark _)) (pw_and1 (pt_not (pt_val (pe_callD G_has hr.lv rfl T.K_has (pa_cons (pv 3) (pa_cons (pv 0) pa_nil))))))))))))) (fun _ _ _ _ _ => (pv 1))) pa_nil)))), ?_⟩
  refine ⟨_, rfl, pq, rfl, ?_⟩
  refine lc_seq (K := K) (a := pq) (xs := xs) hq (fun i ys σ H2 => (∃ v v', σ = [v, v', some (.int y), some (.int n)]) ∧ H2 = H ∧ i ≤ ps.length ∧ ys = (((ps.take i).filter fun p => y.testBit p.1 || (decide (p.2 < 0) && !n.testBit p.1)).map (·.2)).map V.int) ⟨⟨none, none, rfl⟩, rfl, Nat.zero_le _, rfl⟩ (fun i ys σ H2 hi pv => ?_) (fun i ys σ H2 hi pv => ?_) (fun i x ys σ H2 hx pv => ?_) (fun ys σ H2 pv l hl => ?_)
  · obtain ⟨_, _, h1, rfl⟩ := pv
    rw [List.length_map, List.length_map]
    refine small (Nat.le_trans (List.length_filter_le _ _) ?_)
    rw [List.length_take]
    omega
  · rw [pv.2.1]
  · obtain ⟨⟨v, v', rfl⟩, rfl, h1, rfl⟩ := pv
    obtain ⟨pr, r, hpr, rfl, hr'⟩ := at_pair hps hx
    have hj : i < ps.length := (List.getElem?_eq_some_iff.mp hpr).1
    have ee := PySem.take_succ_filter (fun p : Nat × Int => y.testBit p.1 || (decide (p.2 < 0) && !n.testBit p.1)) ps i pr hpr
    have yes : (y.testBit pr.1 || (decide (pr.2 < 0) && !n.testBit pr.1)) = true → ((((ps.take i).filter fun p => y.testBit p.1 || (decide (p.2 < 0) && !n.testBit p.1)).map (·.2)).map V.int) ++ [V.int pr.2] = (((ps.take (i + 1)).filter fun p => y.testBit p.1 || (decide (p.2 < 0) && !n.testBit p.1)).map (·.2)).map V.int := fun c => by
      rw [ee, if_pos c, List.map_append, List.map_append]
      rfl
    have noo : (y.testBit pr.1 || (decide (pr.2 < 0) && !n.testBit pr.1)) = false → ((((ps.take i).filter fun p => y.testBit p.1 || (decide (p.2 < 0) && !n.testBit p.1)).map (·.2)).map V.int) = (((ps.take (i + 1)).filter fun p => y.testBit p.1 || (decide (p.2 < 0) && !n.testBit p.1)).map (·.2)).map V.int := fun c => by
      rw [ee, if_neg (by rw [c]; exact Bool.false_ne_true), List.append_nil]
    refine ⟨r, _, rfl, sqT hr', rfl, _, _, rfl, _, _, rfl, rfl, ?_⟩
    refine ⟨_, rfl, _, rfl, _, _, rfl, _, rfl, ?_⟩
    rw [hasV_nat]
    refine ite2 (fun c => ?_) (fun c => ?_)
    · refine iteT ?_
      exact ⟨_, rfl, ⟨_, _, rfl⟩, rfl, hj, yes (by rw [c, Bool.true_or])⟩
    · have c' := Bool.eq_false_iff.mpr c
      refine ⟨_, rfl, _, _, rfl, rfl, _, rfl, ?_⟩
      refine ite2 (fun c2 => ?_) (fun c2 => ?_)
      · refine ⟨_, rfl, _, rfl, _, _, rfl, _, rfl, ?_⟩
        rw [hasV_nat]
        refine ite2 (fun c3 => ?_) (fun c3 => ?_)
        · exact ⟨_, rfl, ⟨_, _, rfl⟩, rfl, hj, yes (by rw [c', Bool.false_or, c2, Bool.true_and, c3])⟩
        · exact ⟨⟨_, _, rfl⟩, rfl, hj, noo (by rw [c', Bool.false_or, c2, Bool.true_and, Bool.eq_false_iff.mpr c3])⟩
      · refine iteF ?_
        exact ⟨⟨_, _, rfl⟩, rfl, hj, noo (by rw [c', Bool.false_or, Bool.eq_false_iff.mpr c2, Bool.false_and])⟩
  · obtain ⟨_, rfl, _, rfl⟩ := pv
    refine ⟨l, _, rfl, SqL.of upd_same, ?_⟩
    have q1 := q _ (same_new hl (.lst ((((ps.take xs.length).filter fun p => y.testBit p.1 || (decide (p.2 < 0) && !n.testBit p.1)).map (·.2)).map V.int)))
    have e : leastSum ps y n = (((ps.take xs.length).filter fun p => y.testBit p.1 || (decide (p.2 < 0) && !n.testBit p.1)).map (·.2)).sum := by
      rw [lx, List.take_length]
      rfl
    rw [e] at q1
    exact q1
theorem ok_least_sum (T : Txt K mg a d) : FnOk P w K mg base CX0 2 a.f_least_sum d.f_least_sum ["pairs", "yes", "no"] (spSum leastSum) := (ok_least_sumA T).imp fun _ _ _ _ => spSumA_of

end
section
variable {P : Program} {w : World} {K : PySem.W.Frag} {mg : Str → Option Value} {base : Heap} {a : Adr} {d : Fds}
theorem ok_sure_broken (T : Txt K mg a d) : FnOk P w K mg base CX0 4 a.f_sure_broken d.f_sure_broken ["tie", "yes", "no"] (spTie3 Tie.sb) := by
  have G_has := ok_has (P := P) (w := w) (base := base) T
  have G_least_sum := ok_least_sum (P := P) (w := w) (base := base) T
  have G_sure_broken_bough := ok_sure_broken_bough (P := P) (w := w) (base := base) T
  refine T.K_sure_broken.ok sc_sure_broken (fun vs H Q E h => ?_) (fun cdv A outer s H vs Q E hr h => ?_)
  · obtain ⟨t, m, y, n, v, rfl, _⟩ := h
    rfl
  obtain ⟨t, m, y, n, v, rfl, hd, ok, hm, q⟩ := h
  have q0 := q H (Same.refl H)
  refine ⟨_, (pss_cons (ps_if (pt_cmpR op_eq (pe_ix (ixT (K := K)) (pv 0) pe_int (fun _ _ => rfl)) pe_str (nomark _)) (pss_one (ps_ret (pe_and (pe_callD G_has hr.lv rfl T.K_has (pa_cons (pv 1) (pa_cons (pe_ix (ixT (K := K)) (pv 0) pe_int (fun _ _ => rfl)) pa_nil))) (pe_one (pe_callD G_has hr.lv rfl T.K_has (pa_cons (pv 2) (pa_cons (pe_ix (ixT (K := K)) (pv 0) pe_int (fun _ _ => rfl)) pa_nil))))))) pss_nil)
      (pss_cons (ps_if (pt_cmpR op_eq (pe_ix (ixT (K := K)) (pv 0) pe_int (fun _ _ => rfl)) pe_str (nomark _)) (pss_one (ps_ret (pe_and (pe_callD G_has hr.lv rfl T.K_has (pa_cons (pv 1) (pa_cons (pe_ix (ixT (K := K)) (pv 0) pe_int (fun _ _ => rfl)) pa_nil))) (pe_one (pe_callD G_has hr.lv rfl T.K_has (pa_cons (pv 1) (pa_cons (pe_ix (ixT (K := K)) (pv 0) pe_int (fun _ _ => rfl)) pa_nil))))))) pss_nil)
      (pss_cons (ps_if (pt_cmpR op_eq (pe_ix (ixT (K := K)) (pv 0) pe_int (fun _ _ => rfl)) pe_str (nomark _)) (pss_one (ps_ret (pe_cmpR op_gt (pe_callD G_least_sum hr.lv rfl T.K_least_sum (pa_cons (pe_ix (ixT (K := K)) (pv 0) pe_int (fun _ _ => rfl)) (pa_cons (pv 1) (pa_cons (pv 2) pa_nil)))) (pe_ix (ixT (K := K)) (pv 0) pe_int (fun _ _ => rfl)) (nomark _)))) pss_nil)
      (pss_one (ps_ret (pe_callD G_sure_broken_bough hr.lv rfl T.K_sure_broken_bough (pa_cons (pv 0) (pa_cons (pv 1) (pa_cons (pv 2) pa_nil))))))))), ?_⟩
  cases t with
  | needs x z =>
    obtain ⟨p, rfl, hp⟩ := at_word hd
    refine ⟨_, rfl, p, _, _, _, rfl, rfl, sqT hp, at0, rfl, _, rfl, ?_⟩
    refine iteD rfl ?_
    refine ⟨_, rfl, _, rfl, p, _, _, _, rfl, rfl, sqT hp, at1, _, _, rfl, _, rfl, ?_⟩
    rw [hasV_nat]
    have q1 : Q (.bl (y.testBit x && n.testBit z)) H := q0
    refine ite2 (fun c => ?_) (fun c => ?_)
    · rw [c, Bool.true_and] at q1
      refine ⟨_, rfl, _, rfl, p, _, _, _, rfl, rfl, sqT hp, at2, _, _, rfl, ?_⟩
      rw [hasV_nat]
      exact q1
    · rw [Bool.eq_false_iff.mpr c, Bool.false_and] at q1
      exact q1
  | bans x z =>
    obtain ⟨p, rfl, hp⟩ := at_word hd
    refine ⟨_, rfl, p, _, _, _, rfl, rfl, sqT hp, at0, rfl, _, rfl, ?_⟩
    refine iteDN bans_needs ?_
    refine ⟨_, rfl, p, _, _, _, rfl, rfl, sqT hp, at0, rfl, _, rfl, ?_⟩
    refine iteD rfl ?_
    refine ⟨_, rfl, _, rfl, p, _, _, _, rfl, rfl, sqT hp, at1, _, _, rfl, _, rfl, ?_⟩
    rw [hasV_nat]
    have q1 : Q (.bl (y.testBit x && y.testBit z)) H := q0
    refine ite2 (fun c => ?_) (fun c => ?_)
    · rw [c, Bool.true_and] at q1
      refine ⟨_, rfl, _, rfl, p, _, _, _, rfl, rfl, sqT hp, at2, _, _, rfl, ?_⟩
      rw [hasV_nat]
      exact q1
    · rw [Bool.eq_false_iff.mpr c, Bool.false_and] at q1
      exact q1
  | most top ps =>
    obtain ⟨p, pq, xs, rfl, hp, hq, hps⟩ := at_most hd
    have few : ps.length ≤ m := ok.2.2.2
    refine ⟨_, rfl, p, _, _, _, rfl, rfl, sqT hp, at0, rfl, _, rfl, ?_⟩
    refine iteDN most_needs ?_
    refine ⟨_, rfl, p, _, _, _, rfl, rfl, sqT hp, at0, rfl, _, rfl, ?_⟩
    refine iteDN most_bans ?_
    refine ⟨_, rfl, p, _, _, _, rfl, rfl, sqT hp, at0, rfl, _, rfl, ?_⟩
    refine iteD rfl ?_
    refine ⟨_, rfl, p, _, _, _, rfl, rfl, sqT hp, at2, _, rfl, _, rfl, pq, xs, ps, y, n, rfl, hq, hps, by omega, fun H1 s1 => ?_⟩
    exact ⟨_, rfl, p, _, _, _, rfl, rfl, sqT (s1 _ _ hp), at1, _, _, rfl, rfl, q H1 s1⟩
  | bough u lo hi ks =>
    obtain ⟨p, pk, e, hp, hpk⟩ := at_bough hd
    subst e
    refine ⟨_, rfl, p, _, _, _, rfl, rfl, sqT hp, at0, rfl, _, rfl, ?_⟩
    refine iteDN int_str ?_
    refine ⟨_, rfl, p, _, _, _, rfl, rfl, sqT hp, at0, rfl, _, rfl, ?_⟩
    refine iteDN int_str ?_
    refine ⟨_, rfl, p, _, _, _, rfl, rfl, sqT hp, at0, rfl, _, rfl, ?_⟩
    refine iteDN int_str ?_
    exact ⟨_, rfl, _, rfl, _, rfl, u, lo, hi, ks, m, y, n, _, rfl, hd, ok, hm, q⟩

end
section
variable {P : Program} {w : World} {K : PySem.W.Frag} {mg : Str → Option Value} {base : Heap} {a : Adr} {d : Fds}
theorem ok_sure_kept_bough (T : Txt K mg a d) : FnOk P w K mg base CX0 3 a.f_sure_kept_bough d.f_sure_kept_bough ["bough", "yes", "no"] (spTie3B Tie.sk) := by
  have G_has := ok_has (P := P) (w := w) (base := base) T
  have G_count_in := ok_count_in (P := P) (w := w) (base := base) T
  refine T.K_sure_kept_bough.ok sc_sure_kept_bough (fun vs H Q E h => ?_) (fun cdv A outer s H vs Q E hr h => ?_)
  · obtain ⟨u, lo, hi, ks, m, y, n, v, rfl, _⟩ := h
    rfl
  obtain ⟨u, lo, hi, ks, m, y, n, v, rfl, hd, ok, hm, q⟩ := h
  obtain ⟨p, pk, rfl, hp, hpk⟩ := at_bough hd
  have few := ok.few
  have rest4 : ∃ t, PSs (cxOf CX0 P w K mg base ["bough", "yes", "no", "least", "greatest", "all_with_up", "all_without_up"] "sure_kept_bough" (defScope s_sure_kept_bough) a.f_sure_kept_bough cdv A outer s H E).nox ((defBody s_sure_kept_bough).drop 4) t ∧ ∀ (v3 v4 : Option V) (b5 b6 : Bool) (H1 : Hp), Same H H1 → (b5 && b6) = (Tie.bough u lo hi ks).sk y n → t { nx := fun _ H' => Q .non H', rt := Q } [some (.ref p), some (.int y), some (.int n), v3, v4, some (.bl b5), some (.bl b6)] H1 := by
    refine ⟨_, (pss_one (ps_ret (pe_and (pv 5) (pe_one (pv 6))))), ?_⟩
    intro v3 v4 b5 b6 H1 s1 e
    have q1 := q H1 s1
    rw [← e] at q1
    refine ⟨_, rfl, _, rfl, ?_⟩
    refine ite2 (fun c => ?_) (fun c => ?_)
    · rw [c, Bool.true_and] at q1
      exact ⟨_, rfl, q1⟩
    · rw [Bool.eq_false_iff.mpr c, Bool.false_and] at q1
      exact q1
  obtain ⟨t4, h4, r4⟩ := rest4
  have rest3 : ∃ t, PSs (cxOf CX0 P w K mg base ["bough", "yes", "no", "least", "greatest", "all_with_up", "all_without_up"] "sure_kept_bough" (defScope s_sure_kept_bough) a.f_sure_kept_bough cdv A outer s H E).nox ((defBody s_sure_kept_bough).drop 3) t ∧ ∀ (g : Int) (b5 : Bool) (H1 : Hp), Same H H1 → g = (ks.length : Int) - cnt ks n → b5 = (n.testBit u || (decide (lo ≤ (cnt ks y : Int)) && decide (g ≤ hi))) → t { nx := fun _ H' => Q .non H', rt := Q } [some (.ref p), some (.int y), some (.int n), some (.int (cnt ks y : Nat)), some (.int g), some (.bl b5), none] H1 := by
    refine ⟨_, (pss_cons (ps_set (i := 6) sc_sure_kept_bough.nd rfl (Or.inl rfl) (pe_or (pe_callD G_has hr.lv rfl T.K_has (pa_cons (pv 1) (pa_cons (pe_ix (ixT (K := K)) (pv 0) pe_int (fun _ _ => rfl)) pa_nil))) (pe_one (pe_cmpR op_eq (pv 4) pe_int (nomark _)))))
      h4), ?_⟩
    intro g b5 H1 s1 eg e5
    have hp1 := s1 _ _ hp
    refine ⟨_, rfl, _, rfl, p, _, _, _, rfl, rfl, sqT hp1, at0, _, _, rfl, _, rfl, ?_⟩
    rw [hasV_nat]
    refine ite2 (fun c => ?_) (fun c => ?_)
    · refine r4 _ _ _ _ _ s1 ?_
      rw [e5, eg]
      show _ = ((n.testBit u || (decide (lo ≤ (cnt ks y : Int)) && decide ((ks.length : Int) - cnt ks n ≤ hi))) && (y.testBit u || decide ((ks.length : Int) - cnt ks n = 0)))
      rw [c, Bool.true_or]
    · refine ⟨_, rfl, rfl, ?_⟩
      refine r4 _ _ _ _ _ s1 ?_
      rw [e5, dec_int0, eg]
      show _ = ((n.testBit u || (decide (lo ≤ (cnt ks y : Int)) && decide ((ks.length : Int) - cnt ks n ≤ hi))) && (y.testBit u || decide ((ks.length : Int) - cnt ks n = 0)))
      rw [Bool.eq_false_iff.mpr c, Bool.false_or]
  obtain ⟨t3, h3, r3⟩ := rest3
  have rest2 : ∃ t, PSs (cxOf CX0 P w K mg base ["bough", "yes", "no", "least", "greatest", "all_with_up", "all_without_up"] "sure_kept_bough" (defScope s_sure_kept_bough) a.f_sure_kept_bough cdv A outer s H E).nox ((defBody s_sure_kept_bough).drop 2) t ∧ ∀ (g : Int) (H1 : Hp), Same H H1 → g = (ks.length : Int) - cnt ks n → t { nx := fun _ H' => Q .non H', rt := Q } [some (.ref p), some (.int y), some (.int n), some (.int (cnt ks y : Nat)), some (.int g), none, none] H1 := by
    refine ⟨_, (pss_cons (ps_set (i := 5) sc_sure_kept_bough.nd rfl (Or.inl rfl) (pe_or (pe_callD G_has hr.lv rfl T.K_has (pa_cons (pv 2) (pa_cons (pe_ix (ixT (K := K)) (pv 0) pe_int (fun _ _ => rfl)) pa_nil))) (pe_one (pe_and (pe_cmpR op_le (pe_ix (ixT (K := K)) (pv 0) pe_int (fun _ _ => rfl)) (pv 3) (nomark _)) (pe_one (pe_cmpR op_le (pv 4) (pe_ix (ixT (K := K)) (pv 0) pe_int (fun _ _ => rfl)) (nomark _)))))))
      h3), ?_⟩
    intro g H1 s1 eg
    have hp1 := s1 _ _ hp
    refine ⟨_, rfl, _, rfl, p, _, _, _, rfl, rfl, sqT hp1, at0, _, _, rfl, _, rfl, ?_⟩
    rw [hasV_nat]
    refine ite2 (fun c => ?_) (fun c => ?_)
    · exact r3 _ _ _ s1 eg (by rw [c, Bool.true_or])
    · refine ⟨_, rfl, p, _, _, _, rfl, rfl, sqT hp1, at1, _, rfl, _, _, rfl, rfl, _, rfl, ?_⟩
      refine ite2 (fun c2 => ?_) (fun c2 => ?_)
      · refine ⟨_, rfl, _, rfl, p, _, _, _, rfl, rfl, sqT hp1, at2, _, _, rfl, rfl, ?_⟩
        exact r3 _ _ _ s1 eg (by rw [Bool.eq_false_iff.mpr c, Bool.false_or, c2, Bool.true_and])
      · exact r3 _ _ _ s1 eg (by rw [Bool.eq_false_iff.mpr c, Bool.false_or, Bool.eq_false_iff.mpr c2, Bool.false_and])
  obtain ⟨t2, h2, r2⟩ := rest2
  refine ⟨_, (pss_cons (ps_set (i := 3) sc_sure_kept_bough.nd rfl (Or.inl rfl) (pe_callD G_count_in hr.lv rfl T.K_count_in (pa_cons (pe_ix (ixT (K := K)) (pv 0) pe_int (fun _ _ => rfl)) (pa_cons (pv 1) pa_nil))))
      (pss_cons (ps_set (i := 4) sc_sure_kept_bough.nd rfl (Or.inl rfl) (pe_op op_sub (pe_callB (lenS (K := K)) rfl T.m_len PySem.boot_len (pa_cons (pe_ix (ixT (K := K)) (pv 0) pe_int (fun _ _ => rfl)) pa_nil)) (pe_callD G_count_in hr.lv rfl T.K_count_in (pa_cons (pe_ix (ixT (K := K)) (pv 0) pe_int (fun _ _ => rfl)) (pa_cons (pv 2) pa_nil)))))
      h2)), ?_⟩
  refine ⟨_, rfl, p, _, _, _, rfl, rfl, sqT hp, at3, _, rfl, pk, ks, y, rfl, hpk, by omega, fun H1 s1 => ?_⟩
  have hp1 := s1 _ _ hp
  have hpk1 := s1 _ _ hpk
  refine ⟨_, rfl, p, _, _, _, rfl, rfl, sqT hp1, at3, pk, _, rfl, .inr (sqT hpk1), ?_⟩
  refine ⟨_, rfl, p, _, _, _, rfl, rfl, sqT hp1, at3, _, rfl, pk, ks, n, rfl, hpk1, by omega, fun H2 s2 => ?_⟩
  refine ⟨_, _, rfl, rfl, ?_⟩
  exact r2 _ _ (s1.trans s2) (by rw [List.length_map])

end
section
variable {P : Program} {w : World} {K : PySem.W.Frag} {mg : Str → Option Value} {base : Heap} {a : Adr} {d : Fds}
theorem ok_greatest_sum (T : Txt K mg a d) : FnOk P w K mg base CX0 2 a.f_greatest_sum d.f_greatest_sum ["pairs", "yes", "no"] (spSum greatSum) := by
  have G_has := ok_has (P := P) (w := w) (base := base) T
  refine T.K_greatest_sum.ok sc_greatest_sum (fun vs H Q E h => ?_) (fun cdv A outer s H vs Q E hr h => ?_)
  · obtain ⟨pq, xs, ps, y, n, rfl, _⟩ := h
    rfl
  obtain ⟨pq, xs, ps, y, n, rfl, hq, hps, few, q⟩ := h
  have lx : xs.length = ps.length := by rw [← hps.length, List.length_map]
  refine ⟨_, (pss_one (ps_ret (pe_callB (call_sum_ints rfl) rfl T.m_sum PyProof.Rows.boot_sum (pa_cons (pe_lc (sc0 := defScope s_greatest_sum) (XN := ["pairs", "yes", "no"]) (N' := ["k", "number", "yes", "no"]) (n := 2) (kp := [1, 2]) rfl (piT (K := K) (pv 0)) rfl rfl (by decide +kernel) (fun _ _ _ _ _ => (pgT (K := K) (n := 2) rfl (pgs_cons (pg_name (i := 0) (by show List.Nodup (["k", "number", "yes", "no"] : List Str); decide +kernel) rfl (Or.inl rfl)) (pgs_cons (pg_name (i := 1) (by show List.Nodup (["k", "number", "yes", "no"] : List Str); decide +kernel) rfl (Or.inl rfl)) pgs_nil)))) (fun _ _ _ _ _ => (pts_one (PW.pt (pw_or (pt_val (pe_callD G_has hr.lv rfl T.K_has (pa_cons (pv 2) (pa_cons (pv 0) pa_nil)))) (pw_or1 (PW.pt (pw_and (pt_cmpR op_gt (pv 1) pe_int (nomark _)) (pw_and1 (pt_not (pt_val (pe_callD G_has hr.lv rfl T.K_has (pa_cons (pv 3) (pa_cons (pv 0) pa_nil))))))))))))) (fun _ _ _ _ _ => (pv 1))) pa_nil)))), ?_⟩
  refine ⟨_, rfl, pq, rfl, ⟨_, sqT hq⟩, ?_⟩
  refine lc_tup (K := K) (a := pq) (xs := xs) (fun i ys σ H2 => (∃ v v', σ = [v, v', some (.int y), some (.int n)]) ∧ H2 = H ∧ i ≤ ps.length ∧ ys = (((ps.take i).filter fun p => y.testBit p.1 || (decide (0 < p.2) && !n.testBit p.1)).map (·.2)).map V.int) ⟨⟨none, none, rfl⟩, rfl, Nat.zero_le _, rfl⟩ (fun i ys σ H2 hi pv => ?_) (fun i ys σ H2 hi pv => ?_) (fun i x ys σ H2 hx pv => ?_) (fun ys σ H2 pv l hl => ?_)
  · obtain ⟨_, _, h1, rfl⟩ := pv
    rw [List.length_map, List.length_map]
    refine small (Nat.le_trans (List.length_filter_le _ _) ?_)
    rw [List.length_take]
    omega
  · rw [pv.2.1]
    exact sqT hq
  · obtain ⟨⟨v, v', rfl⟩, rfl, h1, rfl⟩ := pv
    obtain ⟨pr, r, hpr, rfl, hr'⟩ := at_pair hps hx
    have hj : i < ps.length := (List.getElem?_eq_some_iff.mp hpr).1
    have ee := PySem.take_succ_filter (fun p : Nat × Int => y.testBit p.1 || (decide (0 < p.2) && !n.testBit p.1)) ps i pr hpr
    have yes : (y.testBit pr.1 || (decide (0 < pr.2) && !n.testBit pr.1)) = true → ((((ps.take i).filter fun p => y.testBit p.1 || (decide (0 < p.2) && !n.testBit p.1)).map (·.2)).map V.int) ++ [V.int pr.2] = (((ps.take (i + 1)).filter fun p => y.testBit p.1 || (decide (0 < p.2) && !n.testBit p.1)).map (·.2)).map V.int := fun c => by
      rw [ee, if_pos c, List.map_append, List.map_append]
      rfl
    have noo : (y.testBit pr.1 || (decide (0 < pr.2) && !n.testBit pr.1)) = false → ((((ps.take i).filter fun p => y.testBit p.1 || (decide (0 < p.2) && !n.testBit p.1)).map (·.2)).map V.int) = (((ps.take (i + 1)).filter fun p => y.testBit p.1 || (decide (0 < p.2) && !n.testBit p.1)).map (·.2)).map V.int := fun c => by
      rw [ee, if_neg (by rw [c]; exact Bool.false_ne_true), List.append_nil]
    refine ⟨r, _, rfl, sqT hr', rfl, _, _, rfl, _, _, rfl, rfl, ?_⟩
    refine ⟨_, rfl, _, rfl, _, _, rfl, _, rfl, ?_⟩
    rw [hasV_nat]
    refine ite2 (fun c => ?_) (fun c => ?_)
    · refine iteT ?_
      exact ⟨_, rfl, ⟨_, _, rfl⟩, rfl, hj, yes (by rw [c, Bool.true_or])⟩
    · have c' := Bool.eq_false_iff.mpr c
      refine ⟨_, rfl, _, _, rfl, rfl, _, rfl, ?_⟩
      refine ite2 (fun c2 => ?_) (fun c2 => ?_)
      · refine ⟨_, rfl, _, rfl, _, _, rfl, _, rfl, ?_⟩
        rw [hasV_nat]
        refine ite2 (fun c3 => ?_) (fun c3 => ?_)
        · exact ⟨_, rfl, ⟨_, _, rfl⟩, rfl, hj, yes (by rw [c', Bool.false_or, c2, Bool.true_and, c3])⟩
        · exact ⟨⟨_, _, rfl⟩, rfl, hj, noo (by rw [c', Bool.false_or, c2, Bool.true_and, Bool.eq_false_iff.mpr c3])⟩
      · refine iteF ?_
        exact ⟨⟨_, _, rfl⟩, rfl, hj, noo (by rw [c', Bool.false_or, Bool.eq_false_iff.mpr c2, Bool.false_and])⟩
  · obtain ⟨_, rfl, _, rfl⟩ := pv
    refine ⟨l, _, rfl, SqL.of upd_same, ?_⟩
    have q1 := q _ (same_new hl (.lst ((((ps.take xs.length).filter fun p => y.testBit p.1 || (decide (0 < p.2) && !n.testBit p.1)).map (·.2)).map V.int)))
    have e : greatSum ps y n = (((ps.take xs.length).filter fun p => y.testBit p.1 || (decide (0 < p.2) && !n.testBit p.1)).map (·.2)).sum := by
      rw [lx, List.take_length]
      rfl
    rw [e] at q1
    exact q1

end
section
variable {P : Program} {w : World} {K : PySem.W.Frag} {mg : Str → Option Value} {base : Heap} {a : Adr} {d : Fds}
theorem ok_sure_kept (T : Txt K mg a d) : FnOk P w K mg base CX0 4 a.f_sure_kept d.f_sure_kept ["tie", "yes", "no"] (spTie3 Tie.sk) := by
  have G_has := ok_has (P := P) (w := w) (base := base) T
  have G_greatest_sum := ok_greatest_sum (P := P) (w := w) (base := base) T
  have G_sure_kept_bough := ok_sure_kept_bough (P := P) (w := w) (base := base) T
  refine T.K_sure_kept.ok sc_sure_kept (fun vs H Q E h => ?_) (fun cdv A outer s H vs Q E hr h => ?_)
  · obtain ⟨t, m, y, n, v, rfl, _⟩ := h
    rfl
  obtain ⟨t, m, y, n, v, rfl, hd, ok, hm, q⟩ := h
  have q0 := q H (Same.refl H)
  refine ⟨_, (pss_cons (ps_if (pt_cmpR op_eq (pe_ix (ixT (K := K)) (pv 0) pe_int (fun _ _ => rfl)) pe_str (nomark _)) (pss_one (ps_ret (pe_or (pe_callD G_has hr.lv rfl T.K_has (pa_cons (pv 2) (pa_cons (pe_ix (ixT (K := K)) (pv 0) pe_int (fun _ _ => rfl)) pa_nil))) (pe_one (pe_callD G_has hr.lv rfl T.K_has (pa_cons (pv 1) (pa_cons (pe_ix (ixT (K := K)) (pv 0) pe_int (fun _ _ => rfl)) pa_nil))))))) pss_nil)
      (pss_cons (ps_if (pt_cmpR op_eq (pe_ix (ixT (K := K)) (pv 0) pe_int (fun _ _ => rfl)) pe_str (nomark _)) (pss_one (ps_ret (pe_or (pe_callD G_has hr.lv rfl T.K_has (pa_cons (pv 2) (pa_cons (pe_ix (ixT (K := K)) (pv 0) pe_int (fun _ _ => rfl)) pa_nil))) (pe_one (pe_callD G_has hr.lv rfl T.K_has (pa_cons (pv 2) (pa_cons (pe_ix (ixT (K := K)) (pv 0) pe_int (fun _ _ => rfl)) pa_nil))))))) pss_nil)
      (pss_cons (ps_if (pt_cmpR op_eq (pe_ix (ixT (K := K)) (pv 0) pe_int (fun _ _ => rfl)) pe_str (nomark _)) (pss_one (ps_ret (pe_cmpR op_le (pe_callD G_greatest_sum hr.lv rfl T.K_greatest_sum (pa_cons (pe_ix (ixT (K := K)) (pv 0) pe_int (fun _ _ => rfl)) (pa_cons (pv 1) (pa_cons (pv 2) pa_nil)))) (pe_ix (ixT (K := K)) (pv 0) pe_int (fun _ _ => rfl)) (nomark _)))) pss_nil)
      (pss_one (ps_ret (pe_callD G_sure_kept_bough hr.lv rfl T.K_sure_kept_bough (pa_cons (pv 0) (pa_cons (pv 1) (pa_cons (pv 2) pa_nil))))))))), ?_⟩
  cases t with
  | needs x z =>
    obtain ⟨p, rfl, hp⟩ := at_word hd
    refine ⟨_, rfl, p, _, _, _, rfl, rfl, sqT hp, at0, rfl, _, rfl, ?_⟩
    refine iteD rfl ?_
    refine ⟨_, rfl, _, rfl, p, _, _, _, rfl, rfl, sqT hp, at1, _, _, rfl, _, rfl, ?_⟩
    rw [hasV_nat]
    have q1 : Q (.bl (n.testBit x || y.testBit z)) H := q0
    refine ite2 (fun c => ?_) (fun c => ?_)
    · rw [c, Bool.true_or] at q1
      exact q1
    · rw [Bool.eq_false_iff.mpr c, Bool.false_or] at q1
      refine ⟨_, rfl, _, rfl, p, _, _, _, rfl, rfl, sqT hp, at2, _, _, rfl, ?_⟩
      rw [hasV_nat]
      exact q1
  | bans x z =>
    obtain ⟨p, rfl, hp⟩ := at_word hd
    refine ⟨_, rfl, p, _, _, _, rfl, rfl, sqT hp, at0, rfl, _, rfl, ?_⟩
    refine iteDN bans_needs ?_
    refine ⟨_, rfl, p, _, _, _, rfl, rfl, sqT hp, at0, rfl, _, rfl, ?_⟩
    refine iteD rfl ?_
    refine ⟨_, rfl, _, rfl, p, _, _, _, rfl, rfl, sqT hp, at1, _, _, rfl, _, rfl, ?_⟩
    rw [hasV_nat]
    have q1 : Q (.bl (n.testBit x || n.testBit z)) H := q0
    refine ite2 (fun c => ?_) (fun c => ?_)
    · rw [c, Bool.true_or] at q1
      exact q1
    · rw [Bool.eq_false_iff.mpr c, Bool.false_or] at q1
      refine ⟨_, rfl, _, rfl, p, _, _, _, rfl, rfl, sqT hp, at2, _, _, rfl, ?_⟩
      rw [hasV_nat]
      exact q1
  | most top ps =>
    obtain ⟨p, pq, xs, rfl, hp, hq, hps⟩ := at_most hd
    have few : ps.length ≤ m := ok.2.2.2
    refine ⟨_, rfl, p, _, _, _, rfl, rfl, sqT hp, at0, rfl, _, rfl, ?_⟩
    refine iteDN most_needs ?_
    refine ⟨_, rfl, p, _, _, _, rfl, rfl, sqT hp, at0, rfl, _, rfl, ?_⟩
    refine iteDN most_bans ?_
    refine ⟨_, rfl, p, _, _, _, rfl, rfl, sqT hp, at0, rfl, _, rfl, ?_⟩
    refine iteD rfl ?_
    refine ⟨_, rfl, p, _, _, _, rfl, rfl, sqT hp, at2, _, rfl, _, rfl, pq, xs, ps, y, n, rfl, hq, hps, by omega, fun H1 s1 => ?_⟩
    exact ⟨_, rfl, p, _, _, _, rfl, rfl, sqT (s1 _ _ hp), at1, _, _, rfl, rfl, q H1 s1⟩
  | bough u lo hi ks =>
    obtain ⟨p, pk, e, hp, hpk⟩ := at_bough hd
    subst e
    refine ⟨_, rfl, p, _, _, _, rfl, rfl, sqT hp, at0, rfl, _, rfl, ?_⟩
    refine iteDN int_str ?_
    refine ⟨_, rfl, p, _, _, _, rfl, rfl, sqT hp, at0, rfl, _, rfl, ?_⟩
    refine iteDN int_str ?_
    refine ⟨_, rfl, p, _, _, _, rfl, rfl, sqT hp, at0, rfl, _, rfl, ?_⟩
    refine iteDN int_str ?_
    exact ⟨_, rfl, _, rfl, _, rfl, u, lo, hi, ks, m, y, n, _, rfl, hd, ok, hm, q⟩

end
section
variable {P : Program} {w : World} {K : PySem.W.Frag} {mg : Str → Option Value} {base : Heap} {a : Adr} {d : Fds}
theorem ok_law_cell_at (T : Txt K mg a d) : FnOk P w K mg base CX0 1 a.f_law_cell_at d.f_law_cell_at ["_law_script", "_law_k"] (spCell K) := by
  refine T.K_law_cell_at.ok sc_law_cell_at (fun vs H Q E h => ?_) (fun cdv A outer s H vs Q E hr h => ?_)
  · obtain ⟨p, ns, k, rfl, _⟩ := h
    rfl
  obtain ⟨p, ns, k, rfl, hS, hl, k0, k1, q⟩ := h
  have el : (ns.map V.int).length = ns.length := List.length_map _
  have item : ∀ j : Int, 0 ≤ j → j < ns.length → ∃ v : Int, atI (ns.map V.int) j = some (.int v) := fun j j0 j1 => by
    obtain ⟨m, rfl⟩ : ∃ m : Nat, j = (m : Int) := ⟨j.toNat, by omega⟩
    have hj : m < ns.length := by omega
    refine ⟨ns[m], atI_nat ?_⟩
    rw [List.getElem?_map, List.getElem?_eq_getElem hj]
    rfl
  refine ⟨_, (pss_cons (ps_if (pt_cmpR op_lt (pv 1) (pe_callB (lenS (K := K)) rfl T.m_len PySem.boot_len (pa_cons (pv 0) pa_nil)) (nomark _)) (pss_one (ps_ret (pe_op op_mod (pe_ix (ixL (K := K)) (pv 0) (pv 1) (fun _ _ => rfl)) pe_int))) pss_nil)
      (pss_cons (ps_set (i := 2) sc_law_cell_at.nd rfl (Or.inl rfl) (pe_op op_add (pe_op op_mul (pe_op op_mul (pv 1) (pv 1)) pe_int) pe_int))
      (pss_cons (ps_if (pt_cmpR op_gt (pe_callB (lenS (K := K)) rfl T.m_len PySem.boot_len (pa_cons (pv 0) pa_nil)) pe_int (nomark _)) (pss_one (ps_set (i := 2) sc_law_cell_at.nd rfl (Or.inl rfl) (pe_op op_add (pv 2) (pe_op op_mul (pe_op op_mod (pe_ix (ixL (K := K)) (pv 0) (pe_op op_mod (pv 1) (pe_callB (lenS (K := K)) rfl T.m_len PySem.boot_len (pa_cons (pv 0) pa_nil))) (fun _ _ => rfl)) pe_int) pe_int)))) pss_nil)
      (pss_one (ps_ret (pe_op op_mod (pe_op op_mul (pv 2) (pv 2)) pe_int)))))), ?_⟩
  refine ⟨_, rfl, _, rfl, p, _, rfl, .inl hS, _, _, rfl, rfl, _, rfl, ?_⟩
  refine ite2 (fun c => ?_) (fun c => ?_)
  · have c' : k < ((ns.map V.int).length : Nat) := of_decide_eq_true c
    rw [el] at c'
    obtain ⟨v, hv⟩ := item k k0 c'
    refine ⟨_, rfl, _, rfl, p, _, _, _, rfl, rfl, hS, hv, _, _, rfl, rfl, (by show (0 : Int) < 2147483629; decide), ?_⟩
    exact q _ (Int.emod_nonneg _ (by decide)) (Int.emod_lt_of_pos _ (by decide))
  · have kk : 0 ≤ k * k ∧ k * k ≤ 1000000 := by
      constructor
      · exact Int.mul_nonneg k0 k0
      · have h1 : k * k ≤ 1000 * k := Int.mul_le_mul_of_nonneg_right (by omega) k0
        omega
    refine ⟨_, rfl, _, rfl, _, _, rfl, rfl, (by unfold CMul; omega), _, _, rfl, rfl, (by unfold CMul; omega), _, _, rfl, rfl, ?_⟩
    have fin : ∀ x : Int, -(2 ^ 64) < x → x < 2 ^ 64 → Q (.int (x * x % 2147483629)) H := fun x _ _ => q _ (Int.emod_nonneg _ (by decide)) (Int.emod_lt_of_pos _ (by decide))
    refine ⟨_, rfl, p, _, rfl, .inl hS, _, _, rfl, rfl, _, rfl, ?_⟩
    refine ite2 (fun c2 => ?_) (fun c2 => ?_)
    · have c2' : (0 : Int) < ((ns.map V.int).length : Nat) := of_decide_eq_true c2
      rw [el] at c2'
      have m0 : 0 ≤ k % (ns.length : Int) := Int.emod_nonneg _ (by omega)
      have m1 : k % (ns.length : Int) < ns.length := Int.emod_lt_of_pos _ c2'
      obtain ⟨v, hv⟩ := item _ m0 m1
      have v0 : 0 ≤ v % 2147483629 := Int.emod_nonneg _ (by decide)
      have v1 : v % 2147483629 < 2147483629 := Int.emod_lt_of_pos _ (by decide)
      refine ⟨_, rfl, _, rfl, _, rfl, _, rfl, p, _, rfl, .inl hS, _, _, rfl, rfl, (by rw [el]; exact c2'), p, _, _, _, rfl, rfl, hS, (by rw [el]; exact hv), _, _, rfl, rfl, (by show (0 : Int) < 2147483629; decide), _, _, rfl, rfl, (by unfold CMul; omega), _, _, rfl, rfl, ?_⟩
      refine ⟨_, rfl, _, rfl, _, _, rfl, rfl, (by unfold CMul; omega), _, _, rfl, rfl, (by show (0 : Int) < 2147483629; decide), ?_⟩
      exact fin _ (by omega) (by omega)
    · refine ⟨_, rfl, _, rfl, _, _, rfl, rfl, (by unfold CMul; omega), _, _, rfl, rfl, (by show (0 : Int) < 2147483629; decide), ?_⟩
      exact fin _ (by omega) (by omega)

end
section
variable {P : Program} {w : World} {K : PySem.W.Frag} {mg : Str → Option Value} {base : Heap} {a : Adr} {d : Fds}
theorem SameX.freshB {pen : Addr} {H H1 H' : Hp} {ys : List V} (s0 : Same H H1) (n : H pen = none) (hp : H1 pen = some (.lst ys)) (s : SameX pen H1 H') : Same H H' := fun b o h => by
  have ne : b ≠ pen := ne_of_none h n
  have z := s0 b o h
  cases o
  case tbl ps =>
    obtain ⟨⟨qs, hq⟩, k⟩ := z
    have y := s b _ ne hq
    exact ⟨y.1, fun t => (y.2 (k t) ⟨_, hp⟩).1⟩
  all_goals exact s b _ ne z
theorem ok_law_boughs (T : Txt K mg a d) : FnOk P w K mg base CX0 2 a.f_law_boughs d.f_law_boughs ["_law_script", "_law_many_here"] (spBoughs K) := by
  have G_law_cell_at := ok_law_cell_at (P := P) (w := w) (base := base) T
  refine T.K_law_boughs.ok sc_law_boughs (fun vs H Q E h => ?_) (fun cdv A outer s H vs Q E hr h => ?_)
  · obtain ⟨p, ns, many, rfl, _⟩ := h
    rfl
  obtain ⟨sp, ns, many, rfl, hS, hl, m1, m9, q⟩ := h
  have p62 : (2 : Int) ^ 62 = 4611686018427387904 := by decide
  refine ⟨_, (pss_cons (ps_set (i := 2) sc_law_boughs.nd rfl (Or.inl rfl) (pe_lst pa_nil))
      (pss_cons (ps_for PassesOwn.never rfl (pi_range2 rfl T.m_range (pa_cons pe_int (pa_cons (pv 1) pa_nil))) (pg_name (i := 3) sc_law_boughs.nd rfl (Or.inl rfl)) (pss_cons (ps_set (i := 4) sc_law_boughs.nd rfl (Or.inl rfl) (pe_callD G_law_cell_at hr.lv rfl T.K_law_cell_at (pa_cons (pv 0) (pa_cons (pe_op op_add pe_int (pv 3)) pa_nil))))
      (pss_cons (ps_set (i := 5) sc_law_boughs.nd rfl (Or.inr rfl) (pe_op op_mod (pv 4) (pv 3)))
      (pss_cons (ps_setLc (i := 6) sc_law_boughs.nd rfl rfl rfl (sc0 := defScope s_law_boughs) (XN := ["_law_script", "_law_many_here", "_law_groups", "_law_k", "_law_cell", "_law_up", "_law_there", "_law_turn", "_law_boughs_here", "_law_kids", "_law_high"]) (N' := ["_law_group", "_law_up"]) (n := 1) (kp := [5]) rfl (piL (K := K) (pv 2)) rfl rfl (by decide +kernel) (fun _ _ _ _ _ => (pg_name (i := 0) (by show List.Nodup (["_law_group", "_law_up"] : List Str); decide +kernel) rfl (Or.inl rfl))) (fun _ _ _ _ _ => (pts_one (pt_cmpR op_eq (pe_ix (ixT (K := K)) (pv 0) pe_int (fun _ _ => rfl)) (pv 1) (nomark _)))) (fun _ _ _ _ _ => (pv 0)))
      (pss_one (ps_if (PW.pt (pw_and (pt_cmpR op_gt (pe_callB (lenS (K := K)) rfl T.m_len PySem.boot_len (pa_cons (pv 6) pa_nil)) pe_int (nomark _)) (pw_and1 (pt_cmpR op_gt (pe_op op_mod (pe_op op_fdiv (pv 4) pe_int) pe_int) pe_int (nomark _))))) (pss_one (ps_expr (pe_bmK (K := K) PySem.F.plainAttrs_list PySem.F.slot_list_append PySem.F.type_list_append mt_append (pe_ix (ixT (K := K)) (pe_ix (ixL (K := K)) (pv 6) (pe_op op_mod (pe_op op_fdiv (pv 4) pe_int) (pe_callB (lenS (K := K)) rfl T.m_len PySem.boot_len (pa_cons (pv 6) pa_nil))) (fun _ _ => rfl)) pe_int (fun _ _ => rfl)) (pa_cons (pv 3) pa_nil)))) (pss_one (ps_expr (pe_bmK (K := K) PySem.F.plainAttrs_list PySem.F.slot_list_append PySem.F.type_list_append mt_append (pv 2) (pa_cons (pe_tup (pa_cons (pv 5) (pa_cons (pe_lst (pa_cons (pv 3) pa_nil)) pa_nil))) pa_nil))))))))))
      (pss_cons (ps_set (i := 7) sc_law_boughs.nd rfl (Or.inl rfl) (pe_op op_mod (pe_callD G_law_cell_at hr.lv rfl T.K_law_cell_at (pa_cons (pv 0) (pa_cons pe_int pa_nil))) (pe_op op_add (pe_callB (lenS (K := K)) rfl T.m_len PySem.boot_len (pa_cons (pv 2) pa_nil)) pe_int)))
      (pss_cons (ps_set (i := 8) sc_law_boughs.nd rfl (Or.inl rfl) (pe_lst pa_nil))
      (pss_cons (ps_for PassesOwn.never rfl (piL (K := K) (pe_op op_cat (pe_slice sl_list (pv 2) (po_some (pv 7)) po_none) (pe_slice sl_list (pv 2) po_none (po_some (pv 7))))) (pgT (K := K) (n := 2) rfl (pgs_cons (pg_name (i := 5) sc_law_boughs.nd rfl (Or.inr rfl)) (pgs_cons (pg_name (i := 9) sc_law_boughs.nd rfl (Or.inl rfl)) pgs_nil))) (pss_cons (ps_set (i := 4) sc_law_boughs.nd rfl (Or.inl rfl) (pe_callD G_law_cell_at hr.lv rfl T.K_law_cell_at (pa_cons (pv 0) (pa_cons (pe_op op_add pe_int (pe_ix (ixL (K := K)) (pv 9) pe_int (fun _ _ => rfl))) pa_nil))))
      (pss_cons (ps_set (i := 10) sc_law_boughs.nd rfl (Or.inl rfl) (pe_op op_add pe_int (pe_op op_mod (pv 4) (pe_callB (lenS (K := K)) rfl T.m_len PySem.boot_len (pa_cons (pv 9) pa_nil)))))
      (pss_cons (ps_if (pt_cmpR op_eq (pe_op op_mod (pe_op op_fdiv (pv 4) pe_int) pe_int) pe_int (nomark _)) (pss_one (ps_set (i := 10) sc_law_boughs.nd rfl (Or.inl rfl) (pe_callB (lenS (K := K)) rfl T.m_len PySem.boot_len (pa_cons (pv 9) pa_nil)))) pss_nil)
      (pss_one (ps_expr (pe_bmK (K := K) PySem.F.plainAttrs_list PySem.F.slot_list_append PySem.F.type_list_append mt_append (pv 8) (pa_cons (pe_tup (pa_cons (pv 5) (pa_cons (pe_op op_mod (pe_op op_fdiv (pv 4) pe_int) (pe_op op_add (pv 10) pe_int)) (pa_cons (pv 10) (pa_cons (pe_callTy call_tuple_of rfl T.m_tuple PyProof.Rows.boot_tuple (pa_cons (pv 9) pa_nil)) pa_nil))))) pa_nil))))))))
      (pss_one (ps_ret (pv 8)))))))), ?_⟩
  refine ⟨small (by decide), fun g hg => ?_⟩
  refine ⟨_, rfl, _, _, rfl, ⟨by rw [p62]; omega, by rw [p62]; omega, by rw [p62]; omega, by rw [p62]; omega⟩, ?_⟩
  refine for_range (lo := 1) (n := (many - 1).toNat) (fun i σ H2 => ∃ (v3 v4 v5 v6 : Option V) (gs : List Grp), σ = [some (.ref sp), some (.int many), some (.ref g), v3, v4, v5, v6, none, none, none, none] ∧ Same H H2 ∧ GAt H H2 g gs ∧ GOk ((i : Int) + 1) gs)
    ⟨none, none, none, none, [], rfl, same_new hg _, ⟨upd_same, hg, (fun _ z => nomatch z), (fun _ z => nomatch z), List.nodup_nil⟩, ⟨(fun _ z => nomatch z), List.Perm.refl _⟩⟩ ?_ ?_
  · rintro i σ H2 hi ⟨v3, v4, v5, v6, gs, rfl, sm, GA, GK⟩
    have few := GK.few
    refine ⟨_, rfl, _, rfl, _, _, rfl, rfl, sp, ns, _, rfl, sm.seq hS, hl, by omega, by omega, fun c c0 c1 => ?_⟩
    have u0 : 0 ≤ c % (1 + (i : Int)) := Int.emod_nonneg _ (by omega)
    have u1 : c % (1 + (i : Int)) < 1 + (i : Int) := Int.emod_lt_of_pos _ (by omega)
    refine ⟨_, rfl, _, rfl, _, _, rfl, rfl, (by show (0 : Int) < 1 + (i : Int); omega), ?_⟩
    -- the groups of that up
    refine ⟨_, rfl, g, rfl, ⟨_, SqL.of GA.at_⟩, ?_⟩
    refine lc_list (K := K) (a := g) (xs := gs.map fun x => V.ref x.t) (fun j ys σ H3 => (∃ v, σ = [v, some (.int (c % (1 + (i : Int))))]) ∧ H3 = H2 ∧ j ≤ gs.length ∧ ys = ((gs.take j).filter fun x => decide (x.up = c % (1 + (i : Int)))).map fun x => V.ref x.t) ⟨⟨none, rfl⟩, rfl, Nat.zero_le _, rfl⟩ (fun j ys σ H3 hj pv => ?_) (fun j ys σ H3 hj pv => ?_) (fun j x ys σ H3 hx pv => ?_) (fun ys σ H3 pv th hth => ?_)
    · obtain ⟨_, _, h1, rfl⟩ := pv
      rw [List.length_map]
      refine small (Nat.le_trans (List.length_filter_le _ _) ?_)
      rw [List.length_take]
      omega
    · rw [pv.2.1]
      exact SqL.of GA.at_
    · obtain ⟨⟨v, rfl⟩, rfl, h1, rfl⟩ := pv
      rw [List.getElem?_map] at hx
      obtain ⟨y, hy, rfl⟩ := Option.map_eq_some_iff.mp hx
      have hj : j < gs.length := (List.getElem?_eq_some_iff.mp hy).1
      have ty := GA.tup y (List.mem_of_getElem? hy)
      refine ⟨_, rfl, y.t, _, _, _, rfl, rfl, sqT ty, at0, _, rfl, rfl, _, rfl, ?_⟩
      have ee : (gs.take (j + 1)).filter (fun x => decide (x.up = c % (1 + (i : Int)))) = (gs.take j).filter (fun x => decide (x.up = c % (1 + (i : Int)))) ++ (if decide (y.up = c % (1 + (i : Int))) = true then [y] else []) := PySem.take_succ_filter _ _ _ _ hy
      have eb : decide (V.int y.up = V.int (c % (1 + (i : Int)))) = decide (y.up = c % (1 + (i : Int))) := by
        rw [dec_int]
        by_cases z : y.up = c % (1 + (i : Int))
        · rw [decide_eq_true z]
          simpa using z
        · rw [decide_eq_false z]
          simpa using z
      rw [eb]
      refine ite2 (fun z => ?_) (fun z => ?_)
      · refine ⟨_, rfl, ⟨_, rfl⟩, rfl, hj, ?_⟩
        rw [ee, if_pos z, List.map_append]
        rfl
      · refine ⟨⟨_, rfl⟩, rfl, hj, ?_⟩
        rw [ee, if_neg z, List.append_nil]
    obtain ⟨_, rfl, _, rfl⟩ := pv
    rw [List.length_map, List.take_length] at *
    have smt := same_new hth (.lst ((gs.filter fun x => decide (x.up = c % (1 + (i : Int)))).map fun x => V.ref x.t))
    have GA3 := GA.same smt
    have ei : (((i + 1 : Nat) : Int) + 1) = (i : Int) + 2 := by omega
    have ek : (1 : Int) + (i : Int) = (i : Int) + 1 := by omega
    refine ⟨_, rfl, th, _, rfl, .inl (SqL.of upd_same), _, _, rfl, rfl, _, rfl, ?_⟩
    refine ite2 (fun z1 => ?_) (fun z1 => ?_)
    · refine ⟨_, rfl, _, _, rfl, rfl, ⟨by decide, by decide⟩, _, _, rfl, rfl, (by show (0 : Int) < 3; decide), _, _, rfl, rfl, _, rfl, ?_⟩
      refine ite2 (fun z2 => ?_) (fun z2 => ?_)
      · have len0 : (0 : Int) < (((gs.filter fun x => decide (x.up = c % (1 + (i : Int)))).map fun x => V.ref x.t).length : Nat) := of_decide_eq_true z1
        have r0 : 0 ≤ c / 27 % ((((gs.filter fun x => decide (x.up = c % (1 + (i : Int)))).map fun x => V.ref x.t).length : Nat) : Int) := Int.emod_nonneg _ (by omega)
        have r1 : c / 27 % ((((gs.filter fun x => decide (x.up = c % (1 + (i : Int)))).map fun x => V.ref x.t).length : Nat) : Int) < ((((gs.filter fun x => decide (x.up = c % (1 + (i : Int)))).map fun x => V.ref x.t).length : Nat) : Int) := Int.emod_lt_of_pos _ len0
        obtain ⟨j, ej⟩ : ∃ j : Nat, c / 27 % ((((gs.filter fun x => decide (x.up = c % (1 + (i : Int)))).map fun x => V.ref x.t).length : Nat) : Int) = (j : Int) := ⟨_, (Int.toNat_of_nonneg r0).symm⟩
        have hj : j < (gs.filter fun x => decide (x.up = c % (1 + (i : Int)))).length := by
          rw [ej, List.length_map] at r1
          omega
        obtain ⟨x, hx, hat⟩ := mem_at (f := fun x : Grp => V.ref x.t) hj
        have hxg : x ∈ gs := (List.mem_filter.mp hx).1
        obtain ⟨pre, post, epp⟩ := List.append_of_mem hxg
        have xt := GA3.tup x hxg
        have xl := (GA3.lst x hxg).1
        have xn := (GA3.lst x hxg).2.1
        refine ⟨_, rfl, _, rfl, _, _, rfl, rfl, ⟨by decide, by decide⟩, _, rfl, th, _, rfl, .inl (SqL.of upd_same), _, _, rfl, rfl, len0, th, _, _, _, rfl, rfl, SqL.of upd_same, (by rw [ej]; exact atI_nat hat), x.t, _, _, _, rfl, rfl, sqT xt, at1, .inl ⟨rfl, _, SqL.of xl⟩, _, rfl, x.l, _, _, rfl, rfl, xl, ?_, ?_⟩
        · have e := GK.perm.length_eq
          rw [List.length_map, List.length_range', epp, List.flatMap_append, List.flatMap_cons, List.length_append, List.length_append] at e
          rw [List.length_map]
          exact small1000 (by omega)
        · subst epp
          refine ⟨_, _, _, _, pre ++ ⟨x.t, x.up, x.l, x.kids ++ [1 + (i : Int)]⟩ :: post, rfl, Same.put (sm.trans smt) xn xl, GA3.put, ?_⟩
          · rw [ei, ek]
            exact GK.put
      all_goals skip
      · refine ⟨_, rfl, .inl ⟨rfl, _, SqL.of GA3.at_⟩, _, rfl, _, rfl, small (by show 1 ≤ 1000; decide), fun l hl4 => ⟨small (by show 2 ≤ 1000; decide), fun t ht4 => ?_⟩⟩
        have s4 := (same_new hl4 (.lst [.int (1 + (i : Int))])).trans (same_new ht4 (.tup [.int (c % (1 + (i : Int))), .ref l]))
        refine ⟨g, _, _, rfl, rfl, s4 _ _ GA3.at_, (by rw [List.length_map]; exact small1000 (by omega)), ?_⟩
        refine ⟨_, _, _, _, gs ++ [⟨t, c % (1 + (i : Int)), l, [1 + (i : Int)]⟩], rfl, Same.put ((sm.trans smt).trans s4) hg (s4 _ _ GA3.at_), GA3.add (sm.trans smt) hl4 ht4, ?_⟩
        · rw [ei, ek]
          exact GK.new (by rw [← ek]; exact u0) (by rw [← ek]; exact u1)
    · refine ⟨_, rfl, .inl ⟨rfl, _, SqL.of GA3.at_⟩, _, rfl, _, rfl, small (by show 1 ≤ 1000; decide), fun l hl4 => ⟨small (by show 2 ≤ 1000; decide), fun t ht4 => ?_⟩⟩
      have s4 := (same_new hl4 (.lst [.int (1 + (i : Int))])).trans (same_new ht4 (.tup [.int (c % (1 + (i : Int))), .ref l]))
      refine ⟨g, _, _, rfl, rfl, s4 _ _ GA3.at_, (by rw [List.length_map]; exact small1000 (by omega)), ?_⟩
      refine ⟨_, _, _, _, gs ++ [⟨t, c % (1 + (i : Int)), l, [1 + (i : Int)]⟩], rfl, Same.put ((sm.trans smt).trans s4) hg (s4 _ _ GA3.at_), GA3.add (sm.trans smt) hl4 ht4, ?_⟩
      · rw [ei, ek]
        exact GK.new (by rw [← ek]; exact u0) (by rw [← ek]; exact u1)
  · rintro σ H2 ⟨v3, v4, v5, v6, gs, rfl, sm, GA, GK⟩
    have em : (((many - 1).toNat : Nat) : Int) + 1 = many := by omega
    rw [em] at GK
    have few := GK.few
    refine ⟨_, rfl, sp, ns, _, rfl, sm.seq hS, hl, by omega, by omega, fun c2 c20 c21 => ?_⟩
    refine ⟨_, rfl, g, _, rfl, .inl (SqL.of GA.at_), _, _, rfl, rfl, _, _, rfl, rfl, (by show (0 : Int) < ((gs.map fun x => V.ref x.t).length : Nat) + 1; omega), ?_⟩
    have t0 : 0 ≤ c2 % (((gs.map fun x => V.ref x.t).length : Nat) + 1 : Int) := Int.emod_nonneg _ (by omega)
    have t1 : c2 % (((gs.map fun x => V.ref x.t).length : Nat) + 1 : Int) < ((gs.map fun x => V.ref x.t).length : Nat) + 1 := Int.emod_lt_of_pos _ (by omega)
    obtain ⟨tn, etn⟩ : ∃ tn : Nat, c2 % (((gs.map fun x => V.ref x.t).length : Nat) + 1 : Int) = (tn : Int) := ⟨_, (Int.toNat_of_nonneg t0).symm⟩
    have htn : tn ≤ gs.length := by
      rw [etn, List.length_map] at t1
      omega
    refine ⟨small (by decide), fun bl hbl => ?_⟩
    have smb := same_new hbl (.lst [])
    have GAb := GA.same smb
    refine ⟨_, rfl, _, rfl, _, rfl, g, _, rfl, SqL.of GAb.at_, fun p1 hp1 => ?_⟩
    have sm1 := same_new hp1 (.lst (cutV (gs.map fun x => V.ref x.t) (some (c2 % (((gs.map fun x => V.ref x.t).length : Nat) + 1 : Int))) none))
    refine ⟨_, rfl, _, rfl, _, rfl, g, _, rfl, SqL.of (sm1 _ _ GAb.at_), fun p2 hp2 => ?_⟩
    have sm2 := same_new hp2 (.lst (cutV (gs.map fun x => V.ref x.t) none (some (c2 % (((gs.map fun x => V.ref x.t).length : Nat) + 1 : Int)))))
    have l1 := cutV_length (gs.map fun x => V.ref x.t) (some (c2 % (((gs.map fun x => V.ref x.t).length : Nat) + 1 : Int))) none
    have l2 := cutV_length (gs.map fun x => V.ref x.t) none (some (c2 % (((gs.map fun x => V.ref x.t).length : Nat) + 1 : Int)))
    have lm : (gs.map fun x => V.ref x.t).length = gs.length := List.length_map _
    refine ⟨p1, p2, _, _, rfl, rfl, sm2 _ _ upd_same, upd_same, small (by omega), fun p3 hp3 => ?_⟩
    have rot := cut_rot (fun x : Grp => V.ref x.t) gs tn htn
    rw [← etn] at rot
    have sm3 := same_new hp3 (.lst (cutV (gs.map fun x => V.ref x.t) (some (c2 % (((gs.map fun x => V.ref x.t).length : Nat) + 1 : Int))) none ++ cutV (gs.map fun x => V.ref x.t) none (some (c2 % (((gs.map fun x => V.ref x.t).length : Nat) + 1 : Int)))))
    have smo := (sm1.trans sm2).trans sm3
    have GA5 := GAb.same smo
    have nbl : H bl = none := sm.free hbl
    have rsm : ∀ x ∈ gs.drop tn ++ gs.take tn, x ∈ gs := fun x hx => by
      rcases List.mem_append.mp hx with z | z
      · exact List.mem_of_mem_drop z
      · exact List.mem_of_mem_take z
    have p3n : p3 ≠ bl := fun z => by
      rw [z] at hp3
      rw [(sm1.trans sm2) _ _ upd_same] at hp3
      cases hp3
    generalize hHb : upd (upd (upd (upd H2 bl (.lst [])) p1 (.lst (cutV (gs.map fun x => V.ref x.t) (some (c2 % (((gs.map fun x => V.ref x.t).length : Nat) + 1 : Int))) none))) p2 (.lst (cutV (gs.map fun x => V.ref x.t) none (some (c2 % (((gs.map fun x => V.ref x.t).length : Nat) + 1 : Int)))))) p3 (.lst (cutV (gs.map fun x => V.ref x.t) (some (c2 % (((gs.map fun x => V.ref x.t).length : Nat) + 1 : Int))) none ++ cutV (gs.map fun x => V.ref x.t) none (some (c2 % (((gs.map fun x => V.ref x.t).length : Nat) + 1 : Int))))) = Hb at *
    have e3 : Hb p3 = some (.lst ((gs.drop tn ++ gs.take tn).map fun x => V.ref x.t)) := by
      rw [← hHb, upd_same, rot]
    have ebl : Hb bl = some (.lst []) := smo _ _ upd_same
    have toHb : Same H Hb := (sm.trans smb).trans smo
    refine ⟨p3, rfl, ⟨_, SqL.of e3⟩, ?_⟩
    refine for_list (K := K) (a := p3) (xs := (gs.drop tn ++ gs.take tn).map fun x => V.ref x.t) (fun i σ H3 => ∃ (w3 w4 w5 w9 w10 : Option V) (bs : List PyData) (xs : List V), σ = [some (.ref sp), some (.int many), some (.ref g), w3, w4, w5, v6, some (.int (c2 % (((gs.map fun x => V.ref x.t).length : Nat) + 1 : Int))), some (.ref bl), w9, w10] ∧
      SameX bl Hb H3 ∧ H3 bl = some (.lst xs) ∧ DnL H3 bs xs ∧ bs.length = i ∧ (∀ b ∈ bs, isBough many b = true) ∧ bs.flatMap kidsOf = ((gs.drop tn ++ gs.take tn).take i).flatMap (·.kids) ∧ bs.all (flatD 3) = true)
      ⟨v3, v4, v5, none, none, [], [], rfl, SameX.refl bl Hb, ebl, rfl, rfl, (fun _ z => nomatch z), rfl, rfl⟩ (fun i σ H3 _ z => ?_) ?_ ?_
    · obtain ⟨_, _, _, _, _, _, _, _, sb, _⟩ := z
      exact SqL.of (sb _ _ p3n e3)
    · rintro i y σ H3 hy ⟨w3, w4, w5, w9, w10, bs, xs, rfl, sb3, hb3, dn3, bl3, ok3, ki3, fl3⟩
      rw [List.getElem?_map] at hy
      obtain ⟨x, hx, rfl⟩ := Option.map_eq_some_iff.mp hy
      have hxg : x ∈ gs := rsm x (List.mem_of_getElem? hx)
      have gx := GK.each x hxg
      have xt := GA5.tup x hxg
      have xl := (GA5.lst x hxg).1
      have xt3 : H3 x.t = some (.tup [.int x.up, .ref x.l]) := sb3 _ _ (ne_of xt ebl (by intro z; cases z)) xt
      have xlb : x.l ≠ bl := by
        have z := (GA.lst x hxg).1
        exact ne_of_none z hbl
      have xl3 : H3 x.l = some (.lst (x.kids.map V.int)) := sb3 _ _ xlb xl
      have hil : i < gs.length := by
        have := (List.getElem?_eq_some_iff.mp hx).1
        rw [List.length_append, List.length_drop, List.length_take] at this
        omega
      have sp3 : SqL K H3 sp (ns.map V.int) := by
        rcases hS with (h1 | ⟨o, h1⟩) | h1
        · exact .inl (.inl (sb3 _ _ (ne_of_none h1 nbl) (toHb _ _ h1)))
        · exact .inl (.inr ⟨o, sb3 _ _ (ne_of_none h1 nbl) (toHb _ _ h1)⟩)
        · exact .inr h1
      obtain ⟨n, r, ekids⟩ : ∃ n r, x.kids = n :: r := by
        cases e : x.kids with
        | nil => exact absurd e gx.2.1
        | cons n r => exact ⟨n, r, rfl⟩
      have n01 : 1 ≤ n ∧ n ≤ 8 := by
        have z := gx.2.2
        rw [ekids] at z
        have z' : (decide (x.up + 1 ≤ n) && decide (n ≤ many - 1) && rising many (r.map PyData.int) n) = true := z
        simp only [Bool.and_eq_true, decide_eq_true_eq] at z'
        have := gx.1
        omega
      have kl : 1 ≤ x.kids.length := by
        rw [ekids, List.length_cons]
        omega
      have kl8 : x.kids.length ≤ 1000 := by
        have e := GK.perm.length_eq
        obtain ⟨pre, post, epp⟩ := List.append_of_mem hxg
        rw [List.length_map, List.length_range', epp, List.flatMap_append, List.flatMap_cons, List.length_append, List.length_append] at e
        omega
      have lmk : (x.kids.map V.int).length = x.kids.length := List.length_map _
      have hat0 : atI (x.kids.map V.int) 0 = some (.int n) := by
        rw [ekids]
        exact at0
      refine ⟨x.t, _, rfl, sqT xt3, rfl, _, _, rfl, _, _, rfl, rfl, ?_⟩
      refine ⟨_, rfl, _, rfl, x.l, _, _, _, rfl, rfl, SqL.of xl3, hat0, _, _, rfl, rfl, sp, ns, _, rfl, sp3, hl, by omega, by omega, fun c c0 c1 => ?_⟩
      refine ⟨_, rfl, _, rfl, x.l, _, rfl, .inl (SqL.of xl3), _, _, rfl, rfl, (by rw [lmk]; omega), _, _, rfl, rfl, ?_⟩
      have q0 : 0 ≤ c % ((x.kids.map V.int).length : Nat) := Int.emod_nonneg _ (by omega)
      have q1 : c % ((x.kids.map V.int).length : Nat) < ((x.kids.map V.int).length : Nat) := Int.emod_lt_of_pos _ (by omega)
      refine ⟨_, rfl, _, _, rfl, rfl, ⟨by decide, by decide⟩, _, _, rfl, rfl, (by show (0 : Int) < 3; decide), rfl, _, rfl, ?_⟩
      refine ite2 (fun z => ?_) (fun z => ?_)
      · refine ⟨_, rfl, x.l, _, rfl, .inl (SqL.of xl3), ?_⟩
        refine ⟨_, rfl, .inl ⟨rfl, _, SqL.of hb3⟩, _, rfl, _, rfl, _, _, rfl, rfl, ⟨by decide, by decide⟩, _, rfl, _, _, rfl, rfl, _, _, rfl, rfl, (by show (0 : Int) < (((x.kids.map V.int).length : Nat) : Int) + 1; omega), _, rfl, _, rfl, x.l, _, rfl, .inl ⟨SqL.of xl3, fun tk htk => ?_⟩⟩
        have l0 : 0 ≤ c / 27 % ((((x.kids.map V.int).length : Nat) : Int) + 1) := Int.emod_nonneg _ (by omega)
        have l1 : c / 27 % ((((x.kids.map V.int).length : Nat) : Int) + 1) < (((x.kids.map V.int).length : Nat) : Int) + 1 := Int.emod_lt_of_pos _ (by omega)
        refine ⟨small (by show 4 ≤ 1000; decide), fun tb htb => ?_⟩
        have sm4 := (same_new htk (.tup (x.kids.map V.int))).trans (same_new htb (.tup [.int x.up, .int (c / 27 % ((((x.kids.map V.int).length : Nat) : Int) + 1)), .int ((((x.kids.map V.int).length : Nat) : Int)), .ref tk]))
        refine ⟨bl, _, _, rfl, rfl, sm4 _ _ hb3, small1000 (by have := dn3.length; omega), ?_⟩
        have keep : ∀ b' zs, upd (upd H3 tk (.tup (x.kids.map V.int))) tb (.tup [.int x.up, .int (c / 27 % ((((x.kids.map V.int).length : Nat) : Int) + 1)), .int ((((x.kids.map V.int).length : Nat) : Int)), .ref tk]) b' = some (.tup zs) → upd (upd (upd H3 tk (.tup (x.kids.map V.int))) tb (.tup [.int x.up, .int (c / 27 % ((((x.kids.map V.int).length : Nat) : Int) + 1)), .int ((((x.kids.map V.int).length : Nat) : Int)), .ref tk])) bl (.lst (xs ++ [.ref tb])) b' = some (.tup zs) := keep_lst (sm4 _ _ hb3)
        refine ⟨_, _, _, _, _, bs ++ [bghD x.up (c / 27 % ((((x.kids.map V.int).length : Nat) : Int) + 1)) ((((x.kids.map V.int).length : Nat) : Int)) x.kids], xs ++ [.ref tb], rfl, (sb3.trans (Same.x sm4)).trans (sameX_pen _), upd_same, ?_, ?_, fun b' hb' => ?_, ?_, ?_⟩
        · exact (DnL.keepT (Dn.keepT keep 3) _ _ fl3 (DnL.same sm4 _ _ dn3)).append ⟨_, [], rfl, ⟨tb, _, rfl, keep _ _ upd_same, _, _, rfl, rfl, _, _, rfl, rfl, _, _, rfl, rfl, _, _, rfl, ⟨tk, _, rfl, keep _ _ ((same_new htb _) _ _ upd_same), ints_dnl x.kids⟩, rfl⟩, rfl⟩
        · rw [List.length_append, List.length_singleton, bl3]
        · rcases List.mem_append.mp hb' with z | z
          · exact ok3 b' z
          · rw [List.mem_singleton.mp z]
            exact bgh_ok gx.1 gx.2.1 gx.2.2 l0 (by omega) (by omega) (by omega)
        · rw [List.flatMap_append, ki3, flatMap_take hx]
          simp [bgh_kids]
        · rw [List.all_append, fl3]
          simp [bgh_flat _ _ _ _ kl8]
      · refine ⟨_, rfl, .inl ⟨rfl, _, SqL.of hb3⟩, _, rfl, _, rfl, _, _, rfl, rfl, ⟨by decide, by decide⟩, _, rfl, _, _, rfl, rfl, _, _, rfl, rfl, (by show (0 : Int) < (1 + c % ((x.kids.map V.int).length : Nat)) + 1; omega), _, rfl, _, rfl, x.l, _, rfl, .inl ⟨SqL.of xl3, fun tk htk => ?_⟩⟩
        have l0 : 0 ≤ c / 27 % ((1 + c % ((x.kids.map V.int).length : Nat)) + 1) := Int.emod_nonneg _ (by omega)
        have l1 : c / 27 % ((1 + c % ((x.kids.map V.int).length : Nat)) + 1) < (1 + c % ((x.kids.map V.int).length : Nat)) + 1 := Int.emod_lt_of_pos _ (by omega)
        refine ⟨small (by show 4 ≤ 1000; decide), fun tb htb => ?_⟩
        have sm4 := (same_new htk (.tup (x.kids.map V.int))).trans (same_new htb (.tup [.int x.up, .int (c / 27 % ((1 + c % ((x.kids.map V.int).length : Nat)) + 1)), .int ((1 + c % ((x.kids.map V.int).length : Nat))), .ref tk]))
        refine ⟨bl, _, _, rfl, rfl, sm4 _ _ hb3, small1000 (by have := dn3.length; omega), ?_⟩
        have keep : ∀ b' zs, upd (upd H3 tk (.tup (x.kids.map V.int))) tb (.tup [.int x.up, .int (c / 27 % ((1 + c % ((x.kids.map V.int).length : Nat)) + 1)), .int ((1 + c % ((x.kids.map V.int).length : Nat))), .ref tk]) b' = some (.tup zs) → upd (upd (upd H3 tk (.tup (x.kids.map V.int))) tb (.tup [.int x.up, .int (c / 27 % ((1 + c % ((x.kids.map V.int).length : Nat)) + 1)), .int ((1 + c % ((x.kids.map V.int).length : Nat))), .ref tk])) bl (.lst (xs ++ [.ref tb])) b' = some (.tup zs) := keep_lst (sm4 _ _ hb3)
        refine ⟨_, _, _, _, _, bs ++ [bghD x.up (c / 27 % ((1 + c % ((x.kids.map V.int).length : Nat)) + 1)) ((1 + c % ((x.kids.map V.int).length : Nat))) x.kids], xs ++ [.ref tb], rfl, (sb3.trans (Same.x sm4)).trans (sameX_pen _), upd_same, ?_, ?_, fun b' hb' => ?_, ?_, ?_⟩
        · exact (DnL.keepT (Dn.keepT keep 3) _ _ fl3 (DnL.same sm4 _ _ dn3)).append ⟨_, [], rfl, ⟨tb, _, rfl, keep _ _ upd_same, _, _, rfl, rfl, _, _, rfl, rfl, _, _, rfl, rfl, _, _, rfl, ⟨tk, _, rfl, keep _ _ ((same_new htb _) _ _ upd_same), ints_dnl x.kids⟩, rfl⟩, rfl⟩
        · rw [List.length_append, List.length_singleton, bl3]
        · rcases List.mem_append.mp hb' with z | z
          · exact ok3 b' z
          · rw [List.mem_singleton.mp z]
            exact bgh_ok gx.1 gx.2.1 gx.2.2 l0 (by omega) (by omega) (by omega)
        · rw [List.flatMap_append, ki3, flatMap_take hx]
          simp [bgh_kids]
        · rw [List.all_append, fl3]
          simp [bgh_flat _ _ _ _ kl8]
    · rintro σ H3 ⟨w3, w4, w5, w9, w10, bs, xs, rfl, sb3, hb3, dn3, bl3, ok3, ki3, fl3⟩
      rw [List.length_map] at bl3 ki3
      rw [List.take_length] at ki3
      refine ⟨_, rfl, q bl bs xs H3 (SameX.freshB toHb nbl ebl sb3) hb3 nbl dn3 ⟨ok3, ?_⟩ ?_ fl3⟩
      · rw [ki3]
        refine List.Perm.trans ?_ GK.perm
        refine List.Perm.flatMap_right _ ?_
        have e : gs = gs.take tn ++ gs.drop tn := (List.take_append_drop tn gs).symm
        exact List.Perm.trans List.perm_append_comm (by rw [← e])
      · rw [bl3, List.length_append, List.length_drop, List.length_take]
        omega

end
section
variable {P : Program} {w : World} {K : PySem.W.Frag} {mg : Str → Option Value} {base : Heap} {a : Adr} {d : Fds}
theorem ok_law_tie (T : Txt K mg a d) : FnOk P w K mg base CX0 1 a.f_law_tie d.f_law_tie ["_law_cell", "_law_many_here"] spTieMade := by
  refine T.K_law_tie.ok sc_law_tie (fun vs H Q E h => ?_) (fun cdv A outer s H vs Q E hr h => ?_)
  · obtain ⟨c, many, rfl, _⟩ := h
    rfl
  obtain ⟨c, many, rfl, c0, c1, m1, m9, q⟩ := h
  obtain ⟨m, rfl⟩ : ∃ m : Nat, many = (m : Int) := ⟨many.toNat, by omega⟩
  have m9' : m ≤ 9 := by omega
  have p62 : (2 : Int) ^ 62 = 4611686018427387904 := by decide
  -- the end: a most tie of these pairs
  have rest9 : ∃ t, PSs (cxOf CX0 P w K mg base ["_law_cell", "_law_many_here", "_law_one", "_law_other", "_law_some", "_law_pairs", "_law_k", "_law_number", "_law_top"] "_law_tie" (defScope s_law_tie) a.f_law_tie cdv A outer s H E).nox ((defBody s_law_tie).drop 9) t ∧ ∀ (v2 v3 v4 v6 v7 : Option V) (top : Int) (pl : Addr) (ps : List PyData) (xs : List V) (H2 : Hp), Same H H2 → H2 pl = some (.lst xs) → PairsTo H2 m ps xs → 0 < ps.length →
      t { nx := fun _ H' => Q .non H', rt := Q } [some (.int c), some (.int m), v2, v3, v4, some (.ref pl), v6, v7, some (.int top)] H2 := by
    refine ⟨_, (pss_one (ps_ret (pe_tup (pa_cons pe_str (pa_cons (pv 8) (pa_cons (pe_callTy call_tuple_of rfl T.m_tuple PyProof.Rows.boot_tuple (pa_cons (pv 5) pa_nil)) pa_nil)))))), ?_⟩
    intro v2 v3 v4 v6 v7 top pl ps xs H2 sm hpl pt p0
    refine ⟨_, rfl, _, rfl, pl, xs, rfl, .inl ⟨SqL.of hpl, fun tp htp => ?_⟩⟩
    refine ⟨small (by show 3 ≤ 1000; decide), fun tt htt => ?_⟩
    have sm2 := (same_new htp (.tup xs)).trans (same_new htt (.tup [.str ("most" : Str), .int top, .ref tp]))
    refine q (.tuple [.str ("most" : Str), .int top, .tuple ps]) _ _ (sm.trans sm2) ⟨tt, _, rfl, upd_same, _, _, rfl, rfl, _, _, rfl, rfl, _, _, rfl, ⟨tp, xs, rfl, (same_new htt _) _ _ upd_same, DnL.same sm2 _ _ pt.dn⟩, rfl⟩ ?_ ?_ ?_
    · show tieK m ("most" : Str) (.int top) (.tuple ps) = true
      unfold tieK
      rw [if_pos rfl]
      show (true && (decide (0 < ps.length) && ps.all pairOk && rising m (ps.map fstD) (-1))) = true
      rw [decide_eq_true p0, pt.ok, pt.ris]
      rfl
    · show ps.length ≤ 1000
      have := pt.few
      omega
    · have few := pt.few
      have f2 : flatD 2 (.tuple ps) = true := by
        show (decide (ps.length ≤ 1000) && ps.all (flatD 1)) = true
        rw [decide_eq_true (by omega), pt.flat]
        rfl
      show (true && (flatD 2 (.str ("most" : Str)) && (flatD 2 (.int top) && (flatD 2 (.tuple ps) && true)))) = true
      rw [show flatD 2 (.str ("most" : Str)) = true from strOk_most, f2]
      rfl
  obtain ⟨t9, h9, r9⟩ := rest9
  -- from the options of the tie on
  have rest5 : ∃ t, PSs (cxOf CX0 P w K mg base ["_law_cell", "_law_many_here", "_law_one", "_law_other", "_law_some", "_law_pairs", "_law_k", "_law_number", "_law_top"] "_law_tie" (defScope s_law_tie) a.f_law_tie cdv A outer s H E).nox ((defBody s_law_tie).drop 5) t ∧ ∀ (v2 v3 v6 v7 v8 : Option V) (S : Int) (H2 : Hp), Same H H2 → 0 < S → S < 2 ^ m →
      t { nx := fun _ H' => Q .non H', rt := Q } [some (.int c), some (.int m), v2, v3, some (.int S), none, v6, v7, v8] H2 := by
    refine ⟨_, (pss_cons (ps_set (i := 5) sc_law_tie.nd rfl (Or.inl rfl) (pe_lst pa_nil))
      (pss_cons (ps_for PassesOwn.never rfl (pi_range1 rfl T.m_range (pa_cons (pv 1) pa_nil)) (pg_name (i := 6) sc_law_tie.nd rfl (Or.inl rfl)) (pss_one (ps_if (pt_cmpR op_eq (pe_op op_and (pe_op op_shr (pv 4) (pv 6)) pe_int) pe_int (nomark _)) (pss_cons (ps_set (i := 7) sc_law_tie.nd rfl (Or.inl rfl) (pe_op op_sub (pe_op op_mod (pe_op op_mod (pe_op op_mul (pv 0) (pe_op op_add (pv 6) pe_int)) pe_int) pe_int) pe_int))
      (pss_one (ps_expr (pe_bmK (K := K) PySem.F.plainAttrs_list PySem.F.slot_list_append PySem.F.type_list_append mt_append (pv 5) (pa_cons (pe_tup (pa_cons (pv 6) (pa_cons (pe_ix (ixL (K := K)) (pe_lst (pa_cons (pv 7) (pa_cons (pe_op op_add (pe_op op_mul (pv 7) (pe_op op_pow pe_int pe_int)) (pv 6)) pa_nil))) (pe_callTy call_int1 rfl T.m_int PyProof.Rows.boot_int (pa_cons (pe_cmpR op_eq (pe_op op_mod (pe_op op_fdiv (pv 0) pe_int) pe_int) pe_int (nomark _)) pa_nil)) (fun _ _ => rfl)) pa_nil))) pa_nil))))) pss_nil)))
      (pss_cons (ps_set (i := 8) sc_law_tie.nd rfl (Or.inl rfl) (pe_op op_sub (pe_op op_mod (pe_op op_fdiv (pv 0) pe_int) pe_int) pe_int))
      (pss_cons (ps_if (pt_cmpR op_eq (pe_op op_mod (pe_op op_fdiv (pv 0) pe_int) pe_int) pe_int (nomark _)) (pss_one (ps_set (i := 8) sc_law_tie.nd rfl (Or.inl rfl) (pe_op op_mul (pv 8) (pe_op op_pow pe_int pe_int)))) pss_nil)
      h9)))), ?_⟩
    intro v2 v3 v6 v7 v8 S H2 sm s0 s1
    refine ⟨small (by decide), fun pl hpl => ?_⟩
    refine ⟨_, rfl, _, rfl, by rw [p62]; omega, by rw [p62]; omega, ?_⟩
    refine for_range (n := m) (fun i σ H3 => ∃ (w6 w7 : Option V) (ps : List PyData) (xs : List V), σ = [some (.int c), some (.int m), v2, v3, some (.int S), some (.ref pl), w6, w7, v8] ∧ Same H H3 ∧ H3 pl = some (.lst xs) ∧ PairsTo H3 i ps xs ∧ i ≤ m ∧ ((∃ k, k < i ∧ S / 2 ^ k % 2 = 1) → 0 < ps.length))
      ⟨v6, v7, [], [], rfl, sm.trans (same_new hpl _), upd_same, ⟨rfl, rfl, rfl, rfl, Nat.le_refl _⟩, Nat.zero_le _, fun ⟨k, hk, _⟩ => absurd hk (Nat.not_lt_zero k)⟩ ?_ ?_
    · rintro i σ H3 hi ⟨w6, w7, ps, xs, rfl, sm3, hp3, pt, hile, hne⟩
      have ek : ((0 : Int) + (i : Int)).toNat = i := by omega
      refine ⟨_, rfl, _, rfl, _, _, rfl, rfl, (by show (0 : Int) ≤ 0 + (i : Int); omega), _, _, rfl, rfl, rfl, _, rfl, ?_⟩
      have ebit : decide (V.int (Builtin.bitAnd (S / 2 ^ ((0 : Int) + (i : Int)).toNat) 1) = V.int 1) = decide (S / 2 ^ i % 2 = 1) := by
        rw [ek, bit_eq, dec_int]
        by_cases z : S / 2 ^ i % 2 = 1
        · rw [decide_eq_true z]
          simpa using z
        · rw [decide_eq_false z]
          simpa using z
      show if decide (V.int (Builtin.bitAnd (S / 2 ^ ((0 : Int) + (i : Int)).toNat) 1) = V.int 1) = true then _ else _
      rw [ebit]
      refine ite2 (fun b => ?_) (fun b => ?_)
      · have n0 : 0 ≤ c * (0 + (i : Int) + 3) % 1009 % 9 := Int.emod_nonneg _ (by decide)
        have n1 : c * (0 + (i : Int) + 3) % 1009 % 9 < 9 := Int.emod_lt_of_pos _ (by decide)
        refine ⟨_, rfl, _, rfl, _, _, rfl, rfl, _, _, rfl, rfl, (by unfold CMul; omega), _, _, rfl, rfl, (by show (0 : Int) < 1009; decide), _, _, rfl, rfl, (by show (0 : Int) < 9; decide), _, _, rfl, rfl, ?_⟩
        refine ⟨_, rfl, .inl ⟨rfl, _, SqL.of hp3⟩, ?_⟩
        refine ⟨_, rfl, _, rfl, _, rfl, _, _, rfl, rfl, ⟨by decide, by decide, by decide⟩, _, _, rfl, rfl, .inl ⟨by omega, by omega⟩, _, rfl, _, _, rfl, rfl, small (by show 2 ≤ 1000; decide), fun lp hlp => ?_⟩
        refine ⟨_, rfl, _, _, rfl, rfl, ⟨by decide, by decide⟩, _, _, rfl, rfl, (by show (0 : Int) < 6; decide), rfl, .inr ⟨_, rfl, ?_⟩⟩
        have item : ∀ (x y : Int) (b : Bool), ∃ z : Int, atI ([.int x, .int y] : List V) (if b = true then 1 else 0) = some (.int z) := fun x y b => by
          cases b
          · exact ⟨x, rfl⟩
          · exact ⟨y, rfl⟩
        obtain ⟨z, hz⟩ := item (c * (0 + (i : Int) + 3) % 1009 % 9 - 4) ((c * (0 + (i : Int) + 3) % 1009 % 9 - 4) * 10 ^ (50 : Int).toNat + (0 + (i : Int))) (decide (V.int (c / 7 % 6) = V.int 1))
        refine ⟨lp, _, _, _, rfl, rfl, SqL.of upd_same, hz, small (by show 2 ≤ 1000; decide), fun tp htp => ?_⟩
        have sm4 := (same_new hlp (.lst [.int (c * (0 + (i : Int) + 3) % 1009 % 9 - 4), .int ((c * (0 + (i : Int) + 3) % 1009 % 9 - 4) * 10 ^ (50 : Int).toNat + (0 + (i : Int)))])).trans (same_new htp (.tup [.int (0 + (i : Int)), .int z]))
        have hp4 := sm4 _ _ hp3
        have few := pt.few
        have lx := pt.dn.length
        refine ⟨pl, _, _, rfl, rfl, hp4, small1000 (by omega), ?_⟩
        have hHpl : H pl = none := sm.free hpl
        have e0 : (0 : Int) + (i : Int) = i := by omega
        have pd4 := DnL.same sm4 _ _ pt.dn
        refine ⟨_, _, ps ++ [.tuple [.int (0 + (i : Int)), .int z]], xs ++ [.ref tp], rfl, Same.put (sm3.trans sm4) hHpl hp4, upd_same, ⟨?_, ?_, ?_, ?_, ?_⟩, hi, fun _ => ?_⟩
        · refine DnL.append (DnL.keepT (Dn.keepT (keep_lst hp4) 1) _ _ pt.flat pd4) ⟨_, [], rfl, ⟨tp, _, rfl, keep_lst hp4 _ _ upd_same, _, _, rfl, rfl, _, _, rfl, rfl, rfl⟩, rfl⟩
        · rw [List.all_append, pt.ok]
          rfl
        · rw [List.all_append, pt.flat]
          rfl
        · rw [List.map_append]
          show rising ((i + 1 : Nat) : Int) (ps.map fstD ++ [.int (0 + (i : Int))]) (-1) = true
          rw [e0]
          exact rising_snoc (by omega) pt.ris (by omega)
        · rw [List.length_append, List.length_singleton]
          omega
        · rw [List.length_append, List.length_singleton]
          omega
      · refine ⟨_, _, ps, xs, rfl, sm3, hp3, ⟨pt.dn, pt.ok, pt.flat, rising_mono (by omega) pt.ris, by have := pt.few; omega⟩, hi, fun ⟨k, hk, hb⟩ => ?_⟩
        by_cases ek2 : k = i
        · subst ek2
          exact absurd (decide_eq_true hb) b
        · exact hne ⟨k, by omega, hb⟩
    · rintro σ H3 ⟨w6, w7, ps, xs, rfl, sm3, hp3, pt, hile, hne⟩
      have s1' : S.toNat < 2 ^ m := by
        have e1 : (2 : Int) ^ m = ((2 ^ m : Nat) : Int) := by rw [Int.natCast_pow]; rfl
        rw [e1] at s1
        omega
      have p0 : 0 < ps.length := by
        obtain ⟨k, hk, hb⟩ := some_bit ⟨m, by omega⟩ ⟨S.toNat, Nat.lt_of_lt_of_le s1' (pow_le m9')⟩ (by show 0 < S.toNat; omega) s1'
        refine hne ⟨k.val, hk, ?_⟩
        have e2 : S = ((S.toNat : Nat) : Int) := by omega
        rw [e2]
        have e3 : (2 : Int) ^ k.val = ((2 ^ k.val : Nat) : Int) := by rw [Int.natCast_pow]; rfl
        rw [e3]
        have hb' : S.toNat / 2 ^ k.val % 2 = 1 := hb
        omega
      refine ⟨_, rfl, _, _, rfl, rfl, ⟨by decide, by decide⟩, _, _, rfl, rfl, (by show (0 : Int) < 9; decide), _, _, rfl, rfl, ?_⟩
      refine ⟨_, rfl, _, _, rfl, rfl, ⟨by decide, by decide⟩, _, _, rfl, rfl, (by show (0 : Int) < 6; decide), rfl, _, rfl, ?_⟩
      have t0 : 0 ≤ c / 11 % 9 := Int.emod_nonneg _ (by decide)
      have t1 : c / 11 % 9 < 9 := Int.emod_lt_of_pos _ (by decide)
      refine ite2 (fun b => ?_) (fun b => ?_)
      · refine ⟨_, rfl, _, _, rfl, rfl, ⟨by decide, by decide, by decide⟩, _, _, rfl, rfl, .inl ⟨by omega, by omega⟩, ?_⟩
        exact r9 _ _ _ _ _ _ pl ps xs H3 sm3 hp3 pt p0
      · exact r9 _ _ _ _ _ _ pl ps xs H3 sm3 hp3 pt p0
  obtain ⟨t5, h5, r5⟩ := rest5
  have rest3 : ∃ t, PSs (cxOf CX0 P w K mg base ["_law_cell", "_law_many_here", "_law_one", "_law_other", "_law_some", "_law_pairs", "_law_k", "_law_number", "_law_top"] "_law_tie" (defScope s_law_tie) a.f_law_tie cdv A outer s H E).nox ((defBody s_law_tie).drop 3) t ∧ ∀ (v3 v6 v7 v8 : Option V) (one : Int), 0 ≤ one → one < m →
      t { nx := fun _ H' => Q .non H', rt := Q } [some (.int c), some (.int m), some (.int one), v3, none, none, v6, v7, v8] H := by
    refine ⟨_, (pss_cons (ps_set (i := 4) sc_law_tie.nd rfl (Or.inl rfl) (pe_op op_mod (pe_op op_fdiv (pv 0) pe_int) (pe_op op_shl pe_int (pv 1))))
      (pss_cons (ps_if (pt_cmpR op_eq (pv 4) pe_int (nomark _)) (pss_one (ps_set (i := 4) sc_law_tie.nd rfl (Or.inl rfl) (pe_op op_shl pe_int (pv 2)))) pss_nil)
      h5)), ?_⟩
    intro v3 v6 v7 v8 one o0 o1
    have e1 : (2 : Int) ^ ((m : Int)).toNat = 2 ^ m := by rw [Int.toNat_natCast]
    have pm : (0 : Int) < 2 ^ m := Int.pow_pos (by decide)
    refine ⟨_, rfl, _, _, rfl, rfl, ⟨by decide, by decide⟩, _, rfl, _, _, rfl, rfl, ⟨by omega, by omega, by decide⟩, _, _, rfl, rfl, (by show (0 : Int) < 1 * 2 ^ ((m : Int)).toNat; rw [e1]; omega), ?_⟩
    have s0 : 0 ≤ c / 405 % (1 * 2 ^ ((m : Int)).toNat) := Int.emod_nonneg _ (by rw [e1]; omega)
    have s1 : c / 405 % (1 * 2 ^ ((m : Int)).toNat) < 1 * 2 ^ ((m : Int)).toNat := Int.emod_lt_of_pos _ (by rw [e1]; omega)
    refine ⟨_, rfl, rfl, _, rfl, ?_⟩
    refine ite2 (fun b => ?_) (fun b => ?_)
    · refine ⟨_, rfl, _, _, rfl, rfl, ⟨o0, by omega, by decide⟩, ?_⟩
      refine r5 _ _ _ _ _ (1 * 2 ^ one.toNat) H (Same.refl H) ?_ ?_
      · rw [Int.one_mul]
        exact Int.pow_pos (by decide)
      · rw [Int.one_mul]
        have e2 : (2 : Int) ^ one.toNat = ((2 ^ one.toNat : Nat) : Int) := by rw [Int.natCast_pow]; rfl
        have e3 : (2 : Int) ^ m = ((2 ^ m : Nat) : Int) := by rw [Int.natCast_pow]; rfl
        rw [e2, e3]
        have := Nat.pow_lt_pow_right (a := 2) (by decide) (show one.toNat < m by omega)
        omega
    · refine r5 _ _ _ _ _ (c / 405 % (1 * 2 ^ ((m : Int)).toNat)) H (Same.refl H) ?_ ?_
      · have nz : ¬ c / 405 % (1 * 2 ^ ((m : Int)).toNat) = 0 := fun z => b (decide_eq_true (by
          show V.int (c / 405 % (1 * 2 ^ ((m : Int)).toNat)) = V.int 0
          rw [z]))
        omega
      · rw [e1, Int.one_mul] at s1 ⊢
        exact s1
  obtain ⟨t3, h3, r3⟩ := rest3
  refine ⟨_, (pss_cons (ps_set (i := 2) sc_law_tie.nd rfl (Or.inl rfl) (pe_op op_mod (pe_op op_fdiv (pv 0) pe_int) (pv 1)))
      (pss_cons (ps_set (i := 3) sc_law_tie.nd rfl (Or.inl rfl) (pe_op op_mod (pe_op op_add (pe_op op_add (pv 2) pe_int) (pe_op op_mod (pe_op op_fdiv (pv 0) pe_int) (pe_callB (call_max2 rfl) rfl T.m_max PyProof.Rows.boot_max (pa_cons pe_int (pa_cons (pe_op op_sub (pv 1) pe_int) pa_nil))))) (pv 1)))
      (pss_cons (ps_if (PW.pt (pw_and (pt_cmpR op_gt (pv 1) pe_int (nomark _)) (pw_and1 (pt_cmpR op_lt (pe_op op_mod (pv 0) pe_int) pe_int (nomark _))))) (pss_one (ps_ret (pe_tup (pa_cons (pe_ix (ixL (K := K)) (pe_lst (pa_cons pe_str (pa_cons pe_str (pa_cons pe_str pa_nil)))) (pe_op op_mod (pv 0) pe_int) (fun _ _ => rfl)) (pa_cons (pv 2) (pa_cons (pv 3) pa_nil)))))) pss_nil)
      h3))), ?_⟩
  have o0 : 0 ≤ c / 5 % (m : Int) := Int.emod_nonneg _ (by omega)
  have o1 : c / 5 % (m : Int) < m := Int.emod_lt_of_pos _ (by omega)
  refine ⟨_, rfl, _, _, rfl, rfl, ⟨by decide, by decide⟩, _, rfl, _, _, rfl, rfl, (by show (0 : Int) < m; omega), ?_⟩
  refine ⟨_, rfl, _, _, rfl, rfl, _, rfl, _, _, rfl, rfl, ⟨by decide, by decide⟩, _, rfl, _, _, rfl, rfl, _, _, rfl, ?_⟩
  have mx : (0 : Int) < (if (m : Int) - 1 > 1 then (m : Int) - 1 else 1) := by split <;> omega
  refine ⟨_, _, rfl, rfl, mx, _, _, rfl, rfl, _, rfl, _, _, rfl, rfl, (by show (0 : Int) < m; omega), ?_⟩
  have x0 : 0 ≤ c / 45 % (if (m : Int) - 1 > 1 then (m : Int) - 1 else 1) := Int.emod_nonneg _ (by omega)
  have x1 : c / 45 % (if (m : Int) - 1 > 1 then (m : Int) - 1 else 1) < (if (m : Int) - 1 > 1 then (m : Int) - 1 else 1) := Int.emod_lt_of_pos _ mx
  refine ⟨_, rfl, _, _, rfl, rfl, _, rfl, ?_⟩
  refine ite2 (fun m2 => ?_) (fun m2 => ?_)
  · refine ⟨_, rfl, _, _, rfl, rfl, (by show (0 : Int) < 5; decide), _, _, rfl, rfl, _, rfl, ?_⟩
    refine ite2 (fun c5 => ?_) (fun c5 => ?_)
    · have m2' : (1 : Int) < m := of_decide_eq_true m2
      have c5' : c % 5 < 3 := of_decide_eq_true c5
      have c50 : 0 ≤ c % 5 := Int.emod_nonneg _ (by decide)
      obtain ⟨n0, n1, n2⟩ := mod_near (many := m) m2' m9 o0 o1 x0 (Int.lt_of_lt_of_le x1 (by split <;> omega))
      have item : ∃ sN : Str, (sN = ("needs" : Str) ∨ sN = ("bans" : Str)) ∧ ¬ sN = ("most" : Str) ∧ PyData.strOk sN = true ∧ atI ([.str ("needs" : Str), .str ("bans" : Str), .str ("needs" : Str)] : List V) (c % 5) = some (.str sN) := by
        have e : c % 5 = 0 ∨ c % 5 = 1 ∨ c % 5 = 2 := by omega
        rcases e with e | e | e <;> rw [e]
        · exact ⟨_, .inl rfl, by decide +kernel, strOk_needs, rfl⟩
        · exact ⟨_, .inr rfl, by decide +kernel, strOk_bans, rfl⟩
        · exact ⟨_, .inl rfl, by decide +kernel, strOk_needs, rfl⟩
      obtain ⟨sN, sk, snm, sok, hat⟩ := item
      refine ⟨small (by show 3 ≤ 1000; decide), fun lp hlp => ?_⟩
      refine ⟨_, rfl, _, _, rfl, rfl, (by show (0 : Int) < 5; decide), lp, _, _, _, rfl, rfl, SqL.of upd_same, hat, _, rfl, _, rfl, small (by show 3 ≤ 1000; decide), fun tp htp => ?_⟩
      refine q (.tuple [.str sN, .int (c / 5 % (m : Int)), .int ((c / 5 % (m : Int) + 1 + c / 45 % (if (m : Int) - 1 > 1 then (m : Int) - 1 else 1)) % (m : Int))]) _ _ ((same_new hlp _).trans (same_new htp _)) ⟨tp, _, rfl, upd_same, _, _, rfl, rfl, _, _, rfl, rfl, _, _, rfl, rfl, rfl⟩ ?_ trivial ?_
      · show tieK m sN _ _ = true
        unfold tieK
        rw [if_neg snm, if_pos sk]
        show ((decide ((0 : Int) ≤ _) && decide (_ ≤ (m : Int) - 1)) && ((decide ((0 : Int) ≤ _) && decide (_ ≤ (m : Int) - 1)) && !decide (_ = _))) = true
        rw [decide_eq_true o0, decide_eq_true (by omega), decide_eq_true n0, decide_eq_true (by omega), decide_eq_false n2]
        rfl
      · show (true && (flatD 2 (.str sN) && (true && (true && true)))) = true
        rw [show flatD 2 (.str sN) = true from sok]
        rfl
    · exact r3 _ _ _ _ _ o0 o1
  · exact r3 _ _ _ _ _ o0 o1

end
section
variable {P : Program} {w : World} {K : PySem.W.Frag} {mg : Str → Option Value} {base : Heap} {a : Adr} {d : Fds}
theorem ok_law_cross (T : Txt K mg a d) : FnOk P w K mg base CX0 2 a.f_law_cross d.f_law_cross ["_law_script", "_law_many_here"] (spCross K) := by
  have G_law_cell_at := ok_law_cell_at (P := P) (w := w) (base := base) T
  have G_law_tie := ok_law_tie (P := P) (w := w) (base := base) T
  refine T.K_law_cross.ok sc_law_cross (fun vs H Q E h => ?_) (fun cdv A outer s H vs Q E hr h => ?_)
  · obtain ⟨p, ns, many, rfl, _⟩ := h
    rfl
  obtain ⟨p, ns, many, rfl, hS, hl, m1, m9, q⟩ := h
  have p62 : (2 : Int) ^ 62 = 4611686018427387904 := by decide
  refine ⟨_, (pss_cons (ps_set (i := 2) sc_law_cross.nd rfl (Or.inl rfl) (pe_ix (ixL (K := K)) (pe_lst (pa_cons pe_int (pa_cons pe_int (pa_cons pe_int (pa_cons pe_int (pa_cons pe_int (pa_cons pe_int (pa_cons pe_int (pa_cons pe_int pa_nil))))))))) (pe_op op_mod (pe_callD G_law_cell_at hr.lv rfl T.K_law_cell_at (pa_cons (pv 0) (pa_cons pe_int pa_nil))) pe_int) (fun _ _ => rfl)))
      (pss_one (ps_ret (pe_lc (sc0 := defScope s_law_cross) (XN := ["_law_script", "_law_many_here", "_law_count"]) (N' := ["_law_k", "_law_many_here", "_law_script"]) (n := 1) (kp := [1, 0]) rfl (pi_range1 rfl T.m_range (pa_cons (pv 2) pa_nil)) rfl rfl (by decide +kernel) (fun _ _ _ _ _ => (pg_name (i := 0) (by show List.Nodup (["_law_k", "_law_many_here", "_law_script"] : List Str); decide +kernel) rfl (Or.inl rfl))) (fun _ _ _ _ _ => pts_nil) (fun _ _ _ _ _ => (pe_callD G_law_tie hr.lv rfl T.K_law_tie (pa_cons (pe_callD G_law_cell_at hr.lv rfl T.K_law_cell_at (pa_cons (pv 2) (pa_cons (pe_op op_add pe_int (pv 0)) pa_nil))) (pa_cons (pv 1) pa_nil)))))))), ?_⟩
  refine ⟨small (by show 8 ≤ 1000; decide), fun lp hlp => ?_⟩
  have sm1 := same_new hlp (.lst [.int 0, .int 1, .int 2, .int 3, .int 4, .int 1, .int 2, .int 8])
  refine ⟨_, rfl, p, ns, 1, rfl, sm1.seq hS, hl, by decide, by decide, fun c c0 c1 => ?_⟩
  have z0 : 0 ≤ c % 8 := Int.emod_nonneg _ (by decide)
  have z1 : c % 8 < 8 := Int.emod_lt_of_pos _ (by decide)
  have item : ∃ n : Nat, n ≤ 8 ∧ atI ([.int 0, .int 1, .int 2, .int 3, .int 4, .int 1, .int 2, .int 8] : List V) (c % 8) = some (.int n) := by
    have e : c % 8 = 0 ∨ c % 8 = 1 ∨ c % 8 = 2 ∨ c % 8 = 3 ∨ c % 8 = 4 ∨ c % 8 = 5 ∨ c % 8 = 6 ∨ c % 8 = 7 := by omega
    rcases e with e | e | e | e | e | e | e | e <;> rw [e]
    · exact ⟨0, by decide, rfl⟩
    · exact ⟨1, by decide, rfl⟩
    · exact ⟨2, by decide, rfl⟩
    · exact ⟨3, by decide, rfl⟩
    · exact ⟨4, by decide, rfl⟩
    · exact ⟨1, by decide, rfl⟩
    · exact ⟨2, by decide, rfl⟩
    · exact ⟨8, by decide, rfl⟩
  obtain ⟨n, hn, hat⟩ := item
  refine ⟨_, _, rfl, rfl, (by show (0 : Int) < 8; decide), lp, _, _, _, rfl, rfl, SqL.of upd_same, hat, ?_⟩
  refine ⟨_, rfl, _, rfl, by rw [p62]; omega, by rw [p62]; omega, ?_⟩
  refine lc_range (k := n) (fun i ys σ H2 => (∃ v, σ = [v, some (.int many), some (.ref p)]) ∧ Same H H2 ∧ i ≤ n ∧ ∃ cs : List PyData, DnL H2 cs ys ∧ tiesOk many cs ∧ cs.length = i ∧ cs.all (flatD 3) = true) ⟨⟨none, rfl⟩, sm1, Nat.zero_le _, [], rfl, (fun _ z => nomatch z), rfl, rfl⟩ (fun i ys σ H2 hi pv => ?_) (fun i ys σ H2 hi pv => ?_) (fun ys σ H2 pv l hl2 => ?_)
  · obtain ⟨_, _, h1, cs, h2, _, h3, _⟩ := pv
    have := h2.length
    exact small (by omega)
  · obtain ⟨⟨v, rfl⟩, sm, h1, cs, h2, h3, h4, h5⟩ := pv
    refine ⟨_, rfl, _, rfl, _, _, rfl, rfl, p, ns, _, rfl, sm.seq hS, hl, by omega, by omega, fun c2 c20 c21 => ?_⟩
    refine ⟨_, rfl, c2, many, rfl, c20, c21, m1, m9, fun dd vv H3 sm3 hd hti hth hfl => ?_⟩
    refine ⟨⟨_, rfl⟩, sm.trans sm3, hi, cs ++ [dd], (DnL.same sm3 _ _ h2).append ⟨vv, [], rfl, hd, rfl⟩, fun x hx => ?_, ?_, ?_⟩
    · rcases List.mem_append.mp hx with z | z
      · exact h3 x z
      · rw [List.mem_singleton.mp z]
        exact ⟨hti, hth⟩
    · rw [List.length_append, List.length_singleton, h4]
    · rw [List.all_append, h5]
      simp [hfl]
  · obtain ⟨_, sm, _, cs, h2, h3, h4, h5⟩ := pv
    exact q l cs ys _ (sm.trans (same_new hl2 _)) upd_same (sm.free hl2) (DnL.same (same_new hl2 _) _ _ h2) h3 (by omega) h5

end
section
variable {P : Program} {w : World} {K : PySem.W.Frag} {mg : Str → Option Value} {base : Heap} {a : Adr} {d : Fds}
theorem ok_law_many (T : Txt K mg a d) : FnOk P w K mg base CX0 2 a.f_law_many d.f_law_many ["_law_script"] (spMany9 K) := by
  have G_law_cell_at := ok_law_cell_at (P := P) (w := w) (base := base) T
  refine T.K_law_many.ok sc_law_many (fun vs H Q E h => ?_) (fun cdv A outer s H vs Q E hr h => ?_)
  · obtain ⟨p, ns, rfl, _⟩ := h
    rfl
  obtain ⟨p, ns, rfl, hS, hl, q⟩ := h
  refine ⟨_, (pss_cons (ps_set (i := 1) sc_law_many.nd rfl (Or.inl rfl) (pe_callD G_law_cell_at hr.lv rfl T.K_law_cell_at (pa_cons (pv 0) (pa_cons pe_int pa_nil))))
      (pss_cons (ps_if (pt_cmpR op_eq (pe_op op_mod (pv 1) pe_int) pe_int (nomark _)) (pss_one (ps_ret (pe_op op_add pe_int (pe_op op_mod (pe_op op_fdiv (pv 1) pe_int) pe_int)))) pss_nil)
      (pss_one (ps_ret (pe_op op_add pe_int (pe_op op_mod (pe_op op_fdiv (pv 1) pe_int) pe_int)))))), ?_⟩
  refine ⟨_, rfl, p, ns, 0, rfl, hS, hl, by decide, by decide, fun c c0 c1 => ?_⟩
  refine ⟨_, rfl, _, _, rfl, rfl, (by show (0 : Int) < 8; decide), rfl, _, rfl, ?_⟩
  refine ite2 (fun z => ?_) (fun z => ?_)
  · refine ⟨_, rfl, _, _, rfl, rfl, ⟨by decide, by decide⟩, _, _, rfl, rfl, (by show (0 : Int) < 9; decide), _, _, rfl, rfl, ?_⟩
    exact q _ (by omega) (by omega)
  · refine ⟨_, rfl, _, _, rfl, rfl, ⟨by decide, by decide⟩, _, _, rfl, rfl, (by show (0 : Int) < 6; decide), _, _, rfl, rfl, ?_⟩
    exact q _ (by omega) (by omega)

end
section
variable {P : Program} {w : World} {K : PySem.W.Frag} {mg : Str → Option Value} {base : Heap} {a : Adr} {d : Fds}
theorem ok_law_stand (T : Txt K mg a d) : FnOk P w K mg base CX0 2 a.f_law_stand d.f_law_stand ["_law_script", "_law_many_here", "_law_k"] (spStand K) := by
  have G_law_cell_at := ok_law_cell_at (P := P) (w := w) (base := base) T
  refine T.K_law_stand.ok sc_law_stand (fun vs H Q E h => ?_) (fun cdv A outer s H vs Q E hr h => ?_)
  · obtain ⟨p, ns, m, k, rfl, _⟩ := h
    rfl
  obtain ⟨sp, ns, m, k, rfl, hS, hl, m9, k0, k9, q⟩ := h
  refine ⟨_, (pss_cons (ps_set (i := 3) sc_law_stand.nd rfl (Or.inl rfl) (pe_callD G_law_cell_at hr.lv rfl T.K_law_cell_at (pa_cons (pv 0) (pa_cons (pe_op op_add pe_int (pv 2)) pa_nil))))
      (pss_cons (ps_set (i := 4) sc_law_stand.nd rfl (Or.inl rfl) (pe_op op_sub (pe_op op_shl pe_int (pv 1)) pe_int))
      (pss_cons (ps_set (i := 5) sc_law_stand.nd rfl (Or.inl rfl) (pe_op op_and (pe_op op_mod (pv 3) pe_int) (pv 4)))
      (pss_cons (ps_set (i := 6) sc_law_stand.nd rfl (Or.inl rfl) (pe_op op_and (pe_op op_and (pe_op op_fdiv (pv 3) pe_int) (pv 4)) (pe_ix (ixL (K := K)) (pe_lst (pa_cons (pv 4) (pa_cons (pe_op op_fdiv (pv 3) pe_int) pa_nil))) (pe_op op_mod (pe_op op_fdiv (pv 3) pe_int) pe_int) (fun _ _ => rfl))))
      (pss_one (ps_ret (pe_tup (pa_cons (pe_op op_sub (pv 5) (pe_op op_and (pv 5) (pv 6))) (pa_cons (pv 6) pa_nil))))))))), ?_⟩
  refine ⟨_, rfl, _, rfl, _, _, rfl, rfl, sp, ns, _, rfl, hS, hl, by omega, by omega, fun c c0 c1 => ?_⟩
  obtain ⟨cn, rfl⟩ : ∃ cn : Nat, c = (cn : Int) := ⟨c.toNat, by omega⟩
  have pm := pow_pos2 m
  have ef : 1 * (2 : Int) ^ ((m : Nat) : Int).toNat - 1 = ((2 ^ m - 1 : Nat) : Int) := by
    rw [shl1]
    omega
  refine ⟨_, rfl, _, _, rfl, rfl, ⟨by omega, by omega, by decide⟩, _, _, rfl, rfl, ?_⟩
  dsimp only
  rw [ef]
  refine ⟨_, rfl, _, _, rfl, rfl, (by show (0 : Int) < 512; decide), _, rfl, _, _, rfl, rfl, ?_⟩
  have e1 : (cn : Int) % 512 = ((cn % 512 : Nat) : Int) := by omega
  dsimp only
  rw [e1, land_nat]
  have e2 : (cn : Int) / 512 = ((cn / 512 : Nat) : Int) := by omega
  have e3 : (cn : Int) / 262144 = ((cn / 262144 : Nat) : Int) := by omega
  obtain ⟨x, hx⟩ : ∃ x : Nat, atI [V.int ((2 ^ m - 1 : Nat) : Int), V.int ((cn : Int) / 262144)] ((cn : Int) / 7 % 2) = some (.int (x : Int)) := by
    have z0 : (cn : Int) / 7 % 2 = 0 ∨ (cn : Int) / 7 % 2 = 1 := by omega
    rcases z0 with z | z <;> rw [z]
    · exact ⟨_, rfl⟩
    · rw [e3]
      exact ⟨_, rfl⟩
  refine ⟨_, rfl, _, _, rfl, rfl, ⟨by decide, by decide⟩, _, rfl, _, _, rfl, rfl, _, rfl, _, rfl, _, _, rfl, rfl, ⟨by decide, by decide⟩, small (by show 2 ≤ 1000; decide), fun lp hlp => ?_⟩
  refine ⟨_, rfl, _, _, rfl, rfl, ⟨by decide, by decide⟩, _, _, rfl, rfl, (by show (0 : Int) < 2; decide), lp, _, _, _, rfl, rfl, SqL.of upd_same, hx, _, _, rfl, rfl, ?_⟩
  dsimp only
  rw [e2, land_nat, land_nat]
  refine ⟨_, rfl, _, rfl, _, rfl, _, _, rfl, rfl, _, _, rfl, rfl, _, rfl, small (by show 2 ≤ 1000; decide), fun tp htp => ?_⟩
  dsimp only
  rw [land_nat]
  have le : cn % 512 &&& (2 ^ m - 1) &&& (cn / 512 &&& (2 ^ m - 1) &&& x) ≤ cn % 512 &&& (2 ^ m - 1) := Nat.and_le_left
  have es : (((cn % 512 &&& (2 ^ m - 1) : Nat) : Int) - ((cn % 512 &&& (2 ^ m - 1) &&& (cn / 512 &&& (2 ^ m - 1) &&& x) : Nat) : Int)) = (((cn % 512 &&& (2 ^ m - 1)) - (cn % 512 &&& (2 ^ m - 1) &&& (cn / 512 &&& (2 ^ m - 1) &&& x)) : Nat) : Int) := by omega
  have l1 : cn % 512 &&& (2 ^ m - 1) ≤ 2 ^ m - 1 := Nat.and_le_right
  have l2 : cn / 512 &&& (2 ^ m - 1) ≤ 2 ^ m - 1 := Nat.and_le_right
  have l3 : cn / 512 &&& (2 ^ m - 1) &&& x ≤ cn / 512 &&& (2 ^ m - 1) := Nat.and_le_left
  refine q tp ((cn % 512 &&& (2 ^ m - 1)) - (cn % 512 &&& (2 ^ m - 1) &&& (cn / 512 &&& (2 ^ m - 1) &&& x))) (cn / 512 &&& (2 ^ m - 1) &&& x) _ ((same_new hlp _).trans (same_new htp _)) ?_ (fun j hj => ?_) (by omega) (by omega)
  · rw [upd_same, es]
  · rw [sub_bits j _ _ fun i hi => by rw [Nat.testBit_and, Bool.and_eq_true] at hi; exact hi.1] at hj
    rw [Nat.testBit_and (cn % 512 &&& (2 ^ m - 1))] at hj
    cases e5 : (cn / 512 &&& (2 ^ m - 1) &&& x).testBit j with
    | false => rfl
    | true =>
      rw [e5] at hj
      cases e6 : (cn % 512 &&& (2 ^ m - 1)).testBit j <;> rw [e6] at hj <;> cases hj

end
section
variable {P : Program} {w : World} {K : PySem.W.Frag} {mg : Str → Option Value} {base : Heap} {a : Adr} {d : Fds}
theorem ok_law_order (T : Txt K mg a d) : FnOk P w K mg base CX0 2 a.f_law_order d.f_law_order ["_law_script", "_law_boughs_here", "_law_many_here"] (spOrder K) := by
  have G_law_cell_at := ok_law_cell_at (P := P) (w := w) (base := base) T
  refine T.K_law_order.ok sc_law_order (fun vs H Q E h => ?_) (fun cdv A outer s H vs Q E hr h => ?_)
  · obtain ⟨sp, lb, ns, L, xs, m, rfl, _⟩ := h
    rfl
  obtain ⟨sp, lb, ns, L, xs, m, rfl, hS, hl, hb, dn, U, m1, m9, q⟩ := h
  have p62 : (2 : Int) ^ 62 = 4611686018427387904 := by decide
  refine ⟨_, (pss_cons (ps_set (i := 3) sc_law_order.nd rfl (Or.inr rfl) pe_dnewK)
      (pss_cons (ps_for PassesOwn.never rfl (piL (K := K) (pv 1)) (pgT (K := K) (n := 4) rfl (pgs_cons (pg_name (i := 4) sc_law_order.nd rfl (Or.inl rfl)) (pgs_cons (pg_name (i := 5) sc_law_order.nd rfl (Or.inl rfl)) (pgs_cons (pg_name (i := 6) sc_law_order.nd rfl (Or.inl rfl)) (pgs_cons (pg_name (i := 7) sc_law_order.nd rfl (Or.inl rfl)) pgs_nil))))) (pss_one (ps_for PassesOwn.never rfl (piT (K := K) (pv 7)) (pg_name (i := 8) sc_law_order.nd rfl (Or.inl rfl)) (pss_one (ps_asg (pv 4) (pg_sub (pv 3) (pv 8) (set_dict (hu_of hr))))))))
      (pss_cons (ps_set (i := 9) sc_law_order.nd rfl (Or.inr rfl) (pe_dispQ (pq_cons pe_int pe_int pq_nil) (Nat.le_of_ble_eq_true rfl)))
      (pss_cons (ps_for PassesOwn.never rfl (pi_range2 rfl T.m_range (pa_cons pe_int (pa_cons (pv 2) pa_nil))) (pg_name (i := 10) sc_law_order.nd rfl (Or.inl rfl)) (pss_cons (ps_setLc (i := 11) sc_law_order.nd rfl rfl rfl (sc0 := defScope s_law_order) (XN := ["_law_script", "_law_boughs_here", "_law_many_here", "_law_ups", "_law_up", "_law_low", "_law_high", "_law_kids", "_law_k", "_law_new", "_law_step", "_law_ready"]) (N' := ["_law_k", "_law_new", "_law_ups"]) (n := 1) (kp := [9, 3]) rfl (pi_range2 rfl T.m_range (pa_cons pe_int (pa_cons (pv 2) pa_nil))) rfl rfl (by decide +kernel) (fun _ _ _ _ _ => (pg_name (i := 0) (by show List.Nodup (["_law_k", "_law_new", "_law_ups"] : List Str); decide +kernel) rfl (Or.inl rfl))) (fun _ _ _ _ _ => (pts_one (PW.pt (pw_and (pt_cmpR (op_notInD (hu_of hr)) (pv 0) (pv 1) (by with_unfolding_all rfl)) (pw_and1 (pt_cmpR (op_inD (hu_of hr)) (pe_dget (hu_of hr) (pv 2) (pv 0) (fun _ _ => rfl)) (pv 1) (by with_unfolding_all rfl))))))) (fun _ _ _ _ _ => (pv 0)))
      (pss_one (ps_asg (pv 10) (pg_sub (pv 9) (pe_ix (ixL (K := K)) (pv 11) (pe_op op_mod (pe_callD G_law_cell_at hr.lv rfl T.K_law_cell_at (pa_cons (pv 0) (pa_cons (pe_op op_add pe_int (pv 10)) pa_nil))) (pe_callB (lenS (K := K)) rfl T.m_len PySem.boot_len (pa_cons (pv 11) pa_nil))) (fun _ _ => rfl)) (set_dict (hu_of hr)))))))
      (pss_one (ps_ret (pe_frzD (pv 9)))))))), ?_⟩
  refine fun du hdu => ?_
  have s1 := same_new hdu (.dK [])
  have h1 : (L2.upd H du (.dK [])) du = some (.dK []) := upd_same
  generalize L2.upd H du (.dK []) = H1 at s1 h1 ⊢
  refine ⟨_, rfl, lb, rfl, ⟨_, SqL.of (s1 _ _ hb)⟩, ?_⟩
  have all9 : (upP L).length ≤ 8 := by
    have e := congrArg List.length (upP_keys L)
    rw [List.length_map, U.all.length_eq, List.length_range'] at e
    omega
  have nd := U.nodup
  refine for_list (K := K) (a := lb) (xs := xs) (fun i σ H2 => (∃ v4 v5 v6 v7 v8, σ = [some (.ref sp), some (.ref lb), some (.int (m : Int)), some (.ref du), v4, v5, v6, v7, v8, none, none, none]) ∧ Same H H2 ∧ ∃ kvs, H2 du = some (.dK kvs) ∧ UpsD kvs (upP (L.take i))) ⟨⟨_, _, _, _, _, rfl⟩, s1, [], h1, ⟨fun k u z => (by simp [upP] at z), Nat.zero_le _⟩⟩ (fun i σ H2 _ z => SqL.of (z.2.1 _ _ hb)) ?_ ?_
  · rintro i x σ H2 hx ⟨⟨v4, v5, v6, v7, v8, rfl⟩, s2, kvs, h2, D⟩
    obtain ⟨e, he, hd⟩ := (DnL.same s2 _ _ dn).get hx
    rw [List.map_map, List.getElem?_map] at he
    obtain ⟨b, hb0, rfl⟩ := Option.map_eq_some_iff.mp he
    obtain ⟨tb, ys, rfl, htb, y1, r1, e1, z1, y2, r2, e2, z2, y3, r3, e3, z3, y4, r4, e4, z4, z5⟩ := hd
    subst e1 e2 e3 e4
    have z5 : r4 = [] := z5
    subst z5
    have z1 : y1 = .int (b.u : Int) := z1
    subst z1
    obtain ⟨tk, ks, rfl, htk, dk⟩ := z4
    have ek : ks = natsL b.ks := by
      have : ∀ (l : List Nat) (ws : List V), DnL H2 (l.map fun k : Nat => PyData.int (k : Int)) ws → ws = natsL l := fun l => by
        induction l with
        | nil => intro ws z; exact z
        | cons k l ih =>
          rintro ws ⟨w1, r, rfl, z, zz⟩
          have z : w1 = .int (k : Int) := z
          rw [z, ih r zz]
          rfl
      exact this _ _ dk
    subst ek
    refine ⟨tb, _, rfl, sqT htb, rfl, _, _, rfl, _, _, rfl, _, _, rfl, _, _, rfl, rfl, ?_⟩
    refine ⟨_, rfl, tk, rfl, ⟨_, sqT htk⟩, ?_⟩
    have et : upP (L.take (i + 1)) = upP (L.take i) ++ b.ks.map fun k => (k, b.u) := by
      rw [List.take_succ, hb0, Option.toList_some]
      unfold upP
      rw [List.flatMap_append, List.flatMap_singleton]
    have pre : ∃ R, upP L = upP (L.take i) ++ (b.ks.map fun k => (k, b.u)) ++ R := by
      refine ⟨upP (L.drop (i + 1)), ?_⟩
      rw [← et]
      unfold upP
      rw [← List.flatMap_append, List.take_append_drop]
    obtain ⟨R, eR⟩ := pre
    refine for_tup (K := K) (a := tk) (xs := natsL b.ks) (fun j σ H3 => (∃ v8, σ = [some (.ref sp), some (.ref lb), some (.int (m : Int)), some (.ref du), some (.int (b.u : Int)), some y2, some y3, some (.ref tk), v8, none, none, none]) ∧ Same H H3 ∧ H3 tk = some (.tup (natsL b.ks)) ∧ ∃ kvs, H3 du = some (.dK kvs) ∧ UpsD kvs (upP (L.take i) ++ (b.ks.take j).map fun k => (k, b.u))) ⟨⟨_, rfl⟩, s2, htk, kvs, h2, by rw [List.take_zero, List.map_nil, List.append_nil]; exact D⟩ (fun j σ H3 _ z => sqT z.2.2.1) ?_ ?_
    · rintro j y σ H3 hy ⟨⟨v8, rfl⟩, s3, htk3, kvs3, h3, D3⟩
      rw [List.getElem?_map] at hy
      obtain ⟨k, hk0, rfl⟩ := Option.map_eq_some_iff.mp hy
      have nk : k ∉ (upP (L.take i) ++ (b.ks.take j).map fun k => (k, b.u)).map (·.1) := by
        have hsp : b.ks = b.ks.take j ++ k :: b.ks.drop (j + 1) := by
          obtain ⟨hj, ej⟩ := List.getElem?_eq_some_iff.mp hk0
          rw [← ej, ← List.drop_eq_getElem_cons hj, List.take_append_drop]
        have em := congrArg (List.map fun k => (k, b.u)) hsp
        rw [List.map_append, List.map_cons] at em
        have eA : upP L = (upP (L.take i) ++ (b.ks.take j).map fun k => (k, b.u)) ++ ((k, b.u) :: (((b.ks.drop (j + 1)).map fun k => (k, b.u)) ++ R)) := by
          rw [eR, em]
          simp only [List.append_assoc, List.cons_append]
        rw [eA, List.map_append, List.nodup_append] at nd
        intro z
        exact nd.2.2 k z k (by rw [List.map_cons]; exact List.mem_cons_self) rfl
      have lk : kvs3.length ≤ 8 := by
        have h1 := D3.len
        have h2 := congrArg List.length eR
        rw [List.length_append, List.length_append, List.length_map] at h2
        rw [List.length_append, List.length_map, List.length_take] at h1
        omega
      refine ⟨_, rfl, _, rfl, _, rfl, du, _, rfl, .inl ⟨kvs3, .inl (k : Int), h3, rfl, small1000 (by omega), rfl⟩, ?_⟩
      refine ⟨⟨_, rfl⟩, Same.putK s3 hdu h3 _, ?_, _, upd_same, ?_⟩
      · rw [upd_ne fun z => by rw [z, h3] at htk3; cases htk3]
        exact htk3
      · rw [List.take_succ, hk0, Option.toList_some, List.map_append, ← List.append_assoc]
        exact D3.put nk
    · rintro σ H3 ⟨⟨v8, rfl⟩, s3, htk3, kvs3, h3, D3⟩
      refine ⟨⟨_, _, _, _, _, rfl⟩, s3, kvs3, h3, ?_⟩
      rw [et]
      have : b.ks.take (natsL b.ks).length = b.ks := by rw [List.length_map, List.take_length]
      rw [this] at D3
      exact D3
  · rintro σ H2 ⟨⟨v4, v5, v6, v7, v8, rfl⟩, s2, kvs, h2, D⟩
    have lx : xs.length = L.length := by rw [← dn.length, List.length_map, List.length_map]
    rw [lx, List.take_length] at D
    refine fun dp hdp => ⟨upd_same, [(.inl 0, .int 0)], rfl, by decide, ?_⟩
    have s3 : Same H2 (L2.upd (L2.upd H2 dp (.dK [])) dp (.dK (mergeK [] [(.inl 0, .int 0)]))) := Same.putK (same_new hdp _) hdp upd_same _
    have h3 : (L2.upd (L2.upd H2 dp (.dK [])) dp (.dK (mergeK [] [(.inl 0, .int 0)]))) dp = some (.dK (ordKV [0])) := by
      rw [upd_same]
      rfl
    generalize L2.upd (L2.upd H2 dp (.dK [])) dp (.dK (mergeK [] [(.inl 0, .int 0)])) = H3 at s3 h3 ⊢
    have O0 : OrdB L m [0] := ⟨by simp, fun k hk => by rw [List.mem_singleton.mp hk]; omega, ⟨[], rfl⟩, fun k u hk hm => by
      rw [List.mem_singleton.mp hm] at hk
      have hk2 : (0 : Nat) ∈ (upP L).map (·.1) := List.mem_map.mpr ⟨_, hk, rfl⟩
      rw [upP_keys] at hk2
      have := List.mem_range'_1.mp ((U.all.mem_iff).mp hk2)
      omega⟩
    refine ⟨_, rfl, _, _, rfl, ⟨by rw [p62]; omega, by rw [p62]; omega, by rw [p62]; omega, by rw [p62]; omega⟩, ?_⟩
    have em : ((m : Int) - 1).toNat = m - 1 := by omega
    refine for_range (lo := 1) (n := ((m : Int) - 1).toNat) (fun i σ H4 => (∃ v10 v11, σ = [some (.ref sp), some (.ref lb), some (.int (m : Int)), some (.ref du), v4, v5, v6, v7, v8, some (.ref dp), v10, v11]) ∧ Same H2 H4 ∧ ∃ ord, H4 dp = some (.dK (ordKV ord)) ∧ OrdB L m ord ∧ ord.length = i + 1) ⟨⟨_, _, rfl⟩, s3, [0], h3, O0, rfl⟩ ?_ ?_
    · rintro i σ H4 hi ⟨⟨v10, v11, rfl⟩, s4, ord, h4, O, ol⟩
      rw [em] at hi
      have hu4 : H4 du = some (.dK kvs) := s4 _ _ h2
      have upv : ∀ k, 1 ≤ k → k < m → valV kvs (.inl (k : Int)) = some (.int (upAt L k : Int)) ∧ (k, upAt L k) ∈ upP L := fun k k1 km => by
        have := U.upAt k1 km
        exact ⟨D.val _ _ this, this⟩
      have memV : ∀ k : Nat, (valV (ordKV ord) (.inl (k : Int))).isSome = decide (k ∈ ord) := fun k => by
        by_cases hk : k ∈ ord
        · rw [ordKV_val hk, decide_eq_true hk]; rfl
        · rw [ordKV_no hk, decide_eq_false hk]; rfl
      refine ⟨_, rfl, _, _, rfl, ⟨by rw [p62]; omega, by rw [p62]; omega, by rw [p62]; omega, by rw [p62]; omega⟩, ?_⟩
      rw [em]
      refine lc_range (lo := 1) (k := m - 1) (fun j ys σ H5 => (∃ v, σ = [v, some (.ref dp), some (.ref du)]) ∧ H5 = H4 ∧ ys = natsL ((List.range' 1 j).filter fun k => !decide (k ∈ ord) && decide (upAt L k ∈ ord))) ⟨⟨none, rfl⟩, rfl, rfl⟩ (fun j ys σ H5 hj pv => ?_) (fun j ys σ H5 hj pv => ?_) (fun ys σ H5 pv lr hlr => ?_)
      · obtain ⟨_, _, rfl⟩ := pv
        rw [List.length_map]
        have := List.length_filter_le (fun k => !decide (k ∈ ord) && decide (upAt L k ∈ ord)) (List.range' 1 j)
        rw [List.length_range'] at this
        exact small (by omega)
      · obtain ⟨⟨v, rfl⟩, rfl, rfl⟩ := pv
        have ej : (1 : Int) + (j : Int) = ((1 + j : Nat) : Int) := by omega
        rw [ej]
        have rs : List.range' 1 (j + 1) = List.range' 1 j ++ [1 + j] := by rw [List.range'_concat, Nat.one_mul]
        obtain ⟨uv, um⟩ := upv (1 + j) (by omega) (by omega)
        refine ⟨_, rfl, _, rfl, dp, _, rfl, .inl ⟨_, .inl ((1 + j : Nat) : Int), .inl h4, rfl, rfl⟩, _, rfl, ?_⟩
        rw [memV]
        by_cases c1 : 1 + j ∈ ord
        · rw [decide_eq_true c1]
          refine iteF ?_
          refine iteF ?_
          refine ⟨⟨_, rfl⟩, rfl, ?_⟩
          rw [rs, List.filter_append, List.filter_cons, decide_eq_true c1]
          simp
        · rw [decide_eq_false c1]
          refine iteT ?_
          refine ⟨_, rfl, _, rfl, du, _, rfl, .inl ⟨kvs, .inl ((1 + j : Nat) : Int), .inl hu4, rfl, uv.symm⟩, _, rfl, dp, _, rfl, .inl ⟨_, .inl (upAt L (1 + j) : Int), .inl h4, rfl, rfl⟩, _, rfl, ?_⟩
          rw [memV]
          by_cases c2 : upAt L (1 + j) ∈ ord
          · rw [decide_eq_true c2]
            refine iteT ?_
            refine ⟨_, rfl, ⟨_, rfl⟩, rfl, ?_⟩
            rw [rs, List.filter_append, List.filter_cons, decide_eq_false c1, decide_eq_true c2]
            simp
          · rw [decide_eq_false c2]
            refine iteF ?_
            refine ⟨⟨_, rfl⟩, rfl, ?_⟩
            rw [rs, List.filter_append, List.filter_cons, decide_eq_false c1, decide_eq_false c2]
            simp
      · obtain ⟨⟨v, rfl⟩, rfl, rfl⟩ := pv
        generalize hR : ((List.range' 1 (m - 1)).filter fun k => !decide (k ∈ ord) && decide (upAt L k ∈ ord)) = R
        have ne : 0 < R.length := by
          obtain ⟨k, u, k1, km, hk, hu, huo⟩ := O.ready U (by omega)
          have eu : u = upAt L k := by
            obtain ⟨a1, a2⟩ := upv k k1 km
            have := D.val k u hu
            rw [a1] at this
            injection this with this
            injection this with this
            omega
          have : k ∈ R := by
            rw [← hR]
            refine List.mem_filter.mpr ⟨List.mem_range'_1.mpr ⟨k1, by omega⟩, ?_⟩
            rw [decide_eq_false hk, ← eu, decide_eq_true huo]
            rfl
          exact List.length_pos_of_mem this
        have s5 := same_new hlr (.lst (natsL R))
        have h5 : (L2.upd H5 lr (.lst (natsL R))) lr = some (.lst (natsL R)) := upd_same
        have h45 : (L2.upd H5 lr (.lst (natsL R))) dp = some (.dK (ordKV ord)) := s5 _ _ h4
        generalize L2.upd H5 lr (.lst (natsL R)) = H6 at s5 h5 h45 ⊢
        refine ⟨_, rfl, _, rfl, _, rfl, _, rfl, _, rfl, _, _, rfl, rfl, sp, ns, _, rfl, ?_, hl, by omega, by omega, fun c c0 c1 => ?_⟩
        · exact (s2.trans (s4.trans s5)).seq hS
        refine ⟨_, rfl, lr, _, rfl, .inl (SqL.of h5), _, _, rfl, rfl, (by rw [List.length_map]; omega), ?_⟩
        have b0 : 0 ≤ c % (((natsL R).length : Nat) : Int) := Int.emod_nonneg _ (by rw [List.length_map]; omega)
        have b1 : c % (((natsL R).length : Nat) : Int) < (((natsL R).length : Nat) : Int) := Int.emod_lt_of_pos _ (by rw [List.length_map]; omega)
        rw [List.length_map] at b0 b1
        obtain ⟨x, ex⟩ : ∃ x : Nat, c % ((R.length : Nat) : Int) = (x : Int) := ⟨(c % ((R.length : Nat) : Int)).toNat, by omega⟩
        have xl : x < R.length := by omega
        obtain ⟨k, hk⟩ : ∃ k, R[x]? = some k := ⟨_, List.getElem?_eq_getElem xl⟩
        have hkR : k ∈ R := List.mem_of_getElem? hk
        rw [← hR] at hkR
        obtain ⟨g1, g2⟩ := List.mem_filter.mp hkR
        have g3 := List.mem_range'_1.mp g1
        rw [Bool.and_eq_true] at g2
        have nk : k ∉ ord := by simpa using g2.1
        have hup : upAt L k ∈ ord := by simpa using g2.2
        have hat : atI (natsL R) (c % (((natsL R).length : Nat) : Int)) = some (.int (k : Int)) := by
          rw [List.length_map, ex]
          exact atI_nat (by rw [List.getElem?_map, hk]; rfl)
        refine ⟨lr, _, _, .int (k : Int), rfl, rfl, SqL.of h5, hat, dp, _, rfl, .inl ⟨ordKV ord, .inl (k : Int), h45, rfl, small1000 (by rw [ordKV_len]; omega), rfl⟩, ?_⟩
        have ep : putK (ordKV ord) (.inl (k : Int)) (.int (1 + (i : Int))) = ordKV (ord ++ [k]) := by
          rw [putK_new _ (ordKV_no nk), ordKV_snoc, ol]
          congr 4
          omega
        refine ⟨⟨_, _, rfl⟩, Same.putK (s4.trans s5) hdp h45 _, ord ++ [k], ?_, O.snoc nk (by omega) (fun u hu => ?_), by rw [List.length_append, ol]; rfl⟩
        · rw [upd_same]
          exact congrArg (fun z => some (HO.dK z)) ep
        · obtain ⟨a1, a2⟩ := upv k (by omega) (by omega)
          have := D.val k u hu
          rw [a1] at this
          injection this with this
          injection this with this
          have e : u = upAt L k := by omega
          rw [e]
          exact hup
    · rintro σ H4 ⟨⟨v10, v11, rfl⟩, s4, ord, h4, O, ol⟩
      refine ⟨_, rfl, dp, _, rfl, h4, fun o => ?_⟩
      refine q dp ord _ (s2.trans (Same.putK s4 hdp h4 _)) (s2.free hdp) ⟨o, upd_same⟩ (O.ok U (by omega))

end
section
variable {P : Program} {w : World} {K : PySem.W.Frag} {mg : Str → Option Value} {base : Heap} {a : Adr} {d : Fds}
theorem ok_law_moved_bough (T : Txt K mg a d) : FnOk P w K mg base CX0 1 a.f_law_moved_bough d.f_law_moved_bough ["_law_bough", "_law_new"] spMovedB := by
  refine T.K_law_moved_bough.ok sc_law_moved_bough (fun vs H Q E h => ?_) (fun cdv A outer s H vs Q E hr h => ?_)
  · obtain ⟨v, b, bg, ord, rfl, _⟩ := h
    rfl
  obtain ⟨v, b, bg, ord, rfl, hd, O, nd, hu, hks, ndk, few, q⟩ := h
  obtain ⟨tb, ys, rfl, htb, y1, r1, e1, z1, y2, r2, e2, z2, y3, r3, e3, z3, y4, r4, e4, z4, z5⟩ := hd
  subst e1 e2 e3 e4
  have z5 : r4 = [] := z5
  subst z5
  have z1 : y1 = .int (bg.u : Int) := z1
  subst z1
  have z2 : y2 = .int bg.lo := z2
  subst z2
  have z3 : y3 = .int bg.hi := z3
  subst z3
  obtain ⟨tk, ks, rfl, htk, dk⟩ := z4
  have ek : ks = natsL bg.ks := by
    have : ∀ (l : List Nat) (ws : List V), DnL H (l.map fun k : Nat => PyData.int (k : Int)) ws → ws = natsL l := fun l => by
      induction l with
      | nil => intro ws z; exact z
      | cons k l ih =>
        rintro ws ⟨w1, r, rfl, z, zz⟩
        have z : w1 = .int (k : Int) := z
        rw [z, ih r zz]
        rfl
    exact this _ _ dk
  subst ek
  have at2 : ∀ {x y z : V} {r : List V}, atI (x :: y :: z :: r) 2 = some z := fun {x y z r} => atI_nat (j := 2) rfl
  have at3 : ∀ {x y z u : V} {r : List V}, atI (x :: y :: z :: u :: r) 3 = some u := fun {x y z u r} => atI_nat (j := 3) rfl
  refine ⟨_, (pss_one (ps_ret (pe_tup (pa_cons (pe_dget (hu_of hr) (pv 1) (pe_ix (ixT (K := K)) (pv 0) pe_int (fun _ _ => rfl)) (fun _ _ => rfl)) (pa_cons (pe_ix (ixT (K := K)) (pv 0) pe_int (fun _ _ => rfl)) (pa_cons (pe_ix (ixT (K := K)) (pv 0) pe_int (fun _ _ => rfl)) (pa_cons (pe_callTy call_tuple_of rfl T.m_tuple PyProof.Rows.boot_tuple (pa_cons (pe_callB call_sortedB rfl T.m_sorted PyProof.Rows.boot_sorted (pa_cons (pe_lc (sc0 := defScope s_law_moved_bough) (XN := ["_law_bough", "_law_new"]) (N' := ["_law_k", "_law_new"]) (n := 1) (kp := [1]) rfl (piT (K := K) (pe_ix (ixT (K := K)) (pv 0) pe_int (fun _ _ => rfl))) rfl rfl (by decide +kernel) (fun _ _ _ _ _ => (pg_name (i := 0) (by show List.Nodup (["_law_k", "_law_new"] : List Str); decide +kernel) rfl (Or.inl rfl))) (fun _ _ _ _ _ => pts_nil) (fun _ _ _ _ _ => (pe_dget (hu_of hr) (pv 1) (pv 0) (fun _ _ => rfl)))) pa_nil)) pa_nil)) pa_nil))))))), ?_⟩
  refine ⟨_, rfl, _, rfl, tb, _, _, _, rfl, rfl, sqT htb, at0, b, _, rfl, O.get hu, _, rfl, tb, _, _, _, rfl, rfl, sqT htb, at1, _, rfl, tb, _, _, _, rfl, rfl, sqT htb, at2, _, rfl, tb, _, _, _, rfl, rfl, sqT htb, at3, tk, rfl, ⟨_, sqT htk⟩, ?_⟩
  refine lc_tup (K := K) (a := tk) (xs := natsL bg.ks) (fun i ys σ H2 => (∃ v, σ = [v, some (.ref b)]) ∧ H2 = H ∧ ys = natsL ((bg.ks.take i).map (mv ord))) ⟨⟨none, rfl⟩, rfl, rfl⟩ (fun i ys σ H2 hi pv => ?_) (fun i ys σ H2 hi pv => ?_) (fun i x ys σ H2 hx pv => ?_) (fun ys σ H2 pv p hp => ?_)
  · obtain ⟨_, _, rfl⟩ := pv
    rw [List.length_map, List.length_map, List.length_take]
    exact small (by omega)
  · rw [pv.2.1]; exact sqT htk
  · obtain ⟨⟨w0, rfl⟩, rfl, rfl⟩ := pv
    rw [List.getElem?_map] at hx
    obtain ⟨k, hk, rfl⟩ := Option.map_eq_some_iff.mp hx
    refine ⟨_, rfl, _, rfl, b, _, rfl, O.get (hks k (List.mem_of_getElem? hk)), ⟨_, rfl⟩, rfl, ?_⟩
    rw [List.take_succ, hk, Option.toList_some, List.map_append]
    exact (List.map_append (l₁ := (bg.ks.take i).map (mv ord)) (l₂ := [mv ord k])).symm
  · obtain ⟨⟨w0, rfl⟩, rfl, rfl⟩ := pv
    have et : bg.ks.take (natsL bg.ks).length = bg.ks := by rw [List.length_map, List.take_length]
    rw [et]
    have s1 := same_new hp (.lst (natsL (bg.ks.map (mv ord))))
    have h1 : (L2.upd H2 p (.lst (natsL (bg.ks.map (mv ord))))) p = some (.lst (natsL (bg.ks.map (mv ord)))) := upd_same
    generalize L2.upd H2 p (.lst (natsL (bg.ks.map (mv ord)))) = H3 at s1 h1 ⊢
    have eV : (((bg.ks.map (mv ord)).map fun k : Nat => (k : Int)).map V.int) = natsL (bg.ks.map (mv ord)) := natsV _
    refine ⟨p, (bg.ks.map (mv ord)).map (fun k : Nat => (k : Int)), rfl, (by rw [eV]; exact SqL.of h1), fun ms g1 g2 l3 h3 => ?_⟩
    obtain ⟨M, rfl, pm, pw⟩ := nats_of_ints g1 g2 (mv_map_nodup ndk hks)
    rw [natsV]
    have s2 := same_new h3 (.lst (natsL M))
    have h2 : (L2.upd H3 l3 (.lst (natsL M))) l3 = some (.lst (natsL M)) := upd_same
    generalize L2.upd H3 l3 (.lst (natsL M)) = H4 at s2 h2 ⊢
    refine ⟨l3, _, rfl, .inl ⟨SqL.of h2, fun t ht => ?_⟩⟩
    have s3 := same_new ht (.tup (natsL M))
    have h4 : (L2.upd H4 t (.tup (natsL M))) t = some (.tup (natsL M)) := upd_same
    generalize L2.upd H4 t (.tup (natsL M)) = H5 at s3 h4 ⊢
    refine ⟨small (by show 4 ≤ 1000; decide), fun tt htt => ?_⟩
    have s4 := same_new htt (.tup [.int (mv ord bg.u : Int), .int bg.lo, .int bg.hi, .ref t])
    refine q (.ref tt) M _ (((s1.trans s2).trans s3).trans s4) pm pw ⟨tt, _, rfl, upd_same, _, _, rfl, rfl, _, _, rfl, rfl, _, _, rfl, rfl, _, _, rfl, ⟨t, _, rfl, s4 _ _ h4, dn_nats M⟩, rfl⟩

end
section
variable {P : Program} {w : World} {K : PySem.W.Frag} {mg : Str → Option Value} {base : Heap} {a : Adr} {d : Fds}
theorem ok_law_moved_tie (T : Txt K mg a d) : FnOk P w K mg base CX0 1 a.f_law_moved_tie d.f_law_moved_tie ["_law_tie_here", "_law_new"] spMovedT := by
  refine T.K_law_moved_tie.ok sc_law_moved_tie (fun vs H Q E h => ?_) (fun cdv A outer s H vs Q E hr h => ?_)
  · obtain ⟨v, b, t, m, ord, rfl, _⟩ := h
    rfl
  obtain ⟨v, b, t, m, ord, rfl, hd, ok, m9, nb, O, mem, q⟩ := h
  have needs_most : ¬ V.str ("needs" : Str) = V.str ("most" : Str) := vs_ne (by decide +kernel)
  have bans_most : ¬ V.str ("bans" : Str) = V.str ("most" : Str) := vs_ne (by decide +kernel)
  refine ⟨_, (pss_cons (ps_if (pt_cmpR op_eq (pe_ix (ixT (K := K)) (pv 0) pe_int (fun _ _ => rfl)) pe_str (nomark _)) (pss_one (ps_ret (pe_tup (pa_cons pe_str (pa_cons (pe_ix (ixT (K := K)) (pv 0) pe_int (fun _ _ => rfl)) (pa_cons (pe_callTy call_tuple_of rfl T.m_tuple PyProof.Rows.boot_tuple (pa_cons (pe_callB (call_sortedT (K := K)) rfl T.m_sorted PyProof.Rows.boot_sorted (pa_cons (pe_lc (sc0 := defScope s_law_moved_tie) (XN := ["_law_tie_here", "_law_new"]) (N' := ["_law_k", "_law_number", "_law_new"]) (n := 2) (kp := [1]) rfl (piT (K := K) (pe_ix (ixT (K := K)) (pv 0) pe_int (fun _ _ => rfl))) rfl rfl (by decide +kernel) (fun _ _ _ _ _ => (pgT (K := K) (n := 2) rfl (pgs_cons (pg_name (i := 0) (by show List.Nodup (["_law_k", "_law_number", "_law_new"] : List Str); decide +kernel) rfl (Or.inl rfl)) (pgs_cons (pg_name (i := 1) (by show List.Nodup (["_law_k", "_law_number", "_law_new"] : List Str); decide +kernel) rfl (Or.inl rfl)) pgs_nil)))) (fun _ _ _ _ _ => pts_nil) (fun _ _ _ _ _ => (pe_tup (pa_cons (pe_dget (hu_of hr) (pv 2) (pv 0) (fun _ _ => rfl)) (pa_cons (pv 1) pa_nil))))) pa_nil)) pa_nil)) pa_nil)))))) pss_nil)
      (pss_one (ps_ret (pe_tup (pa_cons (pe_ix (ixT (K := K)) (pv 0) pe_int (fun _ _ => rfl)) (pa_cons (pe_dget (hu_of hr) (pv 1) (pe_ix (ixT (K := K)) (pv 0) pe_int (fun _ _ => rfl)) (fun _ _ => rfl)) (pa_cons (pe_dget (hu_of hr) (pv 1) (pe_ix (ixT (K := K)) (pv 0) pe_int (fun _ _ => rfl)) (fun _ _ => rfl)) pa_nil))))))), ?_⟩
  cases t with
  | bough u lo hi ks => exact absurd rfl (nb u lo hi ks)
  | needs x y =>
    obtain ⟨p, rfl, hp⟩ := at_word hd
    refine ⟨_, rfl, p, _, _, _, rfl, rfl, sqT hp, at0, rfl, _, rfl, ?_⟩
    refine iteDN needs_most ?_
    refine ⟨_, rfl, p, _, _, _, rfl, rfl, sqT hp, at0, _, rfl, _, rfl, p, _, _, _, rfl, rfl, sqT hp, at1, b, _, rfl, O.get (mem x ok.1), _, rfl, _, rfl, p, _, _, _, rfl, rfl, sqT hp, at2, b, _, rfl, O.get (mem y ok.2.1), small (by show 3 ≤ 1000; decide), fun tt htt => ?_⟩
    exact q (.ref tt) _ _ (same_new htt _) rfl ⟨tt, _, rfl, upd_same, _, _, rfl, rfl, _, _, rfl, rfl, _, _, rfl, rfl, rfl⟩
  | bans x y =>
    obtain ⟨p, rfl, hp⟩ := at_word hd
    refine ⟨_, rfl, p, _, _, _, rfl, rfl, sqT hp, at0, rfl, _, rfl, ?_⟩
    refine iteDN bans_most ?_
    refine ⟨_, rfl, p, _, _, _, rfl, rfl, sqT hp, at0, _, rfl, _, rfl, p, _, _, _, rfl, rfl, sqT hp, at1, b, _, rfl, O.get (mem x ok.1), _, rfl, _, rfl, p, _, _, _, rfl, rfl, sqT hp, at2, b, _, rfl, O.get (mem y ok.2.1), small (by show 3 ≤ 1000; decide), fun tt htt => ?_⟩
    exact q (.ref tt) _ _ (same_new htt _) rfl ⟨tt, _, rfl, upd_same, _, _, rfl, rfl, _, _, rfl, rfl, _, _, rfl, rfl, rfl⟩
  | most top ps =>
    obtain ⟨p, pk, xs, rfl, hp, hpk, dn⟩ := at_pairs hd
    obtain ⟨ne, lt, pw, pl⟩ := ok
    have lx : xs.length = ps.length := by rw [← dn.length, List.length_map]
    refine ⟨_, rfl, p, _, _, _, rfl, rfl, sqT hp, at0, rfl, _, rfl, ?_⟩
    refine iteD rfl ?_
    refine ⟨_, rfl, p, _, _, _, rfl, rfl, sqT hp, at1, _, rfl, p, _, _, _, rfl, rfl, sqT hp, at2, pk, rfl, ⟨_, sqT hpk⟩, ?_⟩
    refine lc_tup (K := K) (a := pk) (xs := xs) (fun i ys σ H2 => (∃ v v', σ = [v, v', some (.ref b)]) ∧ Same H H2 ∧ DnL H2 (((ps.take i).map fun p => (mv ord p.1, p.2)).map pairD) ys) ⟨⟨none, none, rfl⟩, Same.refl _, (rfl : ([] : List V) = [])⟩ (fun i ys σ H2 hi pv => ?_) (fun i ys σ H2 hi pv => ?_) (fun i x ys σ H2 hx pv => ?_) (fun ys σ H2 pv lz hlz => ?_)
    · obtain ⟨_, _, d2⟩ := pv
      have := d2.length
      rw [List.length_map, List.length_map, List.length_take] at this
      exact small (by omega)
    · exact sqT (pv.2.1 _ _ hpk)
    · obtain ⟨⟨v0, v1, rfl⟩, s2, d2⟩ := pv
      obtain ⟨e, he, hd⟩ := (DnL.same s2 _ _ dn).get hx
      rw [List.getElem?_map] at he
      obtain ⟨f, hf, rfl⟩ := Option.map_eq_some_iff.mp he
      obtain ⟨tp, ws, rfl, htp, x1, r1, ex1, z1, x2, r2, ex2, z2, z3⟩ := hd
      have z1 : x1 = .int (f.1 : Int) := z1
      have z2 : x2 = .int f.2 := z2
      have z3 : r2 = [] := z3
      subst ex1 ex2 z1 z2 z3
      refine ⟨tp, _, rfl, sqT htp, rfl, _, _, rfl, _, _, rfl, rfl, ?_⟩
      refine ⟨_, rfl, _, rfl, b, _, rfl, (O.same s2).get (mem f.1 (lt f (List.mem_of_getElem? hf))), _, rfl, small (by show 2 ≤ 1000; decide), fun tn htn => ?_⟩
      have s3 := same_new htn (.tup [.int (mv ord f.1 : Int), .int f.2])
      refine ⟨⟨_, _, rfl⟩, s2.trans s3, ?_⟩
      rw [List.take_succ, hf, Option.toList_some, List.map_append, List.map_append]
      exact (DnL.same s3 _ _ d2).append ⟨.ref tn, [], rfl, ⟨tn, _, rfl, upd_same, _, _, rfl, rfl, _, _, rfl, rfl, rfl⟩, rfl⟩
    · obtain ⟨⟨v0, v1, rfl⟩, s2, d2⟩ := pv
      rw [lx, List.take_length] at d2
      have s3 := same_new hlz (.lst ys)
      have h3 : (L2.upd H2 lz (.lst ys)) lz = some (.lst ys) := upd_same
      have d3 := DnL.same s3 _ _ d2
      have s03 := s2.trans s3
      generalize L2.upd H2 lz (.lst ys) = H3 at s3 h3 d3 s03 ⊢
      have ndk : ((ps.map fun p => (mv ord p.1, p.2)).map (·.1)).Nodup := by
        have e : (ps.map fun p => (mv ord p.1, p.2)).map (·.1) = (ps.map (·.1)).map (mv ord) := by rw [List.map_map, List.map_map]; rfl
        rw [e]
        exact mv_map_nodup (List.nodup_iff_pairwise_ne.mpr (pw.imp fun {a b} h => by omega)) fun k hk => by
          obtain ⟨f, hf, rfl⟩ := List.mem_map.mp hk
          exact mem f.1 (lt f hf)
      obtain ⟨es, ey, tby, e64, go⟩ := pairs_sort d3 ndk (by rw [List.length_map]; omega)
      refine ⟨lz, es, rfl, SqL.of (by rw [h3, ey]), tby, e64, fun es' pe pwe l4 hl4 => ?_⟩
      obtain ⟨qs, q1, q2, q3⟩ := go es' pe pwe
      have s4 := same_new hl4 (.lst (es'.map fun e => V.ref e.2))
      have h4 : (L2.upd H3 l4 (.lst (es'.map fun e => V.ref e.2))) l4 = some (.lst (es'.map fun e => V.ref e.2)) := upd_same
      have d4 := DnL.same s4 _ _ q3
      generalize L2.upd H3 l4 (.lst (es'.map fun e => V.ref e.2)) = H4 at s4 h4 d4 ⊢
      refine ⟨l4, _, rfl, .inl ⟨SqL.of h4, fun t ht => ?_⟩⟩
      have s5 := same_new ht (.tup (es'.map fun e => V.ref e.2))
      have h5 : (L2.upd H4 t (.tup (es'.map fun e => V.ref e.2))) t = some (.tup (es'.map fun e => V.ref e.2)) := upd_same
      have d5 := DnL.same s5 _ _ d4
      generalize L2.upd H4 t (.tup (es'.map fun e => V.ref e.2)) = H5 at s5 h5 d5 ⊢
      refine ⟨small (by show 3 ≤ 1000; decide), fun tt htt => ?_⟩
      have s6 := same_new htt (.tup [.str ("most" : Str), .int top, .ref t])
      exact q (.ref tt) (.most top qs) _ (((s03.trans s4).trans s5).trans s6) ⟨qs, rfl, q1, q2⟩ ⟨tt, _, rfl, upd_same, _, _, rfl, rfl, _, _, rfl, rfl, _, _, rfl, ⟨t, _, rfl, s6 _ _ h5, DnL.same s6 _ _ d5⟩, rfl⟩

end
section
variable {P : Program} {w : World} {K : PySem.W.Frag} {mg : Str → Option Value} {base : Heap} {a : Adr} {d : Fds}
theorem ok_law_by (T : Txt K mg a d) : FnOk P w K mg base CX0 1 a.f_law_by d.f_law_by ["_law_some", "_law_new"] spBy := by
  refine T.K_law_by.ok sc_law_by (fun vs H Q E h => ?_) (fun cdv A outer s H vs Q E hr h => ?_)
  · obtain ⟨s, b, ord, rfl, _⟩ := h
    rfl
  obtain ⟨s, b, ord, rfl, O, nd, o9, q⟩ := h
  obtain ⟨o, ho⟩ := id O
  have kl := ordKV_len ord
  refine ⟨_, (pss_one (ps_ret (pe_callB (call_sum_ints rfl) rfl T.m_sum PyProof.Rows.boot_sum (pa_cons (pe_lc (sc0 := defScope s_law_by) (XN := ["_law_some", "_law_new"]) (N' := ["_law_k", "_law_new", "_law_some"]) (n := 1) (kp := [1, 0]) rfl (pi_dict (pv 1)) rfl rfl (by decide +kernel) (fun _ _ _ _ _ => (pg_name (i := 0) (by show List.Nodup (["_law_k", "_law_new", "_law_some"] : List Str); decide +kernel) rfl (Or.inl rfl))) (fun _ _ _ _ _ => (pts_one (pt_cmpR op_eq (pe_op op_and (pe_op op_shr (pv 2) (pv 0)) pe_int) pe_int (nomark _)))) (fun _ _ _ _ _ => (pe_op op_shl pe_int (pe_dget (hu_of hr) (pv 1) (pv 0) (fun _ _ => rfl))))) pa_nil)))), ?_⟩
  refine ⟨_, rfl, b, o, ordKV ord, rfl, ho, ?_⟩
  refine lc_dict (a := b) (o := o) (kvs := ordKV ord) (fun i ys σ H2 => (∃ v, σ = [v, some (.ref b), some (.int (s : Int))]) ∧ H2 = H ∧ ys = (((List.range i).filter fun j => s.testBit (ord.getD j 0)).map fun j => ((2 ^ j : Nat) : Int)).map V.int) ⟨⟨none, rfl⟩, rfl, rfl⟩ (fun i ys σ H2 hi pv => ?_) (fun i ys σ H2 hi pv => ?_) (fun i k v ys σ H2 hx pv => ?_) (fun ys σ H2 pv p hp => ?_)
  · obtain ⟨_, _, rfl⟩ := pv
    rw [List.length_map, List.length_map]
    have := List.length_filter_le (fun j => s.testBit (ord.getD j 0)) (List.range i)
    rw [List.length_range] at this
    exact small (by omega)
  · rw [pv.2.1]; exact ho
  · obtain ⟨⟨w0, rfl⟩, rfl, rfl⟩ := pv
    obtain ⟨x, hx0, rfl, rfl⟩ := ordKV_at hx
    have hg : ord.getD i 0 = x := by rw [List.getD_eq_getElem?_getD, hx0]; rfl
    have hi : i < ord.length := (List.getElem?_eq_some_iff.mp hx0).1
    refine ⟨_, rfl, _, rfl, _, _, rfl, rfl, Int.natCast_nonneg x, _, _, rfl, rfl, rfl, _, rfl, ?_⟩
    show if decide (V.int (Builtin.bitAnd ((s : Int) / 2 ^ ((x : Nat) : Int).toNat) 1) = V.int 1) = true then _ else _
    rw [dec_shr1]
    cases hb : s.testBit x
    · refine iteF ⟨⟨_, rfl⟩, rfl, ?_⟩
      rw [List.range_succ, List.filter_append, List.filter_cons, hg, hb]
      simp
    · refine iteT ?_
      have hv := O.get (List.mem_of_getElem? hx0)
      rw [mv_nodup nd hx0] at hv
      refine ⟨_, rfl, _, rfl, b, _, rfl, hv, _, _, rfl, rfl, ⟨by omega, by omega, by decide⟩, ⟨_, rfl⟩, rfl, ?_⟩
      rw [List.range_succ, List.filter_append, List.filter_cons, hg, hb, List.map_append, List.map_append]
      congr 1
      show [V.int (1 * 2 ^ ((i : Nat) : Int).toNat)] = [V.int ((2 ^ i : Nat) : Int)]
      rw [Int.toNat_natCast, Int.one_mul, Int.natCast_pow]
      rfl
  · obtain ⟨⟨w0, rfl⟩, rfl, rfl⟩ := pv
    rw [kl]
    refine ⟨p, _, rfl, SqL.of upd_same, ?_⟩
    rw [bits_sum]
    exact q _ (same_new hp _)

end
section
variable {P : Program} {w : World} {K : PySem.W.Frag} {mg : Str → Option Value} {base : Heap} {a : Adr} {d : Fds}
theorem ok_law (T : Txt K mg a d) : FnOk P w K mg base CX0 9 a.f_law d.f_law ["_law_script"] (spLaw K) := by
  have G_law_many := ok_law_many (P := P) (w := w) (base := base) T
  have G_law_boughs := ok_law_boughs (P := P) (w := w) (base := base) T
  have G_law_cross := ok_law_cross (P := P) (w := w) (base := base) T
  have G_law_order := ok_law_order (P := P) (w := w) (base := base) T
  have G_wood_of := ok_wood_of (P := P) (w := w) (base := base) T
  have G_law_moved_bough := ok_law_moved_bough (P := P) (w := w) (base := base) T
  have G_law_moved_tie := ok_law_moved_tie (P := P) (w := w) (base := base) T
  have G_law_cell_at := ok_law_cell_at (P := P) (w := w) (base := base) T
  have G_is_ware := ok_is_ware (P := P) (w := w) (base := base) T
  have G_law_by := ok_law_by (P := P) (w := w) (base := base) T
  have G_law_stand := ok_law_stand (P := P) (w := w) (base := base) T
  have G_keeps := ok_keeps (P := P) (w := w) (base := base) T
  have G_sure_broken := ok_sure_broken (P := P) (w := w) (base := base) T
  have G_sure_kept := ok_sure_kept (P := P) (w := w) (base := base) T
  have G_beneath := ok_beneath (P := P) (w := w) (base := base) T
  have G_up_of := ok_up_of (P := P) (w := w) (base := base) T
  refine T.K_law.ok sc_law (fun vs H Q E h => ?_) (fun cdv A outer s H vs Q E hr h => ?_)
  · obtain ⟨p, ns, rfl, _⟩ := h
    rfl
  obtain ⟨sp, ns, rfl, hS, hl, q⟩ := h
  refine ⟨_, (pss_cons (ps_set (i := 1) sc_law.nd rfl (Or.inl rfl) (pe_callD G_law_many hr.lv rfl T.K_law_many (pa_cons (pv 0) pa_nil)))
      (pss_cons (ps_set (i := 2) sc_law.nd rfl (Or.inl rfl) (pe_callD G_law_boughs hr.lv rfl T.K_law_boughs (pa_cons (pv 0) (pa_cons (pv 1) pa_nil))))
      (pss_cons (ps_set (i := 3) sc_law.nd rfl (Or.inl rfl) (pe_callD G_law_cross hr.lv rfl T.K_law_cross (pa_cons (pv 0) (pa_cons (pv 1) pa_nil))))
      (pss_cons (ps_set (i := 4) sc_law.nd rfl (Or.inr rfl) (pe_callD G_law_order hr.lv rfl T.K_law_order (pa_cons (pv 0) (pa_cons (pv 2) (pa_cons (pv 1) pa_nil)))))
      (pss_cons (ps_set (i := 5) sc_law.nd rfl (Or.inl rfl) (pe_callD G_wood_of hr.lv rfl T.K_wood_of (pa_cons (pv 1) (pa_cons (pe_callTy call_list_of rfl T.m_list PyProof.Rows.boot_list (pa_cons (pv 2) pa_nil)) (pa_cons (pe_callTy call_list_of rfl T.m_list PyProof.Rows.boot_list (pa_cons (pv 3) pa_nil)) pa_nil)))))
      (pss_cons (ps_setLc (i := 6) sc_law.nd rfl rfl rfl (sc0 := defScope s_law) (XN := ["_law_script", "_law_many_here", "_law_boughs_here", "_law_cross_here", "_law_new", "_law_wood", "_law_branches", "_law_across", "_law_other", "_law_k", "_law_some", "_law_yes", "_law_no", "_law_tie_here", "_law_beside"]) (N' := ["_law_bough", "_law_new"]) (n := 1) (kp := [4]) rfl (piL (K := K) (pv 2)) rfl rfl (by decide +kernel) (fun _ _ _ _ _ => (pg_name (i := 0) (by show List.Nodup (["_law_bough", "_law_new"] : List Str); decide +kernel) rfl (Or.inl rfl))) (fun _ _ _ _ _ => pts_nil) (fun _ _ _ _ _ => (pe_callD G_law_moved_bough hr.lv rfl T.K_law_moved_bough (pa_cons (pv 0) (pa_cons (pv 1) pa_nil)))))
      (pss_cons (ps_setLc (i := 7) sc_law.nd rfl rfl rfl (sc0 := defScope s_law) (XN := ["_law_script", "_law_many_here", "_law_boughs_here", "_law_cross_here", "_law_new", "_law_wood", "_law_branches", "_law_across", "_law_other", "_law_k", "_law_some", "_law_yes", "_law_no", "_law_tie_here", "_law_beside"]) (N' := ["_law_tie_here", "_law_new"]) (n := 1) (kp := [4]) rfl (piL (K := K) (pv 3)) rfl rfl (by decide +kernel) (fun _ _ _ _ _ => (pg_name (i := 0) (by show List.Nodup (["_law_tie_here", "_law_new"] : List Str); decide +kernel) rfl (Or.inl rfl))) (fun _ _ _ _ _ => pts_nil) (fun _ _ _ _ _ => (pe_callD G_law_moved_tie hr.lv rfl T.K_law_moved_tie (pa_cons (pv 0) (pa_cons (pv 1) pa_nil)))))
      (pss_cons (ps_set (i := 8) sc_law.nd rfl (Or.inl rfl) (pe_callD G_wood_of hr.lv rfl T.K_wood_of (pa_cons (pv 1) (pa_cons (pe_revL (pv 6) (pe_un un_neg pe_int)) (pa_cons (pe_op op_cat (pe_slice sl_list (pv 7) (po_some pe_int) po_none) (pe_slice sl_list (pv 7) po_none (po_some pe_int))) pa_nil)))))
      (pss_cons (ps_for PassesOwn.never rfl (pi_range1 rfl T.m_range (pa_cons pe_int pa_nil)) (pg_name (i := 9) sc_law.nd rfl (Or.inl rfl)) (pss_cons (ps_set (i := 10) sc_law.nd rfl (Or.inl rfl) (pe_op op_or (pe_op op_mod (pe_op op_fdiv (pe_callD G_law_cell_at hr.lv rfl T.K_law_cell_at (pa_cons (pv 0) (pa_cons (pe_op op_add pe_int (pe_op op_mod (pv 9) pe_int)) pa_nil))) (pe_op op_add (pv 9) pe_int)) (pe_op op_shl pe_int (pv 1))) pe_int))
      (pss_one (ps_if (pt_cmpR op_ne (pe_callD G_is_ware hr.lv rfl T.K_is_ware (pa_cons (pv 5) (pa_cons (pv 10) pa_nil))) (pe_callD G_is_ware hr.lv rfl T.K_is_ware (pa_cons (pv 8) (pa_cons (pe_callD G_law_by hr.lv rfl T.K_law_by (pa_cons (pv 10) (pa_cons (pv 4) pa_nil))) pa_nil))) (nomark _)) (pss_one (ps_ret pe_bl)) pss_nil))))
      (pss_cons (ps_for PassesOwn.never rfl (pi_range1 rfl T.m_range (pa_cons pe_int pa_nil)) (pg_name (i := 9) sc_law.nd rfl (Or.inl rfl)) (pss_cons (ps_asg (pe_callD G_law_stand hr.lv rfl T.K_law_stand (pa_cons (pv 0) (pa_cons (pv 1) (pa_cons (pv 9) pa_nil)))) (pgT (K := K) (n := 2) rfl (pgs_cons (pg_name (i := 11) sc_law.nd rfl (Or.inl rfl)) (pgs_cons (pg_name (i := 12) sc_law.nd rfl (Or.inl rfl)) pgs_nil))))
      (pss_one (ps_for PassesOwn.never rfl (pi_zipL rfl T.m_zip (pa_cons (pe_op op_cat (pv 2) (pv 3)) (pa_cons (pe_op op_cat (pv 6) (pv 7)) pa_nil))) (pgT (K := K) (n := 2) rfl (pgs_cons (pg_name (i := 13) sc_law.nd rfl (Or.inl rfl)) (pgs_cons (pg_name (i := 14) sc_law.nd rfl (Or.inl rfl)) pgs_nil))) (pss_cons (ps_if (pt_cmpR op_ne (pe_callD G_keeps hr.lv rfl T.K_keeps (pa_cons (pv 13) (pa_cons (pv 11) pa_nil))) (pe_callD G_keeps hr.lv rfl T.K_keeps (pa_cons (pv 14) (pa_cons (pe_callD G_law_by hr.lv rfl T.K_law_by (pa_cons (pv 11) (pa_cons (pv 4) pa_nil))) pa_nil))) (nomark _)) (pss_one (ps_ret pe_bl)) pss_nil)
      (pss_cons (ps_if (pt_cmpR op_ne (pe_callD G_sure_broken hr.lv rfl T.K_sure_broken (pa_cons (pv 13) (pa_cons (pv 11) (pa_cons (pv 12) pa_nil)))) (pe_callD G_sure_broken hr.lv rfl T.K_sure_broken (pa_cons (pv 14) (pa_cons (pe_callD G_law_by hr.lv rfl T.K_law_by (pa_cons (pv 11) (pa_cons (pv 4) pa_nil))) (pa_cons (pe_callD G_law_by hr.lv rfl T.K_law_by (pa_cons (pv 12) (pa_cons (pv 4) pa_nil))) pa_nil)))) (nomark _)) (pss_one (ps_ret pe_bl)) pss_nil)
      (pss_one (ps_if (pt_cmpR op_ne (pe_callD G_sure_kept hr.lv rfl T.K_sure_kept (pa_cons (pv 13) (pa_cons (pv 11) (pa_cons (pv 12) pa_nil)))) (pe_callD G_sure_kept hr.lv rfl T.K_sure_kept (pa_cons (pv 14) (pa_cons (pe_callD G_law_by hr.lv rfl T.K_law_by (pa_cons (pv 11) (pa_cons (pv 4) pa_nil))) (pa_cons (pe_callD G_law_by hr.lv rfl T.K_law_by (pa_cons (pv 12) (pa_cons (pv 4) pa_nil))) pa_nil)))) (nomark _)) (pss_one (ps_ret pe_bl)) pss_nil))))))))
      (pss_cons (ps_for PassesOwn.never rfl (pi_range1 rfl T.m_range (pa_cons (pv 1) pa_nil)) (pg_name (i := 9) sc_law.nd rfl (Or.inl rfl)) (pss_cons (ps_if (pt_cmpR op_ne (pe_callD G_law_by hr.lv rfl T.K_law_by (pa_cons (pe_callD G_beneath hr.lv rfl T.K_beneath (pa_cons (pv 5) (pa_cons (pv 9) pa_nil))) (pa_cons (pv 4) pa_nil))) (pe_callD G_beneath hr.lv rfl T.K_beneath (pa_cons (pv 8) (pa_cons (pe_dget (hu_of hr) (pv 4) (pv 9) (fun _ _ => rfl)) pa_nil))) (nomark _)) (pss_one (ps_ret pe_bl)) pss_nil)
      (pss_one (ps_if (PW.pt (pw_and (pt_cmpR op_gt (pv 9) pe_int (nomark _)) (pw_and1 (pt_cmpR op_ne (pe_dget (hu_of hr) (pv 4) (pe_callD G_up_of hr.lv rfl T.K_up_of (pa_cons (pv 5) (pa_cons (pv 9) pa_nil))) (fun _ _ => rfl)) (pe_callD G_up_of hr.lv rfl T.K_up_of (pa_cons (pv 8) (pa_cons (pe_dget (hu_of hr) (pv 4) (pv 9) (fun _ _ => rfl)) pa_nil))) (nomark _))))) (pss_one (ps_ret pe_bl)) pss_nil))))
      (pss_one (ps_ret pe_bl))))))))))))), ?_⟩
  refine ⟨_, rfl, sp, ns, rfl, hS, hl, fun mI m1' m9' => ?_⟩
  obtain ⟨m, rfl⟩ : ∃ m : Nat, mI = (m : Int) := ⟨mI.toNat, by omega⟩
  have m1 : 1 ≤ m := by omega
  have m9 : m ≤ 9 := by omega
  refine ⟨_, rfl, _, rfl, sp, ns, m, rfl, hS, hl, m1', m9', fun lb bs xs H1 s1 hb nlb dnb G b8 flb => ?_⟩
  refine ⟨_, rfl, _, rfl, sp, ns, m, rfl, s1.seq hS, hl, m1', m9', fun lc cs ys H2 s2 hc nlc dnc gc c8 flc => ?_⟩
  obtain ⟨L, eL, okb⟩ := bgs_of G.each
  have eL' : bs = (L.map Bg.tie).map Tie.toD := by rw [eL, List.map_map]; rfl
  subst eL'
  obtain ⟨C, eC, okc⟩ := list_ties (P := fun t => t.Ok m ∧ ∀ u lo hi ks, t ≠ .bough u lo hi ks) (l := cs) fun x hx => tie_of_cross (gc x hx).1
  subst eC
  have U := GoodB.ups G m1 okb
  have lL : L.length ≤ 8 := by rw [List.length_map, List.length_map] at b8; exact b8
  have lC : C.length ≤ 8 := by rw [List.length_map] at c8; exact c8
  have lxs : xs.length = L.length := by rw [← dnb.length, List.length_map, List.length_map]
  have lys : ys.length = C.length := by rw [← dnc.length, List.length_map]
  have okL : ∀ b ∈ L, b.tie.Ok m := fun b hb => (okb b hb).toBoughOkW
  refine ⟨_, rfl, _, rfl, _, rfl, sp, lb, ns, L, xs, m, rfl, (s1.trans s2).seq hS, hl, s2 _ _ hb, DnL.same s2 _ _ dnb, U, m1, m9, fun dp ord H3 s3 ndp O3 ok3 => ?_⟩
  have inO : ∀ k, k < m → k ∈ ord := fun k hk => (ok3.mem k).mpr hk
  refine ⟨_, rfl, _, rfl, lb, _, rfl, .inl (SqL.of (s3 _ _ (s2 _ _ hb))), fun l1 hl1 => ?_⟩
  have s4 := same_new hl1 (.lst xs)
  have h41 : (L2.upd H3 l1 (.lst xs)) l1 = some (.lst xs) := upd_same
  generalize L2.upd H3 l1 (.lst xs) = H4 at s4 h41 ⊢
  refine ⟨_, rfl, lc, _, rfl, .inl (SqL.of (s4 _ _ (s3 _ _ hc))), fun l2 hl2 => ?_⟩
  have s5 := same_new hl2 (.lst ys)
  have h52 : (L2.upd H4 l2 (.lst ys)) l2 = some (.lst ys) := upd_same
  have h51 : (L2.upd H4 l2 (.lst ys)) l1 = some (.lst xs) := s5 _ _ h41
  generalize L2.upd H4 l2 (.lst ys) = H5 at s5 h52 h51 ⊢
  have s25 : Same H2 H5 := (s3.trans s4).trans s5
  have s15 : Same H1 H5 := s2.trans s25
  refine ⟨m, l1, l2, xs, ys, _, _, rfl, h51, h52, DnL.same s15 _ _ dnb, DnL.same s25 _ _ dnc, G, m1', m9', by omega, gc, c8, fun wd tb tc H6 s6 hw6 htb6 htc6 => ?_⟩
  have s26 := s25.trans s6
  have s16 := s15.trans s6
  have O6 : OrdAt H6 dp ord := ((O3.same s4).same s5).same s6
  have dnb6 := DnL.same s16 _ _ dnb
  have dnc6 := DnL.same s26 _ _ dnc
  refine ⟨_, rfl, lb, rfl, ⟨_, SqL.of (s16 _ _ hb)⟩, ?_⟩
  refine lc_list (K := K) (a := lb) (xs := xs) (fun i zs σ H7 => (∃ v, σ = [v, some (.ref dp)]) ∧ Same H6 H7 ∧ ∃ M, MovedL ord (L.take i) M ∧ DnL H7 ((M.map Bg.tie).map Tie.toD) zs) ⟨⟨none, rfl⟩, Same.refl _, [], rfl, (rfl : ([] : List V) = [])⟩ (fun i zs σ H7 hi pv => ?_) (fun i zs σ H7 hi pv => ?_) (fun i x zs σ H7 hx pv => ?_) (fun zs σ H7 pv lbr hlbr => ?_)
  · obtain ⟨_, _, M, hM, d7⟩ := pv
    have e1 := d7.length
    have e2 := hM.ts.length
    rw [List.length_map, List.length_map] at e1
    rw [List.length_map, List.length_map, List.length_take] at e2
    exact small (by omega)
  · exact SqL.of (pv.2.1 _ _ (s16 _ _ hb))
  · obtain ⟨⟨v, rfl⟩, s7, M, hM, d7⟩ := pv
    obtain ⟨e, he, hd⟩ := (DnL.same s7 _ _ dnb6).get hx
    rw [List.map_map, List.getElem?_map] at he
    obtain ⟨b, hb0, rfl⟩ := Option.map_eq_some_iff.mp he
    have hbL := List.mem_of_getElem? hb0
    have okw := okb b hbL
    refine ⟨_, rfl, _, rfl, x, dp, b, ord, rfl, hd, O6.same s7, ok3.nd, inO _ okw.um, fun k hk => inO k (okw.up k hk).2, okw.toBoughOkW.nd, by have := okw.few; omega, fun v' ks H8 s8 pm pw dv => ?_⟩
    refine ⟨⟨_, rfl⟩, s7.trans s8, M ++ [⟨mv ord b.u, b.lo, b.hi, ks⟩], ?_, ?_⟩
    · rw [List.take_succ, hb0, Option.toList_some]
      exact MovedL.snoc (b := b) (b' := ⟨mv ord b.u, b.lo, b.hi, ks⟩) ⟨rfl, rfl, rfl, pm, pw⟩ hM
    · rw [List.map_append, List.map_append]
      exact (DnL.same s8 _ _ d7).append ⟨v', [], rfl, dv, rfl⟩
  obtain ⟨⟨v, rfl⟩, s7, M, hM, d7⟩ := pv
  rw [lxs, List.take_length] at hM
  have lM : M.length = L.length := by have := hM.ts.length; rwa [List.length_map, List.length_map] at this
  have s8 := same_new hlbr (.lst zs)
  have h8 : (L2.upd H7 lbr (.lst zs)) lbr = some (.lst zs) := upd_same
  have d8 := DnL.same s8 _ _ d7
  have s68 := s7.trans s8
  generalize L2.upd H7 lbr (.lst zs) = H8 at s8 h8 d8 s68 ⊢
  refine ⟨_, rfl, lc, rfl, ⟨_, SqL.of (s68 _ _ (s26 _ _ hc))⟩, ?_⟩
  refine lc_list (K := K) (a := lc) (xs := ys) (fun i us σ H9 => (∃ v, σ = [v, some (.ref dp)]) ∧ Same H8 H9 ∧ ∃ D, MovedTs ord (C.take i) D ∧ DnL H9 (D.map Tie.toD) us) ⟨⟨none, rfl⟩, Same.refl _, [], rfl, (rfl : ([] : List V) = [])⟩ (fun i us σ H9 hi pv => ?_) (fun i us σ H9 hi pv => ?_) (fun i x us σ H9 hx pv => ?_) (fun us σ H9 pv lac hlac => ?_)
  · obtain ⟨_, _, D, hD, d9⟩ := pv
    have e1 := d9.length
    have e2 := hD.length
    rw [List.length_map] at e1
    rw [List.length_take] at e2
    exact small (by omega)
  · exact SqL.of (pv.2.1 _ _ (s68 _ _ (s26 _ _ hc)))
  · obtain ⟨⟨v, rfl⟩, s9, D, hD, d9⟩ := pv
    obtain ⟨e, he, hd⟩ := (DnL.same (s68.trans s9) _ _ dnc6).get hx
    rw [List.getElem?_map] at he
    obtain ⟨t, ht0, rfl⟩ := Option.map_eq_some_iff.mp he
    obtain ⟨okt, nbt⟩ := okc t (List.mem_of_getElem? ht0)
    refine ⟨_, rfl, _, rfl, x, dp, t, m, ord, rfl, hd, okt, m9, nbt, O6.same (s68.trans s9), inO, fun v' t' HA sA mt dv => ?_⟩
    refine ⟨⟨_, rfl⟩, s9.trans sA, D ++ [t'], ?_, ?_⟩
    · rw [List.take_succ, ht0, Option.toList_some]
      exact hD.snoc mt
    · rw [List.map_append]
      exact (DnL.same sA _ _ d9).append ⟨v', [], rfl, dv, rfl⟩
  obtain ⟨⟨v, rfl⟩, s9, D, hD, d9⟩ := pv
  rw [lys, List.take_length] at hD
  have lD := hD.length
  have sA := same_new hlac (.lst us)
  have hA : (L2.upd H9 lac (.lst us)) lac = some (.lst us) := upd_same
  have dA := DnL.same sA _ _ d9
  have s8A := s9.trans sA
  generalize L2.upd H9 lac (.lst us) = HA at sA hA dA s8A ⊢
  have UM := moved_ups ok3 U m1 hM
  have UR := UM.rev
  have hpR : ∀ k u, (k, u) ∈ upP L → (mv ord k, mv ord u) ∈ upP M.reverse := fun k u hk => upP_rev (upP_moved hM hk)
  have GM := (moved_good ok3 U m1 okb hM).perm (List.reverse_perm _)
  have TD := moved_ties ok3 m9 (fun t ht => (okc t ht).1) (fun t ht => (okc t ht).2) hD
  have lzs : zs.length = L.length := by rw [← d8.length, List.length_map, List.length_map, lM]
  have lus : us.length = C.length := by rw [← dA.length, List.length_map, lD]
  have h8A : HA lbr = some (.lst zs) := s8A _ _ h8
  have d8A := DnL.same s8A _ _ d8
  refine ⟨_, rfl, _, rfl, _, rfl, lbr, zs, rfl, rfl, h8A, fun l3 hl3 => ?_⟩
  have sB := same_new hl3 (.lst zs.reverse)
  have hB3 : (L2.upd HA l3 (.lst zs.reverse)) l3 = some (.lst zs.reverse) := upd_same
  have hBa : (L2.upd HA l3 (.lst zs.reverse)) lac = some (.lst us) := sB _ _ hA
  generalize L2.upd HA l3 (.lst zs.reverse) = HB at sB hB3 hBa ⊢
  refine ⟨_, rfl, _, rfl, lac, _, rfl, SqL.of hBa, fun p1 hp1 => ?_⟩
  rw [cut_tail1]
  have sC := same_new hp1 (.lst (us.drop 1))
  have hC1 : (L2.upd HB p1 (.lst (us.drop 1))) p1 = some (.lst (us.drop 1)) := upd_same
  have hCa : (L2.upd HB p1 (.lst (us.drop 1))) lac = some (.lst us) := sC _ _ hBa
  generalize L2.upd HB p1 (.lst (us.drop 1)) = HC at sC hC1 hCa ⊢
  refine ⟨_, rfl, _, rfl, lac, _, rfl, SqL.of hCa, fun p2 hp2 => ?_⟩
  rw [cut_head1]
  have sD := same_new hp2 (.lst (us.take 1))
  have hD2 : (L2.upd HC p2 (.lst (us.take 1))) p2 = some (.lst (us.take 1)) := upd_same
  have hD1 : (L2.upd HC p2 (.lst (us.take 1))) p1 = some (.lst (us.drop 1)) := sD _ _ hC1
  generalize L2.upd HC p2 (.lst (us.take 1)) = HD at sD hD2 hD1 ⊢
  refine ⟨p1, p2, _, _, rfl, rfl, hD1, hD2, small (by rw [List.length_drop, List.length_take]; omega), fun l4 hl4 => ?_⟩
  have sE := same_new hl4 (.lst (us.drop 1 ++ us.take 1))
  have hE4 : (L2.upd HD l4 (.lst (us.drop 1 ++ us.take 1))) l4 = some (.lst (us.drop 1 ++ us.take 1)) := upd_same
  have sBE := (sC.trans sD).trans sE
  have hE3 : (L2.upd HD l4 (.lst (us.drop 1 ++ us.take 1))) l3 = some (.lst zs.reverse) := sBE _ _ hB3
  generalize L2.upd HD l4 (.lst (us.drop 1 ++ us.take 1)) = HE at sE hE4 sBE hE3 ⊢
  have sAE := sB.trans sBE
  have dzE := DnL.reverse (DnL.same sAE _ _ d8A)
  have duE := (DnL.drop 1 (DnL.same sAE _ _ dA)).append (DnL.take 1 (DnL.same sAE _ _ dA))
  refine ⟨m, l3, l4, _, _, _, _, rfl, hE3, hE4, dzE, duE, GM, m1', m9', by rw [List.length_reverse, List.length_map, List.length_map]; omega, (fun c hc => TD c (by
    rcases List.mem_append.mp hc with z | z
    · exact List.mem_of_mem_drop z
    · exact List.mem_of_mem_take z)), by rw [List.length_append, List.length_drop, List.length_take, List.length_map]; omega, fun w2 tb2 tc2 HF sF hwF htbF htcF => ?_⟩
  have s6F : Same H6 HF := ((s68.trans s8A).trans sAE).trans sF
  have OF := O6.same s6F
  have hw1F : HF wd = some (.tup [.int (m : Int), .ref tb, .ref tc]) := s6F _ _ hw6
  have W1 : WdL HF wd m L := ⟨tb, tc, hw1F, xs, s6F _ _ htb6, DnL.same s6F _ _ dnb6⟩
  have W2 : WdL HF w2 m M.reverse := ⟨tb2, tc2, hwF, zs.reverse, htbF, by rw [List.map_reverse, List.map_reverse]; exact DnL.same sF _ _ dzE⟩
  have ok1 : ∀ t ∈ L.map Bg.tie ++ C, t.Ok m := fun t ht => by
    rcases List.mem_append.mp ht with z | z
    · obtain ⟨b, hb, rfl⟩ := List.mem_map.mp z
      exact okL b hb
    · exact (okc t z).1
  have TS : MovedTs ord (L.map Bg.tie ++ C) (M.map Bg.tie ++ D) := hM.ts.append hD
  have ok2 : ∀ t ∈ M.map Bg.tie ++ D, t.Ok m := fun t' ht' => by
    obtain ⟨t, ht, g⟩ := TS.back ht'
    refine moved_ok ok3 (ok1 t ht) g fun u lo hi ks e k hk => ?_
    rcases List.mem_append.mp ht with z | z
    · obtain ⟨b, hb, e2⟩ := List.mem_map.mp z
      rw [← e2] at e
      injection e with e1 e2 e3 e4
      subst e1 e4
      exact ok3.up b hb k hk
    · exact absurd e ((okc t z).2 u lo hi ks)
  have pmR : ((M.map Bg.tie).reverse ++ (D.drop 1 ++ D.take 1)).Perm (M.map Bg.tie ++ D) := (List.reverse_perm _).append ((List.perm_append_comm).trans (by rw [List.take_append_drop]))
  have WT1 : WoodT HF wd m (L.map Bg.tie ++ C) := wood_ties_at hw1F ⟨xs, s6F _ _ htb6, DnL.same s6F _ _ dnb6⟩ ⟨ys, s6F _ _ htc6, DnL.same s6F _ _ dnc6⟩ ok1 (by rw [List.length_append, List.length_map]; omega) (by omega)
  have WT2 : WoodT HF w2 m ((M.map Bg.tie).reverse ++ (D.drop 1 ++ D.take 1)) := wood_ties_at hwF ⟨zs.reverse, htbF, by rw [List.map_reverse]; exact DnL.same sF _ _ dzE⟩ ⟨_, htcF, by rw [List.map_append, List.map_drop, List.map_take]; exact DnL.same sF _ _ duE⟩ (fun t ht => ok2 t ((pmR.mem_iff).mp ht)) (by rw [pmR.length_eq, List.length_append, List.length_map]; omega) (by omega)
  have ware : ∀ s, wareB ((M.map Bg.tie).reverse ++ (D.drop 1 ++ D.take 1)) (imgS ord s) = wareB (L.map Bg.tie ++ C) s := fun s => ware_moved ok3 m1 ok1 pmR (fun t ht => TS.forth ht) (fun t' ht' => TS.back ht') s
  have hSF : SqL K HF sp (ns.map V.int) := ((s1.trans s16).trans s6F).seq hS
  have hbF : HF lb = some (.lst xs) := s6F _ _ (s16 _ _ hb)
  have hcF : HF lc = some (.lst ys) := s6F _ _ (s26 _ _ hc)
  have hbrF : HF lbr = some (.lst zs) := sF _ _ (sAE _ _ h8A)
  have hacF : HF lac = some (.lst us) := sF _ _ (sAE _ _ hA)
  have e2m : (1 : Int) * 2 ^ ((m : Nat) : Int).toNat = ((2 ^ m : Nat) : Int) := shl1 m
  have pm0 : (0 : Int) < ((2 ^ m : Nat) : Int) := by
    have := Nat.two_pow_pos m
    omega
  refine ⟨_, rfl, by decide, by decide, ?_⟩
  refine for_range0 (n := 30) (fun i σ HG => (∃ v9 v10, σ = [some (.ref sp), some (.int (m : Int)), some (.ref lb), some (.ref lc), some (.ref dp), some (.ref wd), some (.ref lbr), some (.ref lac), some (.ref w2), v9, v10, none, none, none, none]) ∧ Same HF HG) ⟨⟨none, none, rfl⟩, Same.refl _⟩ ?_ ?_
  · rintro i σ HG hi ⟨⟨v9, v10, rfl⟩, sG⟩
    refine ⟨_, rfl, _, rfl, _, _, rfl, rfl, (by show (0 : Int) < 10; decide), _, _, rfl, rfl, sp, ns, _, rfl, sG.seq hSF, hl, ?_, ?_, fun c c0 c1 => ?_⟩
    · show (0 : Int) ≤ 40 + (i : Int) % 10
      omega
    · show 40 + (i : Int) % 10 < 1000
      omega
    refine ⟨_, rfl, _, _, rfl, rfl, _, _, rfl, rfl, ⟨by omega, by omega⟩, _, rfl, _, _, rfl, rfl, ⟨by omega, by omega, by decide⟩, _, _, rfl, rfl, (by show (0 : Int) < 1 * 2 ^ ((m : Nat) : Int).toNat; rw [e2m]; exact pm0), _, _, rfl, rfl, ?_⟩
    have x0 : 0 ≤ c / ((i : Int) + 1) % (1 * 2 ^ ((m : Nat) : Int).toNat) := Int.emod_nonneg _ (by rw [e2m]; omega)
    obtain ⟨n, en⟩ : ∃ n : Nat, c / ((i : Int) + 1) % (1 * 2 ^ ((m : Nat) : Int).toNat) = (n : Int) := ⟨(c / ((i : Int) + 1) % (1 * 2 ^ ((m : Nat) : Int).toNat)).toNat, by omega⟩
    have ev : Builtin.bitOr (c / ((i : Int) + 1) % (1 * 2 ^ ((m : Nat) : Int).toNat)) 1 = ((n ||| 1 : Nat) : Int) := by
      rw [en]
      exact lor_nat n 1
    refine ⟨_, rfl, _, rfl, wd, m, _, n ||| 1, ?_, WT1.same sG, fun HH sH => ?_⟩
    · show [V.ref wd, V.int (Builtin.bitOr (c / ((i : Int) + 1) % (1 * 2 ^ ((m : Nat) : Int).toNat)) 1)] = _
      rw [ev]
    refine ⟨_, rfl, _, rfl, _, rfl, n ||| 1, dp, ord, ?_, OF.same (sG.trans sH), ok3.nd, by rw [ok3.len]; exact m9, fun HI sI => ?_⟩
    · show [V.int (Builtin.bitOr (c / ((i : Int) + 1) % (1 * 2 ^ ((m : Nat) : Int).toNat)) 1), V.ref dp] = _
      rw [ev]
    refine ⟨w2, m, _, imgS ord (n ||| 1), rfl, WT2.same ((sG.trans sH).trans sI), fun HJ sJ => ?_⟩
    refine ⟨rfl, _, rfl, ?_⟩
    refine iteNS (by rw [ware]) ?_
    exact ⟨⟨_, _, rfl⟩, ((sG.trans sH).trans sI).trans sJ⟩
  · rintro σ HG ⟨⟨v9, v10, rfl⟩, sG⟩
    refine ⟨_, rfl, by decide, by decide, ?_⟩
    refine for_range0 (n := 5) (fun i σ HH => (∃ v9 v11 v12 v13 v14, σ = [some (.ref sp), some (.int (m : Int)), some (.ref lb), some (.ref lc), some (.ref dp), some (.ref wd), some (.ref lbr), some (.ref lac), some (.ref w2), v9, v10, v11, v12, v13, v14]) ∧ Same HF HH) ⟨⟨_, _, _, _, _, rfl⟩, sG⟩ ?_ ?_
    · rintro i σ HH hi ⟨⟨w9, w11, w12, w13, w14, rfl⟩, sH⟩
      refine ⟨_, rfl, _, rfl, _, rfl, sp, ns, m, (i : Int), rfl, sH.seq hSF, hl, m9, by omega, by omega, fun l y n HI sI hy dj ym nm => ?_⟩
      refine ⟨l, _, rfl, sqT hy, rfl, _, _, rfl, _, _, rfl, rfl, ?_⟩
      have sFI := sH.trans sI
      refine ⟨_, rfl, _, rfl, lb, lc, _, _, rfl, rfl, sFI _ _ hbF, sFI _ _ hcF, small (by omega), fun z1 hz1 => ?_⟩
      have sJ := same_new hz1 (.lst (xs ++ ys))
      have hJ1 : (L2.upd HI z1 (.lst (xs ++ ys))) z1 = some (.lst (xs ++ ys)) := upd_same
      generalize L2.upd HI z1 (.lst (xs ++ ys)) = HJ at sJ hJ1 ⊢
      have sFJ := sFI.trans sJ
      refine ⟨_, rfl, _, rfl, lbr, lac, _, _, rfl, rfl, sFJ _ _ hbrF, sFJ _ _ hacF, small (by omega), fun z2 hz2 => ?_⟩
      have sK := same_new hz2 (.lst (zs ++ us))
      have hK2 : (L2.upd HJ z2 (.lst (zs ++ us))) z2 = some (.lst (zs ++ us)) := upd_same
      have hK1 : (L2.upd HJ z2 (.lst (zs ++ us))) z1 = some (.lst (xs ++ ys)) := sK _ _ hJ1
      generalize L2.upd HJ z2 (.lst (zs ++ us)) = HK at sK hK2 hK1 ⊢
      have sFK := sFJ.trans sK
      have dt1 : DnL HK ((L.map Bg.tie ++ C).map Tie.toD) (xs ++ ys) := by
        rw [List.map_append]
        exact (DnL.same (s6F.trans sFK) _ _ dnb6).append (DnL.same (s6F.trans sFK) _ _ dnc6)
      have dt2 : DnL HK ((M.map Bg.tie ++ D).map Tie.toD) (zs ++ us) := by
        rw [List.map_append]
        exact (DnL.same ((sAE.trans sF).trans sFK) _ _ d8A).append (DnL.same ((sAE.trans sF).trans sFK) _ _ dA)
      refine ⟨z1, z2, rfl, ⟨_, SqL.of hK1⟩, ⟨_, SqL.of hK2⟩, ?_⟩
      refine for_zipL (K := K) (a := z1) (b := z2) (xs := xs ++ ys) (ys := zs ++ us) (fun j σ HL => (∃ v13 v14, σ = [some (.ref sp), some (.int (m : Int)), some (.ref lb), some (.ref lc), some (.ref dp), some (.ref wd), some (.ref lbr), some (.ref lac), some (.ref w2), some (.int (i : Int)), v10, some (.int (y : Int)), some (.int (n : Int)), v13, v14]) ∧ Same HK HL) (by rw [List.length_append, List.length_append]; omega) ⟨⟨_, _, rfl⟩, Same.refl _⟩ (fun j σ HL _ z => ⟨SqL.of (z.2 _ _ hK1), SqL.of (z.2 _ _ hK2)⟩) ?_ ?_
      · rintro j x x' σ HL hx hx' ⟨⟨u13, u14, rfl⟩, sL⟩ TT hT
        have sM := same_new hT (.tup [x, x'])
        refine ⟨TT, _, rfl, sqT upd_same, rfl, _, _, rfl, _, _, rfl, rfl, ?_⟩
        have sKM := sL.trans sM
        generalize L2.upd HL TT (.tup [x, x']) = HM at sM sKM ⊢
        obtain ⟨e, he, hd⟩ := (DnL.same sKM _ _ dt1).get hx
        rw [List.getElem?_map] at he
        obtain ⟨t, ht, rfl⟩ := Option.map_eq_some_iff.mp he
        obtain ⟨e', he', hd'⟩ := (DnL.same sKM _ _ dt2).get hx'
        rw [List.getElem?_map] at he'
        obtain ⟨t', ht', rfl⟩ := Option.map_eq_some_iff.mp he'
        obtain ⟨t2, ht2, mt⟩ := TS.get ht
        rw [ht'] at ht2
        cases ht2
        have okt := ok1 t (List.mem_of_getElem? ht)
        have okt' := ok2 t' (List.mem_of_getElem? ht')
        have OM := OF.same (sFK.trans sKM)
        have o9 : ord.length ≤ 9 := by rw [ok3.len]; exact m9
        refine ⟨_, rfl, _, rfl, t, m, y, x, rfl, hd, okt, by omega, fun N1 t1 => ?_⟩
        refine ⟨_, rfl, _, rfl, _, rfl, y, dp, ord, rfl, OM.same t1, ok3.nd, o9, fun N2 t2' => ?_⟩
        have r2 := t1.trans t2'
        refine ⟨t', m, imgS ord y, x', rfl, Dn.same r2 _ _ hd', okt', by omega, fun N3 t3 => ?_⟩
        have r3 := r2.trans t3
        refine ⟨rfl, _, rfl, ?_⟩
        refine iteNS (by rw [keep_moved ok3 okt mt]) ?_
        refine ⟨_, rfl, _, rfl, _, rfl, t, m, y, n, x, rfl, Dn.same r3 _ _ hd, okt, by omega, fun N4 t4 => ?_⟩
        have r4 := r3.trans t4
        refine ⟨_, rfl, _, rfl, _, rfl, y, dp, ord, rfl, OM.same r4, ok3.nd, o9, fun N5 t5 => ?_⟩
        have r5 := r4.trans t5
        refine ⟨_, rfl, _, rfl, n, dp, ord, rfl, OM.same r5, ok3.nd, o9, fun N6 t6 => ?_⟩
        have r6 := r5.trans t6
        refine ⟨t', m, imgS ord y, imgS ord n, x', rfl, Dn.same r6 _ _ hd', okt', by omega, fun N7 t7 => ?_⟩
        have r7 := r6.trans t7
        refine ⟨rfl, _, rfl, ?_⟩
        refine iteNS (by rw [sb_moved ok3 okt mt]) ?_
        refine ⟨_, rfl, _, rfl, _, rfl, t, m, y, n, x, rfl, Dn.same r7 _ _ hd, okt, by omega, fun N8 t8 => ?_⟩
        have r8 := r7.trans t8
        refine ⟨_, rfl, _, rfl, _, rfl, y, dp, ord, rfl, OM.same r8, ok3.nd, o9, fun N9 t9 => ?_⟩
        have r9 := r8.trans t9
        refine ⟨_, rfl, _, rfl, n, dp, ord, rfl, OM.same r9, ok3.nd, o9, fun NA tA => ?_⟩
        have rA := r9.trans tA
        refine ⟨t', m, imgS ord y, imgS ord n, x', rfl, Dn.same rA _ _ hd', okt', by omega, fun NB tB => ?_⟩
        refine ⟨rfl, _, rfl, ?_⟩
        refine iteNS (by rw [sk_moved ok3 okt mt]) ?_
        exact ⟨⟨_, _, rfl⟩, sKM.trans (rA.trans tB)⟩
      · rintro σ HL ⟨⟨u13, u14, rfl⟩, sL⟩
        exact ⟨⟨_, _, _, _, _, rfl⟩, sFK.trans sL⟩
    · rintro σ HH ⟨⟨w9, w11, w12, w13, w14, rfl⟩, sH⟩
      refine ⟨_, rfl, _, rfl, by omega, by omega, ?_⟩
      rw [Int.toNat_natCast]
      refine for_range0 (n := m) (fun i σ HI => (∃ v9, σ = [some (.ref sp), some (.int (m : Int)), some (.ref lb), some (.ref lc), some (.ref dp), some (.ref wd), some (.ref lbr), some (.ref lac), some (.ref w2), v9, v10, w11, w12, w13, w14]) ∧ Same HF HI) ⟨⟨_, rfl⟩, sH⟩ ?_ ?_
      · rintro i σ HI hi ⟨⟨u9, rfl⟩, sI⟩
        have WdL_same : ∀ {H H' : Hp} {wd : Addr} {L : List Bg}, Same H H' → WdL H wd m L → WdL H' wd m L := fun {H H' wd L} s ⟨tb, tc, h1, h2⟩ => ⟨tb, tc, s _ _ h1, h2.same s⟩
        have o9 : ord.length ≤ 9 := by rw [ok3.len]; exact m9
        have im := mv_ltm ok3 hi
        refine ⟨_, rfl, _, rfl, wd, m, i, L, rfl, WdL_same sI W1, U, hi, m9, _, rfl, benN L i (m - 1 - i), dp, ord, rfl, OF.same sI, ok3.nd, o9, fun HJ sJ => ?_⟩
        refine ⟨_, rfl, _, rfl, _, rfl, dp, _, rfl, (OF.same (sI.trans sJ)).get (inO i hi), w2, m, mv ord i, M.reverse, rfl, WdL_same (sI.trans sJ) W2, UR, im, m9, ?_⟩
        refine ⟨rfl, _, rfl, ?_⟩
        refine iteNS (by rw [ben_moved ok3 U m1 UR hpR hi]) ?_
        have sFJ := sI.trans sJ
        refine ⟨_, rfl, _, _, rfl, rfl, _, rfl, ?_⟩
        by_cases c0 : i = 0
        · refine iteDN (by omega) ?_
          refine iteF ?_
          exact ⟨⟨_, rfl⟩, sFJ⟩
        · refine iteD (by omega) ?_
          obtain ⟨u, hu, lt, hu'⟩ := up_moved ok3 U m1 UR hpR (k := i) (by omega) hi
          refine ⟨_, rfl, _, rfl, _, rfl, wd, m, i, L, rfl, WdL_same sFJ W1, ?_⟩
          rw [hu]
          refine ⟨dp, _, rfl, (OF.same sFJ).get (inO u (by omega)), _, rfl, _, rfl, _, rfl, dp, _, rfl, (OF.same sFJ).get (inO i hi), w2, m, mv ord i, M.reverse, rfl, WdL_same sFJ W2, ?_⟩
          rw [hu']
          refine ⟨rfl, _, rfl, ?_⟩
          refine iteNS rfl ?_
          exact ⟨⟨_, rfl⟩, sFJ⟩
      · rintro σ HI ⟨⟨u9, rfl⟩, sI⟩
        exact q _

end

-- FOOT
theorem all_mk {l : PySem.W.OpenLaw} {w : World} {K : PySem.W.Frag} {h : Heap} {mg : Str → Option Value} {fa f1 f2 f3 f4 f5 f6 f7 f8 f9 f10 f11 f12 f13 f14 f15 f16 f17 f18 f19 f20 f21 f22 f23 f24 f25 f26 f27 f28 f29 f30 f31 f32 f33 f34 f35 f36 f37 f38 f39 f40 f41 : Addr} (X : K.In h) (G : h.Ns mainGlobals mg) (hfa : mg "law" = some (.ref fa))
    {d1 d2 d3 d4 d5 d6 d7 d8 d9 d10 d11 d12 d13 d14 d15 d16 d17 d18 d19 d20 d21 d22 d23 d24 d25 d26 d27 d28 d29 d30 d31 d32 d33 d34 d35 d36 d37 d38 d39 d40 d41 : FuncData}
    (a1 : Dk K "has" s_has f1 d1)
    (a2 : Dk K "with_option" s_with_option f2 d2)
    (a3 : Dk K "wood_of" s_wood_of f3 d3)
    (a4 : Dk K "many_ties" s_many_ties f4 d4)
    (a5 : Dk K "tie_at" s_tie_at f5 d5)
    (a6 : Dk K "up_of" s_up_of f6 d6)
    (a7 : Dk K "beneath" s_beneath f7 d7)
    (a8 : Dk K "check_boughs" s_check_boughs f8 d8)
    (a9 : Dk K "check_cross_ties" s_check_cross_ties f9 d9)
    (a10 : Dk K "is_whole" s_is_whole f10 d10)
    (a11 : Dk K "is_whole_within" s_is_whole_within f11 d11)
    (a12 : Dk K "is_option" s_is_option f12 d12)
    (a13 : Dk K "is_tuple_of_length" s_is_tuple_of_length f13 d13)
    (a14 : Dk K "is_filled_tuple" s_is_filled_tuple f14 d14)
    (a15 : Dk K "are_rising_options" s_are_rising_options f15 d15)
    (a16 : Dk K "is_bough" s_is_bough f16 d16)
    (a17 : Dk K "is_cross_tie" s_is_cross_tie f17 d17)
    (a18 : Dk K "are_pairs" s_are_pairs f18 d18)
    (a19 : Dk K "keeps" s_keeps f19 d19)
    (a20 : Dk K "keeps_bough" s_keeps_bough f20 d20)
    (a21 : Dk K "count_in" s_count_in f21 d21)
    (a22 : Dk K "every_tie" s_every_tie f22 d22)
    (a23 : Dk K "first_broken" s_first_broken f23 d23)
    (a24 : Dk K "is_ware" s_is_ware f24 d24)
    (a25 : Dk K "sure_broken" s_sure_broken f25 d25)
    (a26 : Dk K "sure_kept" s_sure_kept f26 d26)
    (a27 : Dk K "least_sum" s_least_sum f27 d27)
    (a28 : Dk K "greatest_sum" s_greatest_sum f28 d28)
    (a29 : Dk K "sure_broken_bough" s_sure_broken_bough f29 d29)
    (a30 : Dk K "sure_kept_bough" s_sure_kept_bough f30 d30)
    (a31 : Dk K "_law_cell_at" s_law_cell_at f31 d31)
    (a32 : Dk K "_law_boughs" s_law_boughs f32 d32)
    (a33 : Dk K "_law_tie" s_law_tie f33 d33)
    (a34 : Dk K "_law_cross" s_law_cross f34 d34)
    (a35 : Dk K "_law_many" s_law_many f35 d35)
    (a36 : Dk K "_law_stand" s_law_stand f36 d36)
    (a37 : Dk K "_law_order" s_law_order f37 d37)
    (a38 : Dk K "_law_moved_bough" s_law_moved_bough f38 d38)
    (a39 : Dk K "_law_moved_tie" s_law_moved_tie f39 d39)
    (a40 : Dk K "_law_by" s_law_by f40 d40)
    (a41 : Dk K "law" s_law f41 d41)
    (z1 : PySem.W.nsIn K mainGlobals "range" = some none)
    (z2 : PySem.W.nsIn K mainGlobals "len" = some none)
    (z3 : PySem.W.nsIn K mainGlobals "isinstance" = some none)
    (z4 : PySem.W.nsIn K mainGlobals "max" = some none)
    (z5 : PySem.W.nsIn K mainGlobals "int" = some none)
    (z6 : PySem.W.nsIn K mainGlobals "bool" = some none)
    (z7 : PySem.W.nsIn K mainGlobals "list" = some none)
    (z8 : PySem.W.nsIn K mainGlobals "tuple" = some none)
    (z9 : PySem.W.nsIn K mainGlobals "str" = some none)
    (z10 : PySem.W.nsIn K mainGlobals "sorted" = some none)
    (z11 : PySem.W.nsIn K mainGlobals "enumerate" = some none)
    (z12 : PySem.W.nsIn K mainGlobals "sum" = some none)
    (z13 : PySem.W.nsIn K mainGlobals "zip" = some none)
    {tc1 : Tok} (v1 : PySem.W.nsIn K mainGlobals "MOST_OPTIONS" = some (some (Value.int 9 tc1)))
    {tc2 : Tok} (v2 : PySem.W.nsIn K mainGlobals "MOST_CROSS_TIES" = some (some (Value.int 8 tc2)))
    : (∃ fd : FuncData, (∀ (s : Shared) (v : Value), BindsTo s fd ⟨[v], []⟩ [("_law_script", v)]) ∧ ∀ base : Heap, K.In base → base.Ns mainGlobals mg → FnOk l.prog w K mg base CX0 9 fa fd ["_law_script"] (spLaw K)) := by
  have e := hfa.symm.trans (PySem.W.mg_of X G a41.1)
  cases e
  have T : Txt K mg ⟨f1, f2, f3, f4, f5, f6, f7, f8, f9, f10, f11, f12, f13, f14, f15, f16, f17, f18, f19, f20, f21, f22, f23, f24, f25, f26, f27, f28, f29, f30, f31, f32, f33, f34, f35, f36, f37, f38, f39, f40, fa⟩ ⟨d1, d2, d3, d4, d5, d6, d7, d8, d9, d10, d11, d12, d13, d14, d15, d16, d17, d18, d19, d20, d21, d22, d23, d24, d25, d26, d27, d28, d29, d30, d31, d32, d33, d34, d35, d36, d37, d38, d39, d40, d41⟩ := ⟨PySem.W.mg_none_of X G z1, PySem.W.mg_none_of X G z2, PySem.W.mg_none_of X G z3, PySem.W.mg_none_of X G z4, PySem.W.mg_none_of X G z5, PySem.W.mg_none_of X G z6, PySem.W.mg_none_of X G z7, PySem.W.mg_none_of X G z8, PySem.W.mg_none_of X G z9, PySem.W.mg_none_of X G z10, PySem.W.mg_none_of X G z11, PySem.W.mg_none_of X G z12, PySem.W.mg_none_of X G z13, ⟨_, PySem.W.mg_of X G v1⟩, ⟨_, PySem.W.mg_of X G v2⟩, a1.df X G (bd2 fun _ _ _ _ _ _ _ _ => rfl), a2.df X G (bd2 fun _ _ _ _ _ _ _ _ => rfl), a3.df X G (bd3 fun _ _ _ _ _ _ _ _ _ => rfl), a4.df X G (bd1 fun _ _ _ _ _ _ _ => rfl), a5.df X G (bd2 fun _ _ _ _ _ _ _ _ => rfl), a6.df X G (bd2 fun _ _ _ _ _ _ _ _ => rfl), a7.df X G (bd2 fun _ _ _ _ _ _ _ _ => rfl), a8.df X G (bd2 fun _ _ _ _ _ _ _ _ => rfl), a9.df X G (bd2 fun _ _ _ _ _ _ _ _ => rfl), a10.df X G (bd1 fun _ _ _ _ _ _ _ => rfl), a11.df X G (bd3 fun _ _ _ _ _ _ _ _ _ => rfl), a12.df X G (bd2 fun _ _ _ _ _ _ _ _ => rfl), a13.df X G (bd2 fun _ _ _ _ _ _ _ _ => rfl), a14.df X G (bd1 fun _ _ _ _ _ _ _ => rfl), a15.df X G (bd3 fun _ _ _ _ _ _ _ _ _ => rfl), a16.df X G (bd2 fun _ _ _ _ _ _ _ _ => rfl), a17.df X G (bd2 fun _ _ _ _ _ _ _ _ => rfl), a18.df X G (bd2 fun _ _ _ _ _ _ _ _ => rfl), a19.df X G (bd2 fun _ _ _ _ _ _ _ _ => rfl), a20.df X G (bd2 fun _ _ _ _ _ _ _ _ => rfl), a21.df X G (bd2 fun _ _ _ _ _ _ _ _ => rfl), a22.df X G (bd1 fun _ _ _ _ _ _ _ => rfl), a23.df X G (bd2 fun _ _ _ _ _ _ _ _ => rfl), a24.df X G (bd2 fun _ _ _ _ _ _ _ _ => rfl), a25.df X G (bd3 fun _ _ _ _ _ _ _ _ _ => rfl), a26.df X G (bd3 fun _ _ _ _ _ _ _ _ _ => rfl), a27.df X G (bd3 fun _ _ _ _ _ _ _ _ _ => rfl), a28.df X G (bd3 fun _ _ _ _ _ _ _ _ _ => rfl), a29.df X G (bd3 fun _ _ _ _ _ _ _ _ _ => rfl), a30.df X G (bd3 fun _ _ _ _ _ _ _ _ _ => rfl), a31.df X G (bd2 fun _ _ _ _ _ _ _ _ => rfl), a32.df X G (bd2 fun _ _ _ _ _ _ _ _ => rfl), a33.df X G (bd2 fun _ _ _ _ _ _ _ _ => rfl), a34.df X G (bd2 fun _ _ _ _ _ _ _ _ => rfl), a35.df X G (bd1 fun _ _ _ _ _ _ _ => rfl), a36.df X G (bd3 fun _ _ _ _ _ _ _ _ _ => rfl), a37.df X G (bd3 fun _ _ _ _ _ _ _ _ _ => rfl), a38.df X G (bd2 fun _ _ _ _ _ _ _ _ => rfl), a39.df X G (bd2 fun _ _ _ _ _ _ _ _ => rfl), a40.df X G (bd2 fun _ _ _ _ _ _ _ _ => rfl), a41.df X G (bd1 fun _ _ _ _ _ _ _ => rfl)⟩
  exact ⟨d41, law_b a41.2 fun _ _ _ _ _ _ _ => rfl, fun base _ _ => ok_law T⟩
theorem walk {l : PySem.W.OpenLaw} {q : Program} {loose : List Str} {XP : (Str → Option Value) → Heap → Prop} {YP : World → Heap → Prop} {d : DefRec} {K : Params → PySem.W.Frag} (hn : l.most = some 63) (hdf : d.params.defaults = [])
    (hY : ∀ (w : World) (h : Heap), YP w h → (K w.params).In h)
    (F : ∀ (w : World) (mg : Str → Option Value) (fa : Addr) (h : Heap), (K w.params).In h → h.Ns mainGlobals mg → mg d.name = some (.ref fa) →
      ∃ fd : FuncData, (∀ (s : Shared) (u : Value), BindsTo s fd ⟨[u], []⟩ [("_law_script", u)]) ∧ ∀ base : Heap, (K w.params).In base → base.Ns mainGlobals mg → FnOk l.prog w (K w.params) mg base CX0 9 fa fd ["_law_script"] (spLaw (K w.params))) :
    PySem.W.WalkO q loose XP YP l.row.toRowW d [] (fun f vs => PySem.call f vs) :=
  
  L2.walk_of (n := 63) (k := 9) (x := "_law_script") (CX := fun _ => CX0) (sp := fun w => (spLaw (K w.params))) hn (by decide) hdf ⟨rfl, by decide, by decide⟩ hY F (fun _ _ a ns hl _ hS => ⟨a, ns, rfl, hS, hl, fun _ => rfl⟩) fun _ _ _ _ _ z => z
end Ow
structure PySem.W.Fast : Prop where
  (tw11322652677944657506 tw10310536748040408386 tw15870587934982918058 tw6504381087017340121 tw12164213706345323867 tw14051422275383163439 tw6320003169097701734 tw3226630192726662230 tw13379223925487683748 tw9904607078632894478 tw13015820599624930222 tw3065842554446258564 tw5906176852675514051 tw17035034963893682184 tw8092056535729740664 tw12106008139206087385 tw14056083234492691280 tw7445662505271306906 tw7278008749451952407 tw515450050039918521 tw5175340375125280030 tw11801156016739404737 tw15943142762670142541 tw6942919528746007775 tw1757952855420966213 tw13071711315063206785 tw13609974267686548934 tw7103502357187851758 tw16707700862562485362 tw12920079633679569241 tw10333788625442235774 tw16701998739756427921 tw11135156659545868991 tw9823987849611715449 tw3834005967012192780 tw13849860634153115380 tw6297687199506112090 tw12989730857485146829 tw6076282513753180766 tw5400063862218894286 tw18068899613222615519 tw4145637674562780817 tw3224593463466469858 tw6654359255683768837 tw7889138579246307589 tw11465207956778133106 tw18063226918536064001 tw6346507259382125483 tw12924400668459567700 tw13345081247756953203 tw17912503257279062219 tw10583745918899758043 tw11683291144306265102 tw17484592164454803513 tw9920119634816396076 tw2216644918653806860 tw9167178453939311174 tw1540161951828311663 tw4747605526340318610 tw10691190735154020830 tw16297422950579100657 tw15337154068479998858 tw8960547845972867873 tw9460473471769093070 tw15718698276019076782 tw11356760546846289894 tw13185404740626424259 tw5897946385690600524 tw1610165939828372914 tw13009051227918379125 tw551678954228678591 tw2647637132431589120 tw1431749739304942006 tw158880582458486900 tw7412366182397837921 tw7861601024130780141 tw12246886021669181206 tw7224209562141244346 tw10673715455055525617 tw15378692831148874969 tw15622315798969028 tw17803468183660726879 tw11282570850587446747 tw18373091537204944252 tw15511296030789447905 tw10254761658215205474 tw10229348593785442583 tw3084926547598345488 tw14768444570270723572 tw18194551065971991173 tw7286977280462347591 tw10816044971519543174 tw10415602241130854442 tw2309772211121916874 tw7051950921817732618 tw15375532508620328319 tw4838336203462563479 tw2896508819954229013 tw5698188717281579804 tw6599049206269968481 tw9083519405456545655 tw8505858972118343786 tw12597669996957163392 tw5222914345191419198 tw8859334746558433110 tw1366236609914641263 tw10922603858325417490 tw15153292384201681925 tw16149496585643775566 tw4279026969151581964 tw4810839430317103076 tw11476504223841579494 tw16840718451932993973 tw10527148232426021306 tw3492046912576277851 tw1157951806388897952 tw8443222396325062501 tw2705253313955227796 tw14525360862756924367 tw16071657381518993934 tw14696621935816583691 tw13486972039385305224 tw3362973055938077920 tw10294480083637725769 tw5319254921007881596 tw13467119829351153247 tw4528434794669953337 tw12217015746866130664 tw13806593663793776671 tw8902529907209956481 tw11506280611887599257 tw4393945456748679864 tw8763317972929332580 tw6996961873983178351 tw10142763206575329254 tw3985913013080975212 tw6665017184911391592 tw9786128975601991723 tw17076106584633584168 tw15054482507500444224 tw7989014695270936040 tw14268371575860707426 tw18439587912805790390 tw15039033436636631088 tw8544444365341364309 tw10036385209270189470 tw3093162922277633718 tw16793412622122944881 tw18070377234597003352 tw3389109631379209182 tw80199351587908069 tw8587690804217598704 tw12238097069672135394 tw14799052563782328982 tw10731259501786795163 tw12948408478907807597 tw14333601330058506281 tw3604776179503420172 tw11264586971861994542 tw6050549401410412307 tw6841680240225728059 tw1038824776028284142 tw17382340108589216093 tw95437923668494014 tw16537097656947428202 tw683827029613342569 tw12340077512942592533 tw7498989608175268949 tw12771330500484336288 tw3904230798138094483 tw9856997915616933576 tw15121089020819078637 tw2583095329160085184 tw16973369759174617778 tw9450461562971988036 tw3634136076084267237 tw307428204993925725 tw17546792002868961234 tw13813597083214189128 tw11703420143658944243 tw8376465317847528671 tw12808355929604606995 tw16419301442177857901 tw8719219970443166474 tw10830803297118780307 tw8852010249201448819 tw7625870026095261 tw297794566933128706 tw10789289841854703749 tw3809226451600477094 tw7088911441140229835 tw5047044028695321811 tw3527280996851005217 tw8021984372290027826 tw7594807991044370449 tw5215489314051563411 tw14287505199170348306 tw721356594686600844 tw2372362637871881240 tw10716934078891860474 tw10934950906430935179 tw16928223475461923259 tw18282050293285508163 tw7726656043492929659 tw5726013148929432922 tw16490800386387955677 tw4090524535388989101 tw8103526393526958195 tw7586434592949788357 tw10620807785878102898 tw6780301876608170384 tw1708283096244461132 tw13018835175450410932 tw610389193819673898 tw4961605771181284707 tw12402444711648222178 tw13662873355597096648 tw7506592286474682147 tw9472528206881777276 tw16262618417468344608 tw4382125120391372970 tw13683847527904861557 tw15358215469569919437 tw7248303712809303777 tw15563168112325700604 tw17144492704395792829 tw636084379684734506 tw422882510448330181 tw1924315842243708665 tw18326279820847263104 tw15808102202098097696 tw16892089703461182165 tw2345214187263678111 tw4191482781764897215 tw4269470615226977979 tw12668979625284924512 tw3087898037022786707 tw9606463252052883850 tw9469114047424979463 tw9789654805552242032 tw8091306672636047443 tw10293562506318289416 tw16461779538286902143 tw10337124150584241436 tw15208911801794346711 tw17772438210909575511 tw12077631219702480083 tw8980926902058583872 tw14135898099378577119 tw3703801556609411934 tw3447271209462077291 tw16043277155658541889 tw15321583975201561166 tw17228123397830652997 tw2656259789887350170 tw16828746779607773188 tw6795936842859585105 tw7358840162478832419 tw7393749348617855170 tw15726625342911057641 tw14245935127033302835 tw16465843494705144457 tw4379053870869230085 tw6587611434092222663 tw7176787437073855034 tw12771890510773486978 tw11713746755224799312 tw8337848840268582943 tw757664933200490404 tw4457620623126820962 tw5084048152277906633 tw10615448773454538638 : True)
namespace Ow
end Ow
open PySem PySem.W PyProof.Rows
set_option maxRecDepth 100000 in
set_option maxHeartbeats 0 in
theorem PySem.Challenge.cw_optionwood_k14_whole_woods_renumbered_holds : PySem.Challenge.rw_optionwood_k14_whole_woods_renumbered.Holds := by
  w_on; o_law; k_head; (case hw => w_witness2)
  k_fill
  refine Ow.walk (l := PySem.Challenge.rw_optionwood_k14_whole_woods_renumbered) rfl rfl (fun w h Y => PySem.W.kIn_of Y) ?F
  case F =>
    intro w mg fa h KX G hmg
    refine' Ow.all_mk KX G hmg ?a1 ?a2 ?a3 ?a4 ?a5 ?a6 ?a7 ?a8 ?a9 ?a10 ?a11 ?a12 ?a13 ?a14 ?a15 ?a16 ?a17 ?a18 ?a19 ?a20 ?a21 ?a22 ?a23 ?a24 ?a25 ?a26 ?a27 ?a28 ?a29 ?a30 ?a31 ?a32 ?a33 ?a34 ?a35 ?a36 ?a37 ?a38 ?a39 ?a40 ?a41 ?z1 ?z2 ?z3 ?z4 ?z5 ?z6 ?z7 ?z8 ?z9 ?z10 ?z11 ?z12 ?z13 ?v1 ?v2
    all_goals try (refine' L2.dk ?a ?l ?c ?k; (case a => k_is); (case l => k_is); (case c => k_is); (case k => k_is))
    (case z1 => k_is)
    (case z2 => k_is)
    (case z3 => k_is)
    (case z4 => k_is)
    (case z5 => k_is)
    (case z6 => k_is)
    (case z7 => k_is)
    (case z8 => k_is)
    (case z9 => k_is)
    (case z10 => k_is)
    (case z11 => k_is)
    (case z12 => k_is)
    (case z13 => k_is)
    (case v1 => k_is)
    (case v2 => k_is)
#print axioms PySem.Challenge.cw_optionwood_k14_whole_woods_renumbered_holds
