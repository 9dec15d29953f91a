import PyProof.Rows.All
import Wide.All
import OpenK.AllK
import Wide.FinOn
import Lean
import PyProof.EqAt
import PyProof.EqKinds
import PyProof.TupleCall
import PySem.Challenge.RW_optionwood_k35_whole_standing_and_wares

set_option Elab.async false
set_option linter.all false
set_option maxRecDepth 100000
/-! THE HAND LAYER, for ints, bools, texts, own classes, LISTS and tuples (index, slices, in, append, pop ..), calls, loops. Paste it whole ahead of your own text; what your proof does not reach may be deleted. -/
namespace L2
open PySem PySem.Spec PyProof.Rows

/-- a key: an int or a str -/
abbrev Key := Sum Int Str
def keyIs : Key → Value → Bool
  | .inl k, v => Value.isInt k v
  | .inr x, v => Value.isStrOf x v
def keyH (w : World) : Key → Int
  | .inl k => hashInt k
  | .inr x => hashStr w x
theorem keyIs_shape : ∀ {k : Key} {v : Value}, keyIs k v = true → (∃ i t, k = Sum.inl i ∧ v = Value.int i t) ∨ (∃ x t, k = Sum.inr x ∧ v = Value.str x t)
  | .inl i, v, h => by
    obtain ⟨t, e⟩ := Value.isInt_shape (k := i) (v := v) h
    exact .inl ⟨i, t, rfl, e⟩
  | .inr x, v, h => by
    obtain ⟨t, e⟩ := Value.isStrOf_shape (x := x) (v := v) h
    exact .inr ⟨x, t, rfl, e⟩
theorem key_ll (a b : Int) : decide ((Sum.inl a : Key) = Sum.inl b) = (a == b) := by
  by_cases e : a = b
  · subst e; simp
  · have h : ¬ (Sum.inl a : Key) = Sum.inl b := fun q => e (Sum.inl.inj q)
    rw [decide_eq_false h]
    exact (beq_eq_false_iff_ne.mpr e).symm
theorem key_rr (a b : Str) : decide ((Sum.inr a : Key) = Sum.inr b) = decide (a = b) := by
  by_cases e : a = b
  · subst e; simp
  · have h : ¬ (Sum.inr a : Key) = Sum.inr b := fun q => e (Sum.inr.inj q)
    rw [decide_eq_false h, decide_eq_false e]
theorem key_lr (a : Int) (b : Str) : decide ((Sum.inl a : Key) = Sum.inr b) = false := decide_eq_false (fun q => nomatch q)
theorem key_rl (a : Str) (b : Int) : decide ((Sum.inr a : Key) = Sum.inl b) = false := decide_eq_false (fun q => nomatch q)

def mixKind (prog : Program) (w : World) : PySem.KeyKind prog w Key where
  is := keyIs
  hash := keyH w
  inj := fun v a b ha hb => by
    rcases keyIs_shape ha with ⟨i, t, rfl, rfl⟩ | ⟨x, t, rfl, rfl⟩
    · rcases keyIs_shape hb with ⟨j, u, rfl, e⟩ | ⟨y, u, rfl, e⟩
      · injection e with e1 _; rw [e1]
      · exact nomatch e
    · rcases keyIs_shape hb with ⟨j, u, rfl, e⟩ | ⟨y, u, rfl, e⟩
      · exact nomatch e
      · injection e with e1 _; rw [e1]
  byValue := fun k v h => by
    rcases keyIs_shape h with ⟨i, t, rfl, rfl⟩ | ⟨x, t, rfl, rfl⟩ <;> rfl
  pyHash := fun hv h => by
    rcases keyIs_shape hv with ⟨i, t, rfl, rfl⟩ | ⟨x, t, rfl, rfl⟩
    · exact wpAny_pyHash_int h
    · exact wpAny_pyHash_str h
  eqBool := fun hu hv h => by
    rcases keyIs_shape hu with ⟨i, t, rfl, rfl⟩ | ⟨x, t, rfl, rfl⟩
    · rcases keyIs_shape hv with ⟨j, u, rfl, rfl⟩ | ⟨y, u, rfl, rfl⟩
      · rw [key_ll] at h; exact wpAny_eqBool_int h
      · rw [key_lr] at h; exact SeqAt.EqAt.int_str i t y u _ _ _ _ h
    · rcases keyIs_shape hv with ⟨j, u, rfl, rfl⟩ | ⟨y, u, rfl, rfl⟩
      · rw [key_rl] at h; exact SeqAt.EqAt.str_int x t j u _ _ _ _ h
      · rw [key_rr] at h; exact wpAny_eqBool_str h
  «strs» := fun k x t v h => by
    rcases keyIs_shape h with ⟨i, u, rfl, e⟩ | ⟨y, u, rfl, e⟩
    · exact nomatch e
    · injection e with e1 _
      subst e1
      cases v <;> rfl

end L2

namespace L2
open PySem PySem.Spec PyProof.Rows

/-- a value, without the heap -/
inductive V where
  | non | bl (b : Bool) | int (i : Int) | str (x : Str) | byt (b : Array UInt8) | flt (b : UInt64) | ref (a : Addr) | ty (n : String)
  deriving DecidableEq

def RelV : V → Value → Prop
  | .non, u => u = Value.none
  | .bl b, u => u = Value.bool b
  | .int i, u => ∃ t, u = Value.int i t
  | .str x, u => ∃ t, u = Value.str x t
  | .byt b, u => ∃ t, u = Value.bytes b t
  | .flt b, u => ∃ t, u = Value.float b t
  | .ref a, u => u = Value.ref a
  | .ty n, u => u = Value.type n

abbrev Vals : List V → List Value → Prop := Paired RelV
theorem Vals.length {xs : List V} {us : List Value} (r : Vals xs us) : xs.length = us.length := Paired.length r
theorem Vals.get : ∀ {xs : List V} {us : List Value} {i : Nat} {x : V}, Vals xs us → xs[i]? = some x → ∃ u, us[i]? = some u ∧ RelV x u
  | _, _, _, _, .nil, e => by simp at e
  | _, _, 0, _, .cons r _, e => by simp at e; subst e; exact ⟨_, rfl, r⟩
  | _, _, i + 1, x, .cons _ t, e => by
    obtain ⟨u, h1, h2⟩ := Vals.get (i := i) (x := x) t (by simpa using e)
    exact ⟨u, by simpa using h1, h2⟩
theorem Vals.set {x : V} {u : Value} (r : RelV x u) : ∀ {xs : List V} {us : List Value} (i : Nat), Vals xs us → Vals (xs.set i x) (us.set i u)
  | _, _, _, .nil => .nil
  | _, _, 0, .cons _ t => .cons r t
  | _, _, i + 1, .cons q t => .cons q (Vals.set r i t)
theorem Vals.append : ∀ {xs ys : List V} {us ws : List Value}, Vals xs us → Vals ys ws → Vals (xs ++ ys) (us ++ ws)
  | _, _, _, _, .nil, s => s
  | _, _, _, _, .cons r t, s => .cons r (Vals.append t s)
theorem Vals.take : ∀ {xs : List V} {us : List Value} (n : Nat), Vals xs us → Vals (xs.take n) (us.take n)
  | _, _, 0, _ => .nil
  | _, _, _ + 1, .nil => .nil
  | _, _, n + 1, .cons r t => .cons r (Vals.take n t)
theorem Vals.drop : ∀ {xs : List V} {us : List Value} (n : Nat), Vals xs us → Vals (xs.drop n) (us.drop n)
  | _, _, 0, r => r
  | _, _, _ + 1, .nil => .nil
  | _, _, n + 1, .cons _ t => Vals.drop n t
def RelO : Option V → Option Value → Prop
  | some v, some u => RelV v u
  | none, none => True
  | _, _ => False
def KV {κ : Type} : List (κ × V) → List (κ × Value) → Prop := Paired fun (p : κ × V) (q : κ × Value) => p.1 = q.1 ∧ RelV p.2 q.2

/-- a key of a dict (00_mix): an int or a text -/
def kV : Key → V
  | .inl i => .int i
  | .inr x => .str x

/-- what stands at a tracked address -/
inductive HO where
  /-- a list -/
  | lst (xs : List V)
  /-- a tuple (never changes) -/
  | tup (xs : List V)
  /-- a dict whose keys are ints and texts; one whose keys are tuples of ints and texts (the empty one is both) -/
  | dK (kvs : List (Key × V)) | dT (kvs : List (List Key × V))
  /-- a set of ints: its members, its size -/
  | set (S : Int → Bool) (n : Nat)
  /-- an instance of the class at C, its dict at dx, its attributes -/
  | ins (C dx : Addr) (fs : List (Str × V))
  /-- the dict of the instance at x -/
  | own (x : Addr)
  /-- the dict of an exception -/
  | xd (fs : List (Str × V))
  /-- a bound method, f of x -/
  | met (f x : Addr)
  /-- a range object lo, lo + 1, .. below hi -/
  | rng (lo hi : Int)
  /-- a thing that is known to the object (the script; a dict while a loop walks it): read, never written while it is so -/
  | frz (o : Obj) (u : HO)
  /-- a code object's table -/
  | tbl (ps : Array Value)
  /-- any other thing, by what is true of its one object (a def of one's own: SetO a S n := HO.ext fun h => ..) -/
  | ext (φ : Heap → Prop)

abbrev Hp := Addr → Option HO
def upd (H : Hp) (a : Addr) (o : HO) : Hp := fun b => if b = a then some o else H b
theorem upd_same {H : Hp} {a : Addr} {o : HO} : upd H a o a = some o := by unfold upd; rw [if_pos rfl]
theorem upd_ne {H : Hp} {a b : Addr} {o : HO} (h : b ≠ a) : upd H a o b = H b := by unfold upd; rw [if_neg h]
/-- two objects of different content stand apart -/
theorem ne_of {H : Hp} {a b : Addr} {o u : HO} (h : H a = some o) (h' : H b = some u) (d : o ≠ u) : a ≠ b := by
  intro e; subst e; rw [h] at h'; exact d (Option.some.inj h')
theorem ne_of_none {H : Hp} {a b : Addr} {o : HO} (h : H a = some o) (h' : H b = none) : a ≠ b := by
  intro e; subst e; rw [h] at h'; cases h'

section
variable (P : Program) (w : World)
def ObjOk (H : Hp) (h : Heap) (a : Addr) : HO → Prop
  | .lst xs => xs.length ≤ sizeLine ∧ ∃ (its : List Value) (n : Nat), Vals xs its ∧ h.get? a = some { cls := .type "list", data := .seq its.toArray n }
  | .tup xs => xs.length ≤ sizeLine ∧ ∃ its : List Value, Vals xs its ∧ IsTup h a its.toArray
  | .dK kvs => kvs.length ≤ sizeLine ∧ (a == sysModules) = false ∧ ∃ vs, KV kvs vs ∧ h.DictOf (mixKind P w) a vs
  | .dT kvs => kvs.length ≤ sizeLine ∧ (a == sysModules) = false ∧ ∃ xs : List (List Key × Addr × Value),
      Paired (fun (p : List Key × V) (q : List Key × Addr × Value) => p.1 = q.1 ∧ H q.2.1 = some (.tup (p.1.map kV)) ∧ RelV p.2 q.2.2) kvs xs ∧
      ∃ o es ep, h.get? a = some o ∧ o.ExactDict ∧ o.data = .dict es ep ∧ es.toList = xs.map (entryOfKey (tupleKind (mixKind P w))) ∧ (xs.map (·.1)).Nodup
  | .set S n => h.SetOf (intKind P w) a S n
  | .ins C dx fs => H dx = some (.own a) ∧ fs.length ≤ 1000 ∧ dx ≠ a ∧ h.get? a = some (PySem.W.instObj C dx) ∧
      ∃ mA, h.Ns1 dx mA ∧ (∀ f, RelO (fs.lookup f) (mA f)) ∧ PySem.Within mA (fs.map (·.1))
  | .own _ => ∃ o, h.get? a = some o
  | .xd fs => ∃ mA, h.Ns1 a mA ∧ ∀ f, RelO (fs.lookup f) (mA f)
  | .rng lo hi => ∃ t u v, h.get? a = some { cls := .type "range", data := .fields #[.int lo t, .int hi u, .int 1 v] }
  | .frz o u => h.get? a = some o ∧ ObjOk H h a u
  | .tbl ps => h.get? a = some { cls := .none, data := .fields ps }
  | .met f x => h.get? a = some (PySem.W.methodObj (.ref f) (.ref x))
  | .ext φ => φ h ∧ (∃ o, h.get? a = some o) ∧ ∀ h1 h2 : Heap, φ h1 → (∀ o, h1.get? a = some o → h2.get? a = some o) → φ h2
/-- the abstract heap is held -/
def HOk (H : Hp) (h : Heap) : Prop := ∀ a o, H a = some o → ObjOk P w H h a o
end

section
variable {P : Program} {w : World} {H H' : Hp} {h h' : Heap} {a : Addr} {o : HO}
theorem ObjOk.lt (x : ObjOk P w H h a o) : a < h.objs.size := by
  cases o with
  | lst xs => obtain ⟨_, _, _, _, e⟩ := x; exact Heap.lt_size e
  | tup xs => obtain ⟨_, _, _, p⟩ := x; exact p.lt
  | dK kvs => obtain ⟨_, _, _, _, o, _, _, e, _⟩ := x; exact Heap.lt_size e
  | dT kvs => obtain ⟨_, _, _, _, o, _, _, e, _⟩ := x; exact Heap.lt_size e
  | set S n => obtain ⟨o, _, _, _, e, _⟩ := x; exact Heap.lt_size e
  | ins C dx fs => obtain ⟨_, _, _, e, _⟩ := x; exact Heap.lt_size e
  | own y => obtain ⟨_, e⟩ := x; exact Heap.lt_size e
  | xd fs => obtain ⟨_, ⟨_, _, _, e, _⟩, _⟩ := x; exact Heap.lt_size e
  | rng lo hi => obtain ⟨_, _, _, e⟩ := x; exact Heap.lt_size e
  | frz ob u => obtain ⟨e, _⟩ := x; exact Heap.lt_size e
  | tbl ps => exact Heap.lt_size (show h.get? a = some _ from x)
  | met f y => exact Heap.lt_size (show h.get? a = some _ from x)
  | ext φ => obtain ⟨_, ⟨_, e⟩, _⟩ := x; exact Heap.lt_size e
theorem Paired.mapP {α β : Type} {F G : α → β → Prop} : ∀ {l₁ : List α} {l₂ : List β}, Paired F l₁ l₂ → (∀ a b, F a b → G a b) → Paired G l₁ l₂
  | _, _, .nil, _ => .nil
  | _, _, .cons r t, f => .cons (f _ _ r) (Paired.mapP t f)
/-- what an object's description leans on: its own object, its own dict, the tuples -/
theorem ObjOk.stay (x : ObjOk P w H h a o) (k : ∀ b u, (b = a ∨ H b = some (.own a)) → h.get? b = some u → h'.get? b = some u)
    (ho : ∀ b, H b = some (.own a) → H' b = some (.own a)) (ht : ∀ b xs, H b = some (.tup xs) → H' b = some (.tup xs)) : ObjOk P w H' h' a o := by
  induction o with
  | lst xs => obtain ⟨z, its, n, r, e⟩ := x; exact ⟨z, its, n, r, k _ _ (.inl rfl) e⟩
  | tup xs => obtain ⟨z, its, r, ob, e, c⟩ := x; exact ⟨z, its, r, ob, k _ _ (.inl rfl) e, c⟩
  | dK kvs => obtain ⟨z, y, vs, r, ob, es, ep, e, c⟩ := x; exact ⟨z, y, vs, r, ob, es, ep, k _ _ (.inl rfl) e, c⟩
  | dT kvs =>
    obtain ⟨z, y, xs, r, ob, es, ep, e, c⟩ := x
    exact ⟨z, y, xs, Paired.mapP r fun p q z => ⟨z.1, ht _ _ z.2.1, z.2.2⟩, ob, es, ep, k _ _ (.inl rfl) e, c⟩
  | set S n => obtain ⟨ob, es, ep, t, e, c⟩ := x; exact ⟨ob, es, ep, t, k _ _ (.inl rfl) e, c⟩
  | ins C dx fs =>
    obtain ⟨d, z, ne, e, mA, ⟨od, es, ep, e2, c⟩, r⟩ := x
    exact ⟨ho _ d, z, ne, k _ _ (.inl rfl) e, mA, ⟨od, es, ep, k _ _ (.inr d) e2, c⟩, r⟩
  | own y => obtain ⟨ob, e⟩ := x; exact ⟨ob, k _ _ (.inl rfl) e⟩
  | xd fs => obtain ⟨mA, ⟨od, es, ep, e, c⟩, r⟩ := x; exact ⟨mA, ⟨od, es, ep, k _ _ (.inl rfl) e, c⟩, r⟩
  | rng lo hi => obtain ⟨t, u, v, e⟩ := x; exact ⟨t, u, v, k _ _ (.inl rfl) e⟩
  | frz ob u ih => obtain ⟨e, q⟩ := x; exact ⟨k _ _ (.inl rfl) e, ih q⟩
  | tbl ps =>
    have e : h.get? a = some { cls := .none, data := .fields ps } := x
    show h'.get? a = some { cls := .none, data := .fields ps }
    exact k a _ (.inl rfl) e
  | met f y =>
    have e : h.get? a = some (PySem.W.methodObj (.ref f) (.ref y)) := x
    show h'.get? a = some (PySem.W.methodObj (.ref f) (.ref y))
    exact k a _ (.inl rfl) e
  | ext φ => obtain ⟨p, ⟨o, e⟩, st⟩ := x; exact ⟨st _ _ p fun o q => k _ _ (.inl rfl) q, ⟨o, k _ _ (.inl rfl) e⟩, st⟩
theorem HOk.lt (x : HOk P w H h) (e : H a = some o) : a < h.objs.size := (x a o e).lt
theorem HOk.fresh (x : HOk P w H h) (e : h.objs.size ≤ a) : H a = none := by
  cases q : H a with
  | none => rfl
  | some u => exact absurd (Nat.lt_of_lt_of_le (x.lt q) e) (Nat.lt_irrefl _)
/-- every object of the heap is kept -/
theorem HOk.kept (x : HOk P w H h) (k : ∀ b u, h.get? b = some u → h'.get? b = some u) : HOk P w H h' := fun a o e =>
  (x a o e).stay (fun b u _ q => k b u q) (fun _ q => q) fun _ _ q => q
/-- a new object is laid and tracked -/
theorem HOk.laid (x : HOk P w H h) (k : ∀ b u, h.get? b = some u → h'.get? b = some u) (hp : h.objs.size ≤ a) (new : ObjOk P w (upd H a o) h' a o) : HOk P w (upd H a o) h' := fun b u e => by
  have hn := x.fresh hp
  by_cases hb : b = a
  · subst hb; rw [upd_same] at e; cases e; exact new
  · rw [upd_ne hb] at e
    exact (x b u e).stay (fun c v _ q => k c v q) (fun c q => by rw [upd_ne (ne_of_none q hn)]; exact q) fun c xs q => by rw [upd_ne (ne_of_none q hn)]; exact q
end

/-- what may be read as u: it is u, or a known u -/
def Rd (H : Hp) (a : Addr) (u : HO) : Prop := H a = some u ∨ ∃ o, H a = some (.frz o u)
theorem Rd.ok {P : Program} {w : World} {H : Hp} {h : Heap} {a : Addr} {u : HO} (r : Rd H a u) (x : HOk P w H h) : ObjOk P w H h a u := by
  rcases r with r | ⟨o, r⟩
  · exact x a u r
  · obtain ⟨_, q⟩ := x a _ r
    exact q
/-- what may be written -/
def Mut : Option HO → Prop
  | some (.lst _) => True
  | some (.dK _) => True
  | some (.dT _) => True
  | some (.set _ _) => True
  | some (.ins _ _ _) => True
  | some (.ext _) => True
  | _ => False
section
variable {P : Program} {w : World} {H : Hp} {h h' : Heap} {x e : Addr} {o' : HO}
/-- the object at e is changed: x itself, or the dict of the instance x -/
theorem HOk.write (ok : HOk P w H h) (mu : Mut (H x)) (he : e = x ∨ H e = some (.own x)) (k : ∀ b u, b ≠ e → h.get? b = some u → h'.get? b = some u) (heo : ∃ u, h'.get? e = some u)
    (new : ObjOk P w (upd H x o') h' x o') : HOk P w (upd H x o') h' := fun b u q => by
  have nown : ∀ c y, H c = some (.own y) → c ≠ x := fun c y r z => by subst z; rw [r] at mu; exact mu
  have ntup : ∀ c xs, H c = some (.tup xs) → c ≠ x := fun c xs r z => by subst z; rw [r] at mu; exact mu
  by_cases hb : b = x
  · subst hb; rw [upd_same] at q; cases q; exact new
  · rw [upd_ne hb] at q
    by_cases hbe : b = e
    · have q' : H b = some (.own x) := by
        rcases he with z | z
        · exact absurd (hbe.trans z) hb
        · rw [hbe]; exact z
      rw [q] at q'; cases q'
      obtain ⟨v, hv⟩ := heo
      exact ⟨v, by rw [hbe]; exact hv⟩
    · refine (ok b u q).stay (fun c v hc r => k c v ?_ r) (fun c r => by rw [upd_ne (nown c b r)]; exact r) fun c xs r => by rw [upd_ne (ntup c xs r)]; exact r
      rcases hc with rfl | hc
      · exact hbe
      · rintro rfl
        rcases he with z | z
        · exact nown c b hc z
        · rw [hc] at z; cases z; exact hb rfl
end

/-! ### kept unless tracked; of the frames at fs (the callers') the slots may change (an exception that passes writes there); of the records at ex (iterators) nothing is said -/
structure Un (fs ex : List Addr) (H H' : Hp) (h h' : Heap) : Prop where
  keep : ∀ b o, h.get? b = some o → H b = none → b ∉ fs → b ∉ ex → h'.get? b = some o
  slot : ∀ b o, h.get? b = some o → H b = none → b ∈ fs → b ∉ ex → ∃ sl, h'.get? b = some { o with slots := sl }
  free : ∀ b o, h.get? b = some o → H b = none → b ∉ ex → H' b = none
  there : ∀ b o, h.get? b = some o → b ∉ ex → ∃ o', h'.get? b = some o'
  tups : ∀ b xs, H b = some (.tup xs) → H' b = some (.tup xs)
  frzs : ∀ b o u, H b = some (.frz o u) → H' b = some (.frz o u)
  tbls : ∀ b ps, H b = some (.tbl ps) → ∃ more, H' b = some (.tbl (ps ++ more))
section
variable {fs fs' ex ex' : List Addr} {H H1 H2 : Hp} {h h1 h2 h' : Heap} {a x e : Addr} {o : HO}
theorem Un.any (u : Un fs ex H H1 h h1) {b : Addr} {ob : Obj} (q : h.get? b = some ob) (n : H b = none) (hx : b ∉ ex) : ∃ sl, h1.get? b = some { ob with slots := sl } := by
  by_cases hb : b ∈ fs
  · exact u.slot b ob q n hb hx
  · exact ⟨ob.slots, u.keep b ob q n hb hx⟩
theorem Un.kept (k : ∀ b u, h.get? b = some u → h'.get? b = some u) : Un fs ex H H h h' :=
  ⟨fun b ob q _ _ _ => k b ob q, fun b ob q _ _ _ => ⟨ob.slots, k b ob q⟩, fun _ _ _ n _ => n, fun b ob q _ => ⟨ob, k b ob q⟩, fun _ _ q => q, fun _ _ _ q => q, fun _ ps q => ⟨#[], by rw [q]; simp⟩⟩
theorem Un.refl : Un fs ex H H h h := Un.kept fun _ _ q => q
theorem Un.laid (k : ∀ b u, h.get? b = some u → h'.get? b = some u) (hp : h.objs.size ≤ a) (hn : H a = none) : Un fs ex H (upd H a o) h h' where
  keep := fun b u q _ _ _ => k b u q
  slot := fun b u q _ _ _ => ⟨u.slots, k b u q⟩
  free := fun b u q n _ => by rw [upd_ne (Nat.ne_of_lt (Nat.lt_of_lt_of_le (Heap.lt_size q) hp))]; exact n
  there := fun b u q _ => ⟨u, k b u q⟩
  tups := fun b xs q => by rw [upd_ne (ne_of_none q hn)]; exact q
  frzs := fun b u xs q => by rw [upd_ne (ne_of_none q hn)]; exact q
  tbls := fun b ps q => ⟨#[], by rw [upd_ne (ne_of_none q hn), q]; simp⟩
theorem Un.write (mu : Mut (H x)) (he : e = x ∨ H e = some (.own x)) (k : ∀ b u, b ≠ e → h.get? b = some u → h'.get? b = some u) (heo : ∃ u, h'.get? e = some u) : Un fs ex H (upd H x o) h h' := by
  have hx : ∀ b, H b = none → b ≠ x := fun b n z => by subst z; rw [n] at mu; exact mu
  have hb : ∀ b, H b = none → b ≠ e := fun b n z => by
    subst z
    rcases he with r | r
    · exact hx b n r
    · rw [n] at r; cases r
  have hm : ∀ b u, H b = some u → ¬ Mut (some u) → b ≠ x := fun b u q nm z => by subst z; rw [q] at mu; exact nm mu
  refine ⟨fun b u q n _ _ => k b u (hb b n) q, fun b u q n _ _ => ⟨u.slots, k b u (hb b n) q⟩, fun b u q n _ => by rw [upd_ne (hx b n)]; exact n, fun b u q _ => ?_,
    fun b xs q => by rw [upd_ne (hm b _ q fun z => z)]; exact q, fun b u xs q => by rw [upd_ne (hm b _ q fun z => z)]; exact q, fun b ps q => ⟨#[], by rw [upd_ne (hm b _ q fun z => z), q]; simp⟩⟩
  by_cases hbe : b = e
  · subst hbe; exact heo
  · exact ⟨u, k b u hbe q⟩
end

/-! ### the heap without what is tracked -/
def trk (h : Heap) (H : Hp) : List Addr := (List.range h.objs.size).filter fun a => (H a).isSome
def hidT (h : Heap) (H : Hp) : Heap := PySem.W.hideAll h (trk h H)
theorem hidT_size (h : Heap) (H : Hp) : (hidT h H).objs.size = h.objs.size := PySem.W.hideAll_size _ _
theorem hidT_get {h : Heap} {H : Hp} {b : Addr} {o : Obj} (e : h.get? b = some o) (n : H b = none) : (hidT h H).get? b = some o :=
  PySem.W.hideAll_get _ e fun hm => by
    have q : (H b).isSome = true := (List.mem_filter.mp hm).2
    rw [n] at q; simp at q
theorem of_hidT {h : Heap} {H : Hp} {b : Addr} {o : Obj} (e : (hidT h H).get? b = some o) : h.get? b = some o ∧ H b = none := by
  have e' : h.get? b = some o := PySem.W.of_hideAll (trk h H) e
  refine ⟨e', ?_⟩
  cases q : H b with
  | none => rfl
  | some x =>
    have hm : b ∈ trk h H := List.mem_filter.mpr ⟨List.mem_range.mpr (Heap.lt_size e'), by simp [q]⟩
    have z : (hidT h H).get? b = none := PySem.W.hideAll_none (trk h H) hm
    rw [z] at e; cases e

/-! ### OpenK's ledger, filled with every new object but one -/
end L2

namespace L2
open PySem PySem.Spec PyProof.Rows

/-- the module's facts, over the base: the heap at the law's entry without what is tracked there -/
structure Mod (K : PySem.W.Frag) (mg : Str → Option Value) (base : Heap) : Prop where
  kin : K.In base
  glob : base.Ns mainGlobals mg
  blt : ∃ mb, base.Ns builtinsNs mb ∧ ∀ x : Str, x ≠ "__name__" → mb x = bootBuiltins x
  nolimit : base.NoLimit

/-- the context: a def's body (or a comprehension's block) running. base: fixed through the whole law; s₀, H₀: the entry; outer: the frames whose slots others may change (a def's callers); stack: all frames that run;
   ex: iterators that were made ahead of the entry and are walked here (a comprehension's); fn: the names whose cells were made at the entry (a def: all; a comprehension's block: its own); calm: not within an except suite; pn: pins that every state bears; xe: what is wanted of an exception that leaves the code -/
structure Cx where
  prog : Program
  w : World
  K : PySem.W.Frag
  mg : Str → Option Value
  base : Heap
  A : Around
  N : List Str
  s₀ : Shared
  H₀ : Hp
  env : Env
  outer : List Env
  stack : List Env
  ex : List Addr
  fn : Str → Bool
  calm : Bool
  pn : List (Addr × Obj)
  xe : Value → Shared → Prop
/-- the callers' frames -/
def frs (l : List Env) : List Addr := l.filterMap (·.frame)
abbrev Cx.fs (X : Cx) : List Addr := frs X.outer

def Vis (sc : Scope) (x : Str) : Prop := sc.names.lookup x = some .local ∨ sc.names.lookup x = some .cell ∨ sc.names.lookup x = some .free
def Loc (sc : Scope) (x : Str) : Prop := sc.names.lookup x = some .local ∨ sc.names.lookup x = some .cell
def Look (env : Env) (h : Heap) (m : Str → Option Value) (x : Str) (u : Value) : Prop :=
  (env.kindOf x = some .local ∧ m x = some u) ∨ ((env.kindOf x = some .cell ∨ env.kindOf x = some .free) ∧ ∃ c, env.cells.lookup x = some c ∧ h.IsCell c (some u))

structure Cx.Ok (X : Cx) : Prop where
  mod : Mod X.K X.mg X.base
  kind : X.env.scope.kind = .function
  glob : X.env.globals = mainGlobals
  blt : X.env.builtins = builtinsNs
  above : X.s₀.heap.objs.size ≤ X.env.locals
  inj : ∀ x y c, X.env.cells.lookup x = some c → X.env.cells.lookup y = some c → x = y
  has : ∀ x, (X.env.kindOf x = some .cell ∨ X.env.kindOf x = some .free) → ∃ c, X.env.cells.lookup x = some c
  cab : ∀ x c, X.fn x = true → X.env.cells.lookup x = some c → X.s₀.heap.objs.size ≤ c
  hd : X.calm = true → X.A.handled = none
  frames : X.A.frames = some X.stack
  stk : X.stack = X.outer ∨ (X.stack = X.env :: X.outer ∧ X.env.frame = some X.env.locals)
  exf : ∀ b ∈ X.ex, b ≠ X.env.locals ∧ ∀ x c, X.env.cells.lookup x = some c → c ≠ b
  bs : ∀ b o, X.base.get? b = some o → X.s₀.heap.get? b = some o ∧ X.H₀ b = none
  bsz : X.base.objs.size ≤ X.s₀.heap.objs.size
  noex : ∀ b o, X.base.get? b = some o → b ∉ X.ex
  exfs : ∀ b ∈ X.ex, b ∉ X.fs
  funs : X.s₀.heap.FunFrames X.base X.outer
  frf : ∀ b ∈ X.fs, X.H₀ b = none

structure Inv (X : Cx) (pins : List (Addr × Obj)) (σ : List (Option V)) (H : Hp) (s : Shared) : Prop where
  ok : X.Ok
  os : s.os = X.s₀.os
  bare : AllBare s.gens
  base : Un X.fs X.ex X.H₀ H X.s₀.heap s.heap
  loc : ∃ m, s.heap.Ns X.env.locals m ∧ ∀ (i : Nat) (x : Str) (v : V), X.N[i]? = some x → σ[i]? = some (some v) → Vis X.env.scope x → ∃ u, RelV v u ∧ Look X.env s.heap m x u
  cell : ∀ x c, X.env.cells.lookup x = some c → ∃ v, s.heap.IsCell c v
  free : H X.env.locals = none
  freeC : ∀ x c, X.env.cells.lookup x = some c → H c = none
  pin : ∀ p ∈ X.pn ++ pins, s.heap.get? p.1 = some p.2 ∧ H p.1 = none ∧ p.1 ≠ X.env.locals ∧ p.1 ∉ X.fs ∧ ∀ v, p.2.data ≠ .cell v
  hok : HOk X.prog X.w H s.heap
  len : σ.length = X.N.length

section
variable {X : Cx} {pins : List (Addr × Obj)} {σ : List (Option V)} {H H' : Hp} {s : Shared} {h' : Heap}

theorem Cx.Ok.nofr (ok : X.Ok) {b : Addr} {o : Obj} (e : X.base.get? b = some o) : b ∉ X.fs := fun hb => by
  have := (ok.funs.mem hb).1
  rw [e] at this; cases this
theorem Inv.bs (I : Inv X pins σ H s) : ∀ b o, X.base.get? b = some o → s.heap.get? b = some o ∧ H b = none := fun b o e =>
  ⟨I.base.keep b o (I.ok.bs b o e).1 (I.ok.bs b o e).2 (I.ok.nofr e) (I.ok.noex b o e), I.base.free b o (I.ok.bs b o e).1 (I.ok.bs b o e).2 (I.ok.noex b o e)⟩
theorem Inv.bk (I : Inv X pins σ H s) : ∀ b o, X.base.get? b = some o → s.heap.get? b = some o := fun b o e => (I.bs b o e).1
theorem Inv.mod (I : Inv X pins σ H s) : Mod X.K X.mg X.base := I.ok.mod
theorem Inv.kIn (I : Inv X pins σ H s) : X.K.In s.heap := I.ok.mod.kin.keeps I.bk
theorem Inv.lt (I : Inv X pins σ H s) : X.env.locals < s.heap.objs.size := let ⟨_, hn, _⟩ := I.loc; hn.lt
theorem Inv.sz (I : Inv X pins σ H s) : X.s₀.heap.objs.size ≤ s.heap.objs.size := Nat.le_trans I.ok.above (Nat.le_of_lt I.lt)
theorem Inv.nofs (I : Inv X pins σ H s) {a : Addr} (h : s.heap.objs.size ≤ a) : a ∉ X.fs := fun hb => by
  obtain ⟨_, o, ho, _⟩ := I.ok.funs.mem hb
  exact absurd (Nat.lt_of_lt_of_le (Heap.lt_size ho) (Nat.le_trans I.sz h)) (Nat.lt_irrefl _)
theorem Inv.cne (I : Inv X pins σ H s) : ∀ x c, X.env.cells.lookup x = some c → c ≠ X.env.locals := fun x c e z => by
  obtain ⟨v, o, ho, hd⟩ := I.cell x c e
  obtain ⟨m, ⟨o', es, ep, ho', hd', _⟩, _⟩ := I.loc
  rw [z, ho'] at ho; cases ho; rw [hd'] at hd; cases hd
theorem Inv.funs (I : Inv X pins σ H s) : s.heap.FunFrames X.base X.outer := by
  have all : ∀ (l : List Env), (∀ b ∈ frs l, b ∈ X.fs) → X.s₀.heap.FunFrames X.base l → s.heap.FunFrames X.base l := by
    intro l
    induction l with
    | nil => intro _ _; trivial
    | cons env r ih =>
      intro hs hl
      obtain ⟨hk, ⟨L, o, hf, hn, ho, hd⟩, hr⟩ := hl
      have hL : L ∈ X.fs := hs L (by unfold frs; rw [List.filterMap_cons, hf]; exact List.mem_cons_self)
      obtain ⟨sl, e⟩ := I.base.slot L o ho (I.ok.frf L hL) hL fun z => I.ok.exfs L z hL
      exact ⟨hk, ⟨L, _, hf, hn, e, hd⟩, ih (fun b hb => hs b (by unfold frs; rw [List.filterMap_cons, hf]; exact List.mem_cons_of_mem _ hb)) hr⟩
  exact all X.outer (fun _ hb => hb) I.ok.funs

/-- the frames that run, for a call -/
theorem Inv.stack (I : Inv X pins σ H s) : s.heap.FunFrames X.base X.stack := by
  rcases I.ok.stk with e | ⟨e, hf⟩
  · rw [e]; exact I.funs
  · rw [e]
    obtain ⟨m, hn, _⟩ := I.loc
    refine .cons (by rw [I.ok.kind]; decide) hf hn ?_ I.funs
    exact Heap.get?_none_of_le (Nat.le_trans I.ok.bsz I.ok.above)
theorem Inv.stkSub (I : Inv X pins σ H s) : ∀ b ∈ frs X.stack, b ∈ X.env.locals :: X.fs := fun b hb => by
  rcases I.ok.stk with e | ⟨e, hf⟩
  · rw [e] at hb; exact List.mem_cons_of_mem _ hb
  · rw [e] at hb
    unfold frs at hb
    rw [List.filterMap_cons, hf] at hb
    exact hb
theorem Inv.stkFree (I : Inv X pins σ H s) : ∀ b ∈ frs X.stack, H b = none := fun b hb => by
  rcases List.mem_cons.mp (I.stkSub b hb) with e | hb
  · rw [e]; exact I.free
  · obtain ⟨_, o, ho, _⟩ := I.ok.funs.mem hb
    exact I.base.free b o ho (I.ok.frf b hb) fun z => I.ok.exfs b z hb

/-- THE STEP: the untracked objects but the frame and the records at ch are kept (the callers' frames up to slots), the frame's map is kept, the new abstract heap is held -/
theorem Inv.step {g' : Array GenState} {t' : Nat} {d' : Drawn} {ch : List Addr} (I : Inv X pins σ H s)
    (hch : ∀ b ∈ ch, (b ∈ X.ex ∨ X.s₀.heap.objs.size ≤ b) ∧ b ≠ X.env.locals ∧ (∀ x c, X.env.cells.lookup x = some c → c ≠ b) ∧ ∀ p ∈ X.pn ++ pins, p.1 ≠ b)
    (keep : ∀ b o, b ≠ X.env.locals → b ∉ X.fs → b ∉ ch → s.heap.get? b = some o → H b = none → h'.get? b = some o)
    (slot : ∀ b o, b ≠ X.env.locals → b ∈ X.fs → b ∉ ch → s.heap.get? b = some o → H b = none → ∃ sl, h'.get? b = some { o with slots := sl }) (free : ∀ b o, b ∉ ch → s.heap.get? b = some o → H b = none → H' b = none)
    (there : ∀ b o, b ∉ ch → s.heap.get? b = some o → ∃ o', h'.get? b = some o')
    (tups : ∀ b xs, H b = some (.tup xs) → H' b = some (.tup xs)) (frzs : ∀ b o u, H b = some (.frz o u) → H' b = some (.frz o u)) (tbls : ∀ b ps, H b = some (.tbl ps) → ∃ more, H' b = some (.tbl (ps ++ more)))
    (ns : ∀ m, s.heap.Ns X.env.locals m → h'.Ns X.env.locals m) (hok : HOk X.prog X.w H' h') (hg : AllBare g') :
    Inv X pins σ H' { s with heap := h', gens := g', drawn := d', toks := t' } := by
  have neL : ∀ b o, X.s₀.heap.get? b = some o → b ≠ X.env.locals := fun b o e => Nat.ne_of_lt (Nat.lt_of_lt_of_le (Heap.lt_size e) I.ok.above)
  have neC : ∀ b o, X.s₀.heap.get? b = some o → b ∉ X.ex → b ∉ ch := fun b o e hx hb => by
    rcases (hch b hb).1 with z | z
    · exact hx z
    · exact absurd (Nat.lt_of_lt_of_le (Heap.lt_size e) z) (Nat.lt_irrefl _)
  have cellK : ∀ x c, X.env.cells.lookup x = some c → ∀ v, s.heap.IsCell c v → h'.IsCell c v := fun x c e v ⟨o, ho, hd⟩ => by
    have nch : c ∉ ch := fun z => (hch c z).2.2.1 x c e rfl
    by_cases hc : c ∈ X.fs
    · obtain ⟨sl, q⟩ := slot c o (I.cne x c e) hc nch ho (I.freeC x c e)
      exact ⟨_, q, hd⟩
    · exact ⟨o, keep c o (I.cne x c e) hc nch ho (I.freeC x c e), hd⟩
  refine ⟨I.ok, I.os, hg, ⟨fun b o e n hb hx => ?_, fun b o e n hb hx => ?_, fun b o e n hx => ?_, fun b o e hx => ?_, fun b xs e => tups b xs (I.base.tups b xs e), fun b o xs e => frzs b o xs (I.base.frzs b o xs e), fun b ps e => ?_⟩, ?_, fun x c e => ?_, ?_, fun x c e => ?_, fun p hp => ?_, hok, I.len⟩
  · exact keep b o (neL b o e) hb (neC b o e hx) (I.base.keep b o e n hb hx) (I.base.free b o e n hx)
  · obtain ⟨sl, e1⟩ := I.base.slot b o e n hb hx
    obtain ⟨sl', e2⟩ := slot b _ (neL b o e) hb (neC b o e hx) e1 (I.base.free b o e n hx)
    exact ⟨sl', e2⟩
  · obtain ⟨o', e1⟩ := I.base.there b o e hx
    exact free b o' (neC b o e hx) e1 (I.base.free b o e n hx)
  · obtain ⟨o', e1⟩ := I.base.there b o e hx
    exact there b o' (neC b o e hx) e1
  · obtain ⟨m1, e1⟩ := I.base.tbls b ps e
    obtain ⟨m2, e2⟩ := tbls b _ e1
    exact ⟨m1 ++ m2, by rw [e2, Array.append_assoc]⟩
  · obtain ⟨m, hn, hl⟩ := I.loc
    refine ⟨m, ns m hn, fun i x v e1 e2 e3 => ?_⟩
    obtain ⟨u, r, l⟩ := hl i x v e1 e2 e3
    refine ⟨u, r, ?_⟩
    rcases l with l | ⟨k, c, e, z⟩
    · exact .inl l
    · exact .inr ⟨k, c, e, cellK x c e _ z⟩
  · obtain ⟨v, z⟩ := I.cell x c e
    exact ⟨v, cellK x c e v z⟩
  · obtain ⟨m, ⟨o, _, _, ho, _⟩, _⟩ := I.loc
    exact free _ o (fun z => (hch _ z).2.1 rfl) ho I.free
  · obtain ⟨v, o, ho, hd⟩ := I.cell x c e
    exact free c o (fun z => (hch c z).2.2.1 x c e rfl) ho (I.freeC x c e)
  · obtain ⟨e, n, ne, nf, d⟩ := I.pin p hp
    have nch : p.1 ∉ ch := fun z => (hch p.1 z).2.2.2 p hp rfl
    exact ⟨keep p.1 p.2 ne nf nch e n, free p.1 p.2 nch e n, ne, nf, d⟩
/-- .. where the frame's own object is kept too -/
theorem Inv.un {t' : Nat} (I : Inv X pins σ H s) (u : Un X.fs [] H H' s.heap h') (hok : HOk X.prog X.w H' h') : Inv X pins σ H' { s with heap := h', toks := t' } := by
  obtain ⟨m, ⟨o, es, ep, ho, r⟩, _⟩ := id I.loc
  obtain ⟨sl, hL⟩ := u.any ho I.free (by simp)
  exact I.step (g' := s.gens) (d' := s.drawn) (ch := []) (fun _ z => nomatch z) (fun b o _ hb _ e n => u.keep b o e n hb (by simp)) (fun b o _ hb _ e n => u.slot b o e n hb (by simp)) (fun b o _ e n => u.free b o e n (by simp)) (fun b o _ e => u.there b o e (by simp)) u.tups u.frzs u.tbls (fun m' hm => by
    obtain ⟨o', es', ep', ho', r'⟩ := hm
    rw [ho] at ho'; cases ho'
    exact ⟨_, es', ep', hL, r'⟩) hok I.bare
/-- behind a call (or a comprehension's block): the slots of this frame may have changed too, the records at ch may have turned -/
theorem Inv.call {g' : Array GenState} {t' : Nat} {d' : Drawn} {ch : List Addr} (I : Inv X pins σ H s) (u : Un (frs X.stack) ch H H' s.heap h') (hok : HOk X.prog X.w H' h') (hg : AllBare g')
    (hch : ∀ b ∈ ch, (b ∈ X.ex ∨ X.s₀.heap.objs.size ≤ b) ∧ b ≠ X.env.locals ∧ (∀ x c, X.env.cells.lookup x = some c → c ≠ b) ∧ ∀ p ∈ X.pn ++ pins, p.1 ≠ b) :
    Inv X pins σ H' { s with heap := h', gens := g', drawn := d', toks := t' } := by
  obtain ⟨m, ⟨o, es, ep, ho, r⟩, _⟩ := id I.loc
  obtain ⟨sl, hL⟩ := u.any ho I.free fun z => (hch _ z).2.1 rfl
  exact I.step (ch := ch) hch (fun b o hL hb hc e n => u.keep b o e n (fun z => (List.mem_cons.mp (I.stkSub b z)).elim hL hb) hc) (fun b o _ _ hc e n => u.any e n hc) (fun b o hc e n => u.free b o e n hc) (fun b o hc e => u.there b o e hc) u.tups u.frzs u.tbls (fun m' hm => by
    obtain ⟨o', es', ep', ho', r'⟩ := hm
    rw [ho] at ho'; cases ho'
    exact ⟨_, es', ep', hL, r'⟩) hok hg
/-- an untracked record of ours (an iterator) has turned -/
theorem Inv.turned {t' : Nat} {it : Addr} (I : Inv X pins σ H s) (k : ∀ b o, b ≠ it → s.heap.get? b = some o → h'.get? b = some o) (hn : H it = none) (hL : it ≠ X.env.locals)
    (h1 : it ∈ X.ex ∨ X.s₀.heap.objs.size ≤ it) (h2 : ∀ x c, X.env.cells.lookup x = some c → c ≠ it) (h3 : ∀ p ∈ X.pn ++ pins, p.1 ≠ it) : Inv X pins σ H { s with heap := h', toks := t' } := by
  have nit : ∀ b u, H b = some u → b ≠ it := fun b u e z => by rw [z, hn] at e; cases e
  refine I.step (g' := s.gens) (d' := s.drawn) (ch := [it]) (fun b hb => ?_) (fun b o _ _ hc e _ => k b o (fun z => hc (by simp [z])) e) (fun b o _ _ hc e _ => ⟨o.slots, k b o (fun z => hc (by simp [z])) e⟩) (fun _ _ _ _ n => n)
    (fun b o hc e => ⟨o, k b o (fun z => hc (by simp [z])) e⟩) (fun _ _ e => e) (fun _ _ _ e => e) (fun b ps e => ⟨#[], by rw [e]; simp⟩) (fun m hm => ?_) (fun b u e => ?_) I.bare
  · have e : b = it := by simpa using hb
    subst e
    exact ⟨h1, hL, h2, h3⟩
  · obtain ⟨o, es, ep, ho, r⟩ := hm
    exact ⟨o, es, ep, k _ o (Ne.symm hL) ho, r⟩
  · refine (I.hok b u e).stay (fun c v hc q => k c v ?_ q) (fun _ q => q) fun _ _ q => q
    rcases hc with z | z
    · rw [z]; exact nit b u e
    · exact nit c _ z
theorem Inv.tok (I : Inv X pins σ H s) (t : Nat) : Inv X pins σ H { s with toks := t } := I.un (h' := s.heap) (t' := t) Un.refl I.hok
/-- all objects kept -/
theorem Inv.kept {t' : Nat} (I : Inv X pins σ H s) (k : ∀ b u, s.heap.get? b = some u → h'.get? b = some u) : Inv X pins σ H { s with heap := h', toks := t' } := I.un (Un.kept k) (I.hok.kept k)
/-- a new object laid and tracked -/
theorem Inv.laid {a : Addr} {o : HO} {t' : Nat} (I : Inv X pins σ H s) (k : ∀ b u, s.heap.get? b = some u → h'.get? b = some u) (hp : s.heap.objs.size ≤ a) (new : ObjOk X.prog X.w (upd H a o) h' a o) :
    Inv X pins σ (upd H a o) { s with heap := h', toks := t' } := I.un (Un.laid k hp (I.hok.fresh hp)) (I.hok.laid k hp new)
/-- an object written -/
theorem Inv.write {x e : Addr} {o : HO} {t' : Nat} (I : Inv X pins σ H s) (mu : Mut (H x)) (he : e = x ∨ H e = some (.own x)) (k : ∀ b u, b ≠ e → s.heap.get? b = some u → h'.get? b = some u) (heo : ∃ u, h'.get? e = some u)
    (new : ObjOk X.prog X.w (upd H x o) h' x o) : Inv X pins σ (upd H x o) { s with heap := h', toks := t' } := I.un (Un.write mu he k heo) (I.hok.write mu he k heo new)
theorem Inv.pins_of {pins' : List (Addr × Obj)} (I : Inv X pins σ H s) (h : ∀ p ∈ pins', s.heap.get? p.1 = some p.2 ∧ H p.1 = none ∧ p.1 ≠ X.env.locals ∧ p.1 ∉ X.fs ∧ ∀ v, p.2.data ≠ .cell v) : Inv X pins' σ H s :=
  ⟨I.ok, I.os, I.bare, I.base, I.loc, I.cell, I.free, I.freeC, fun p hp => (List.mem_append.mp hp).elim (fun z => I.pin p (List.mem_append_left _ z)) (h p), I.hok, I.len⟩

theorem nodup_ix {N : List Str} (hN : N.Nodup) {i j : Nat} {x : Str} (a : N[i]? = some x) (b : N[j]? = some x) : i = j := by
  obtain ⟨h1, e1⟩ := List.getElem?_eq_some_iff.mp a
  obtain ⟨h2, e2⟩ := List.getElem?_eq_some_iff.mp b
  exact (List.getElem_inj hN).mp (e1.trans e2.symm)

/-- a name is stored; what changed -/
theorem store_ok2 {M : Model} {A : Around} {E : Value → Shared → Prop} {i : Nat} {x : Str} {v : V} {u : Value} {Q : Unit → Shared → Prop} (I : Inv X pins σ H s) (hN : X.N.Nodup) (hi : X.N[i]? = some x) (hx : Loc X.env.scope x) (r : RelV v u)
    (h : ∀ s', Inv X pins (σ.set i (some v)) H s' → (∃ a, Heap.SameBut a s.heap s'.heap ∧ (a = X.env.locals ∨ X.env.cells.lookup x = some a)) → Q () s') (hf : X.fn x = true ∨ X.env.scope.names.lookup x = some .local := by first | exact .inl rfl | exact .inr rfl | assumption) : wpAny M A (storeName X.env x u) Q E s := by
  obtain ⟨m, hn, hl⟩ := id I.loc
  have hcls : (X.env.scope.kind == .class || (X.env.scope.kind == .module && X.env.locals != X.env.globals)) = false := by rw [I.ok.kind]; rfl
  have hiσ : i < σ.length := by rw [I.len]; exact (List.getElem?_eq_some_iff.mp hi).1
  have cne := I.cne
  have tracked : ∀ {a : Addr} {h' : Heap}, (∃ o, s.heap.get? a = some o ∧ H a = none) → Heap.SameBut a s.heap h' → HOk X.prog X.w H h' := fun {a h'} ha hs b ob e => by
    obtain ⟨_, _, hfree⟩ := ha
    refine (I.hok b ob e).stay (fun c w' hc q => (hs.2 c ?_).trans q) (fun _ q => q) fun _ _ q => q
    rintro rfl
    rcases hc with rfl | hc
    · rw [hfree] at e; cases e
    · rw [hfree] at hc; cases hc
  rcases hx with hk | hk
  · refine wpAny_storeName_local hk hn (fun h' hn' hs => ?_) hcls
    obtain ⟨oL, _, _, hoL, _⟩ := id hn
    refine h _ ⟨I.ok, I.os, I.bare, ⟨fun b o e n hb hx => ?_, fun b o e n hb hx => ?_, I.base.free, fun b o e hx => ?_, I.base.tups, I.base.frzs, I.base.tbls⟩, ⟨_, hn', fun j y v' e1 e2 e3 => ?_⟩, fun y c e => ?_, I.free, I.freeC, fun p hp => ?_, tracked ⟨oL, hoL, I.free⟩ hs, by simpa using I.len⟩ ⟨_, hs, .inl rfl⟩
    · exact (hs.2 b (Nat.ne_of_lt (Nat.lt_of_lt_of_le (Heap.lt_size e) I.ok.above))).trans (I.base.keep b o e n hb hx)
    · obtain ⟨sl, e1⟩ := I.base.slot b o e n hb hx
      exact ⟨sl, (hs.2 b (Nat.ne_of_lt (Nat.lt_of_lt_of_le (Heap.lt_size e) I.ok.above))).trans e1⟩
    · obtain ⟨o', e1⟩ := I.base.there b o e hx
      exact ⟨o', (hs.2 b (Nat.ne_of_lt (Nat.lt_of_lt_of_le (Heap.lt_size e) I.ok.above))).trans e1⟩
    · by_cases hj : j = i
      · subst hj
        rw [hi] at e1; cases e1
        rw [List.getElem?_set_self hiσ] at e2
        cases e2
        exact ⟨u, r, .inl ⟨hk, by simp⟩⟩
      · rw [List.getElem?_set_ne (Ne.symm hj)] at e2
        obtain ⟨u', r', q⟩ := hl j y v' e1 e2 e3
        refine ⟨u', r', ?_⟩
        rcases q with ⟨k, e⟩ | ⟨k, c, e, z⟩
        · refine .inl ⟨k, ?_⟩
          have : y ≠ x := fun e => hj (nodup_ix hN e1 (e ▸ hi))
          simp [this, e]
        · exact .inr ⟨k, c, e, z.sameBut hs (cne y c e)⟩
    · obtain ⟨w', z⟩ := I.cell y c e
      exact ⟨w', z.sameBut hs (cne y c e)⟩
    · obtain ⟨e, n, ne, nf, d⟩ := I.pin p hp
      exact ⟨(hs.2 p.1 ne).trans e, n, ne, nf, d⟩
  · have hfn : X.fn x = true := by
      rcases hf with z | z
      · exact z
      · rw [z] at hk; cases hk
    obtain ⟨c, hc⟩ := I.ok.has x (.inl hk)
    obtain ⟨w', z⟩ := I.cell x c hc
    refine wpAny_storeName_cell I.ok.kind hk hc z (fun h' hc' hs => ?_)
    obtain ⟨oc, hoc, hocd⟩ := id z
    refine h { s with heap := h' } ⟨I.ok, I.os, I.bare, ⟨fun b o e n hb hx => ?_, fun b o e n hb hx => ?_, I.base.free, fun b o e hx => ?_, I.base.tups, I.base.frzs, I.base.tbls⟩, ⟨m, hn.sameBut hs (Ne.symm (cne x c hc)), fun j y v' e1 e2 e3 => ?_⟩, fun y c' e => ?_, I.free, I.freeC, fun p hp => ?_, tracked ⟨oc, hoc, I.freeC x c hc⟩ hs, by simpa using I.len⟩ ⟨c, hs, .inr hc⟩
    · exact (hs.2 b (Nat.ne_of_lt (Nat.lt_of_lt_of_le (Heap.lt_size e) (I.ok.cab x c hfn hc)))).trans (I.base.keep b o e n hb hx)
    · obtain ⟨sl, e1⟩ := I.base.slot b o e n hb hx
      exact ⟨sl, (hs.2 b (Nat.ne_of_lt (Nat.lt_of_lt_of_le (Heap.lt_size e) (I.ok.cab x c hfn hc)))).trans e1⟩
    · obtain ⟨o', e1⟩ := I.base.there b o e hx
      exact ⟨o', (hs.2 b (Nat.ne_of_lt (Nat.lt_of_lt_of_le (Heap.lt_size e) (I.ok.cab x c hfn hc)))).trans e1⟩
    · by_cases hj : j = i
      · subst hj
        rw [hi] at e1; cases e1
        rw [List.getElem?_set_self hiσ] at e2
        cases e2
        exact ⟨u, r, .inr ⟨.inl hk, c, hc, hc'⟩⟩
      · rw [List.getElem?_set_ne (Ne.symm hj)] at e2
        obtain ⟨u', r', q⟩ := hl j y v' e1 e2 e3
        refine ⟨u', r', ?_⟩
        rcases q with q | ⟨k, c', e, z'⟩
        · exact .inl q
        · refine .inr ⟨k, c', e, z'.sameBut hs ?_⟩
          rintro rfl
          exact hj (nodup_ix hN e1 (I.ok.inj _ _ _ e hc ▸ hi))
    · by_cases hcc : c' = c
      · subst hcc; exact ⟨_, hc'⟩
      · obtain ⟨w2, z2⟩ := I.cell y c' e
        exact ⟨w2, z2.sameBut hs hcc⟩
    · obtain ⟨e, n, ne, nf, d⟩ := I.pin p hp
      refine ⟨(hs.2 p.1 ?_).trans e, n, ne, nf, d⟩
      intro q
      rw [q, hoc] at e
      have q' : oc = p.2 := Option.some.inj e
      exact d w' (by rw [← q']; exact hocd)
theorem store_ok {M : Model} {A : Around} {E : Value → Shared → Prop} {i : Nat} {x : Str} {v : V} {u : Value} {Q : Unit → Shared → Prop} (I : Inv X pins σ H s) (hN : X.N.Nodup) (hi : X.N[i]? = some x) (hx : Loc X.env.scope x) (r : RelV v u)
    (h : ∀ s', Inv X pins (σ.set i (some v)) H s' → Q () s') (hf : X.fn x = true ∨ X.env.scope.names.lookup x = some .local := by first | exact .inl rfl | exact .inr rfl | assumption) : wpAny M A (storeName X.env x u) Q E s :=
  store_ok2 I hN hi hx r (fun s' I' _ => h s' I') hf
/-- behind a call or a block, the state as it is -/
theorem Inv.call' {s' : Shared} {ch : List Addr} (I : Inv X pins σ H s) (ho : s'.os = s.os) (u : Un (frs X.stack) ch H H' s.heap s'.heap) (hok : HOk X.prog X.w H' s'.heap) (hg : AllBare s'.gens)
    (hch : ∀ b ∈ ch, (b ∈ X.ex ∨ X.s₀.heap.objs.size ≤ b) ∧ b ≠ X.env.locals ∧ (∀ x c, X.env.cells.lookup x = some c → c ≠ b) ∧ ∀ p ∈ X.pn ++ pins, p.1 ≠ b) : Inv X pins σ H' s' := by
  obtain ⟨h', g', d', t', o'⟩ := s'
  have e : o' = s.os := ho
  subst e
  exact I.call (g' := g') (t' := t') (d' := d') u hok hg hch
end

/-! ### the judgements -/
/-- an exception: its class, its own dict's address (where it has one), the abstract heap behind it -/
abbrev XK := Value → Option Addr → Hp → Prop
abbrev St := List (Option V)
abbrev VK := V → Hp → Prop
/-- an expression's reading; a test's; an argument list's -/
abbrev TE := St → Hp → VK → Prop
abbrev TT := St → Hp → (Bool → Hp → Prop) → Prop
abbrev TA := St → Hp → (List V → Hp → Prop) → Prop
/-- what is wanted behind a statement -/
structure Ends where
  nx : St → Hp → Prop
  rt : VK
  bk : St → Hp → Prop := fun _ _ => False
  ct : St → Hp → Prop := fun _ _ => False
abbrev TS := Ends → St → Hp → Prop

def EP (X : Cx) (pins : List (Addr × Obj)) (σ : St) (Q : VK) (u : Value) (s' : Shared) : Prop := ∃ v H', Inv X pins σ H' s' ∧ RelV v u ∧ Q v H'
def TP (X : Cx) (pins : List (Addr × Obj)) (σ : St) (Q : Bool → Hp → Prop) (b : Bool) (s' : Shared) : Prop := ∃ H', Inv X pins σ H' s' ∧ Q b H'
def AP (X : Cx) (pins : List (Addr × Obj)) (σ : St) (Q : List V → Hp → Prop) (us : List Value) (s' : Shared) : Prop := ∃ vs H', Inv X pins σ H' s' ∧ Vals vs us ∧ Q vs H'
def SP (X : Cx) (pins : List (Addr × Obj)) (D : Ends) (f : Flow) (s' : Shared) : Prop :=
  match f with
  | .next => ∃ σ' H', Inv X pins σ' H' s' ∧ D.nx σ' H'
  | .brk => ∃ σ' H', Inv X pins σ' H' s' ∧ D.bk σ' H'
  | .cont => ∃ σ' H', Inv X pins σ' H' s' ∧ D.ct σ' H'
  | .ret u => ∃ v σ' H', Inv X pins σ' H' s' ∧ RelV v u ∧ D.rt v H'

def PE (X : Cx) (e : Expr) (t : TE) : Prop :=
  ∀ (pins : List (Addr × Obj)) (s : Shared) (σ : St) (H : Hp) (Q : VK), Inv X pins σ H s → t σ H Q → wpAny (model X.prog X.w) X.A (eval e X.env) (EP X pins σ Q) X.xe s
def PT (X : Cx) (e : Expr) (t : TT) : Prop :=
  ∀ (pins : List (Addr × Obj)) (s : Shared) (σ : St) (H : Hp) (Q : Bool → Hp → Prop), Inv X pins σ H s → t σ H Q → wpAny (model X.prog X.w) X.A (isTrue e X.env (eval e X.env)) (TP X pins σ Q) X.xe s
/-- a test whatever its 'whole' is (and, or) -/
def PW (X : Cx) (e : Expr) (t : TT) : Prop :=
  ∀ (whole : Sem Value) (pins : List (Addr × Obj)) (s : Shared) (σ : St) (H : Hp) (Q : Bool → Hp → Prop), Inv X pins σ H s → t σ H Q → wpAny (model X.prog X.w) X.A (isTrue e X.env whole) (TP X pins σ Q) X.xe s
theorem PW.pt {X : Cx} {e : Expr} {t : TT} (h : PW X e t) : PT X e t := h _
/-- an argument list (no star), from the left -/
def PA (X : Cx) (es : List Expr) (t : TA) : Prop :=
  ∀ (pos : Pos) (pins : List (Addr × Obj)) (s : Shared) (σ : St) (H : Hp) (Q : List V → Hp → Prop), Inv X pins σ H s → t σ H Q → wpAny (model X.prog X.w) X.A (spliced (backTo pos (starEach es X.env))) (AP X pins σ Q) X.xe s
def PS (X : Cx) (st : Stmt) (t : TS) : Prop :=
  ∀ (pins : List (Addr × Obj)) (s : Shared) (σ : St) (H : Hp) (D : Ends), Inv X pins σ H s → t D σ H → wpAny (model X.prog X.w) X.A (exec st X.env) (SP X pins D) X.xe s
def PSs (X : Cx) (st : List Stmt) (t : TS) : Prop :=
  ∀ (pins : List (Addr × Obj)) (s : Shared) (σ : St) (H : Hp) (D : Ends), Inv X pins σ H s → t D σ H → wpAny (model X.prog X.w) X.A (execs st X.env) (SP X pins D) X.xe s
/-- weaken the end -/
theorem thn {α : Type} {t : Sem α} {Q Q' : α → Shared → Prop} {M : Model} {A : Around} {E : Value → Shared → Prop} {s : Shared} (h : wpAny M A t Q E s) (hQ : ∀ a s, Q a s → Q' a s) : wpAny M A t Q' E s := wpAny_mono h hQ fun _ _ x => x
end L2

namespace L2
open PySem PySem.Spec PyProof.Rows
section
variable {X : Cx}

/-! ### names and constants -/
def tVar (i : Nat) : TE := fun σ H Q => ∃ v, σ[i]? = some (some v) ∧ Q v H
def tC (v : V) : TE := fun _ H Q => Q v H
theorem pe_var {i : Nat} {x : Str} {pos : Pos} (hN : X.N[i]? = some x) (hv : Vis X.env.scope x) (hd : (x == ("__debug__" : Str)) = false := by decide) (hcd : (x == ("__classdict__" : Str)) = false := by decide) : PE X (.Name x pos) (tVar i) := by
  intro pins s σ H Q I h
  obtain ⟨v, e, h⟩ := h
  obtain ⟨m, hn, hl⟩ := I.loc
  obtain ⟨u, r, l⟩ := hl i x v hN e hv
  have fin : EP X pins σ Q u s := ⟨v, H, I, r, h⟩
  rcases l with ⟨hk, hm⟩ | ⟨hk, c, hc, hcell⟩
  · exact wpAny_Name (wpAny_loadName_local I.ok.kind hk hn hm fin) hd
  · rcases hk with hk | hk
    · exact wpAny_Name (wpAny_loadName_cell I.ok.kind hk hc hcell fin) hd
    · exact wpAny_Name (wpAny_loadName_free I.ok.kind hk hc hcell fin hcd) hd
theorem pe_int {i j pos} : PE X (.Constant (.int i) j pos) (tC (.int i)) := fun _ _ _ H _ I h => wpAny_Constant_int ⟨.int i, H, I.tok _, ⟨_, rfl⟩, h⟩
theorem pe_bl {b j pos} : PE X (.Constant (.bool b) j pos) (tC (.bl b)) := fun _ _ _ H _ I h => Constant_bool ⟨.bl b, H, I, rfl, h⟩
theorem pe_non {j pos} : PE X (.Constant .none j pos) (tC .non) := fun _ _ _ H _ I h => Constant_none ⟨.non, H, I, rfl, h⟩
theorem pe_str {x j pos} : PE X (.Constant (.str x) j pos) (tC (.str x)) := fun _ _ _ H _ I h => Calls.Constant_str ⟨.str x, H, I.tok _, ⟨_, rfl⟩, h⟩

/-- a global name of the def -/
def Gl (X : Cx) (x : Str) : Prop := X.env.kindOf x = some .globalImplicit
theorem ld_glob {E : Value → Shared → Prop} {pins : List (Addr × Obj)} {s : Shared} {σ : St} {H : Hp} {x : Str} {u : Value} {pos : Pos} {Q : Value → Shared → Prop} (I : Inv X pins σ H s) (hg : Gl X x) (hm : X.mg x = some u) (h : Q u s)
    (hd : (x == ("__debug__" : Str)) = false := by decide) : wpAny (model X.prog X.w) X.A (eval (.Name x pos) X.env) Q E s :=
  Calls.Name_function_global I.ok.kind hg (Calls.loadGlobal_global (by rw [I.ok.glob]; exact I.mod.glob.keeps I.bk) hm h) hd
theorem ld_blt {E : Value → Shared → Prop} {pins : List (Addr × Obj)} {s : Shared} {σ : St} {H : Hp} {x : Str} {u : Value} {pos : Pos} {Q : Value → Shared → Prop} (I : Inv X pins σ H s) (hg : Gl X x) (hm : X.mg x = none) (hv : bootBuiltins x = some u) (h : Q u s)
    (hn : x ≠ "__name__" := by decide) (hd : (x == ("__debug__" : Str)) = false := by decide) : wpAny (model X.prog X.w) X.A (eval (.Name x pos) X.env) Q E s := by
  obtain ⟨mb, h1, h2⟩ := I.mod.blt
  exact Calls.Name_function_global I.ok.kind hg (Calls.loadGlobal_builtin (by rw [I.ok.glob]; exact I.mod.glob.keeps I.bk) hm (by rw [I.ok.blt]; exact h1.keeps I.bk) ((h2 x hn).trans hv) h) hd
/-! ### arithmetic -/
variable {a b : Expr} {ta tb : TE} {pos : Pos}
/-! ### comparisons -/
/-- a comparison as a value, as a test -/
def tB (t : TE) : TT := fun σ H Q => t σ H fun x H1 => ∃ c, x = .bl c ∧ Q c H1
/-- an expression whose value is a bool, as a test -/
theorem pt_val {e : Expr} {t : TE} (h : PE X e t) (he : ∀ whole, isTrue e X.env whole = (do let v ← whole; standAt e.pos; holding [v] (truthy v)) := by intro _; rfl) : PT X e (tB t) := by
  intro pins s σ H Q I hw
  refine isTrue_plain (thn (h pins s σ H _ I hw) fun v s1 ⟨x, H1, I1, r1, q1⟩ => ?_) (he _)
  obtain ⟨d, rfl, q⟩ := q1
  cases r1
  exact wpAny_truthy_bool ⟨H1, I1, q⟩

/-! ### and, or, not -/
variable {tA tB' : TT} {rest : List Expr}
def tAnd (t u : TT) : TT := fun σ H Q => t σ H fun c H1 => if c = true then u σ H1 Q else Q false H1
def tOr (t u : TT) : TT := fun σ H Q => t σ H fun c H1 => if c = true then Q true H1 else u σ H1 Q
def tNot (t : TT) : TT := fun σ H Q => t σ H fun c H1 => Q (!c) H1
theorem pw_and1 (ha : PT X a tA) : PW X (.BoolOp .And [a] pos) tA := by
  intro wh pins s σ H Q I h
  refine isTrue_and (thn (ha pins s σ H Q I h) fun c s1 e => ?_)
  cases c with
  | true => exact isTrue_and_nil e
  | false => exact e
theorem pw_or1 (ha : PT X a tA) : PW X (.BoolOp .Or [a] pos) tA := by
  intro wh pins s σ H Q I h
  refine isTrue_or (thn (ha pins s σ H Q I h) fun c s1 e => ?_)
  cases c with
  | false => exact isTrue_or_nil e
  | true => exact e
theorem pw_and (ha : PT X a tA) (hb : PW X (.BoolOp .And (b :: rest) pos) tB') : PW X (.BoolOp .And (a :: b :: rest) pos) (tAnd tA tB') := by
  intro wh pins s σ H Q I h
  refine isTrue_and (thn (ha pins s σ H _ I h) fun c s1 ⟨H1, I1, q1⟩ => ?_)
  cases c with
  | true => exact hb wh pins s1 σ H1 Q I1 q1
  | false => exact ⟨H1, I1, q1⟩
theorem pw_or (ha : PT X a tA) (hb : PW X (.BoolOp .Or (b :: rest) pos) tB') : PW X (.BoolOp .Or (a :: b :: rest) pos) (tOr tA tB') := by
  intro wh pins s σ H Q I h
  refine isTrue_or (thn (ha pins s σ H _ I h) fun c s1 ⟨H1, I1, q1⟩ => ?_)
  cases c with
  | true => exact ⟨H1, I1, q1⟩
  | false => exact hb wh pins s1 σ H1 Q I1 q1
theorem pt_not (ha : PT X a tA) : PT X (.UnaryOp .Not a pos) (tNot tA) := by
  intro pins s σ H Q I h
  exact isTrue_not (ha pins s σ H (fun c H1 => Q (!c) H1) I h)
/-- .. as values (bools) -/
def tAndV (ta tb : TE) : TE := fun σ H Q => ta σ H fun x H1 => ∃ c, x = .bl c ∧ if c = true then tb σ H1 Q else Q (.bl false) H1
def tNotV (ta : TE) : TE := fun σ H Q => ta σ H fun x H1 => ∃ c, x = .bl c ∧ Q (.bl (!c)) H1
theorem pe_one {op} {t : TE} (h : PE X a t) : PE X (.BoolOp op [a] pos) t := fun pins s σ H Q I hw => BoolOp_one (h pins s σ H Q I hw)
theorem pe_and (ha : PE X a ta) (hb : PE X (.BoolOp .And (b :: rest) pos) tb) : PE X (.BoolOp .And (a :: b :: rest) pos) (tAndV ta tb) := by
  intro pins s σ H Q I h
  refine BoolOp_and (thn (ha pins s σ H _ I h) fun v s1 ⟨x, H1, I1, r1, q1⟩ => ?_)
  obtain ⟨c, rfl, q1⟩ := q1
  cases r1
  refine wpAny_truthy_bool ?_
  cases c with
  | true => exact hb pins s1 σ H1 Q I1 q1
  | false => exact ⟨.bl false, H1, I1, rfl, q1⟩
theorem pe_not (ha : PE X a ta) : PE X (.UnaryOp .Not a pos) (tNotV ta) := by
  intro pins s σ H Q I h
  refine UnaryOp_ (thn (ha pins s σ H _ I h) fun v s1 ⟨x, H1, I1, r1, q1⟩ => ?_)
  obtain ⟨c, rfl, q1⟩ := q1
  cases r1
  exact not_of (wpAny_truthy_bool ⟨.bl (!c), H1, I1, rfl, q1⟩)
end
end L2

namespace L2
open PySem PySem.Spec PyProof.Rows

/-! ### a list, a tuple that is read: tracked, frozen, or an object of the module -/
def SqL (K : PySem.W.Frag) (H : Hp) (a : Addr) (xs : List V) : Prop :=
  Rd H a (.lst xs) ∨
    ∃ (o : Obj) (its : Array Value) (n : Nat), K.lookup a = some o ∧ o.cls = .type "list" ∧ o.dict = none ∧ o.data = .seq its n ∧ its.size ≤ sizeLine ∧ Vals xs its.toList
def SqT (K : PySem.W.Frag) (H : Hp) (a : Addr) (xs : List V) : Prop :=
  Rd H a (.tup xs) ∨
    ∃ (o : Obj) (its : Array Value) (n : Nat), K.lookup a = some o ∧ o.cls = .type "tuple" ∧ o.data = .seq its n ∧ its.size ≤ sizeLine ∧ Vals xs its.toList
def absV : Value → Option V
  | .none => some .non
  | .bool b => some (.bl b)
  | .int i _ => some (.int i)
  | .str x _ => some (.str x)
  | .bytes b _ => some (.byt b)
  | .float b _ => some (.flt b)
  | .ref a => some (.ref a)
  | .type n => some (.ty n)
  | _ => none
theorem RelV.abs {x : V} {u : Value} (r : RelV x u) : absV u = some x := by
  cases x with
  | non => cases r; rfl
  | bl _ => cases r; rfl
  | int _ => obtain ⟨t, rfl⟩ := r; rfl
  | str _ => obtain ⟨t, rfl⟩ := r; rfl
  | byt _ => obtain ⟨t, rfl⟩ := r; rfl
  | flt _ => obtain ⟨t, rfl⟩ := r; rfl
  | ref _ => cases r; rfl
  | ty _ => cases r; rfl
theorem RelV.inj {x y : V} {u : Value} (r : RelV x u) (q : RelV y u) : x = y := Option.some.inj (r.abs.symm.trans q.abs)
theorem Vals.inj : ∀ {xs ys : List V} {us : List Value}, Vals xs us → Vals ys us → xs = ys
  | _, _, _, .nil, .nil => rfl
  | _, _, _, .cons r t, .cons r' t' => by rw [r.inj r', Vals.inj t t']
section
variable {X : Cx} {pins : List (Addr × Obj)} {σ : St} {H : Hp} {s : Shared} {a : Addr} {xs ys : List V}
theorem SqL.of {K : PySem.W.Frag} (h : H a = some (.lst xs)) : SqL K H a xs := .inl (.inl h)
theorem Inv.list (I : Inv X pins σ H s) (h : SqL X.K H a xs) : ∃ its : List Value, Vals xs its ∧ PlainL s.heap a its.toArray ∧ xs.length ≤ sizeLine := by
  rcases h with h | ⟨o, its, n, hk, hc, hd, hs, hz, r⟩
  · obtain ⟨z, its, n, r, e⟩ := h.ok I.hok
    exact ⟨its, r, ⟨_, n, e, rfl, rfl, rfl⟩, z⟩
  · refine ⟨its.toList, r, ⟨o, n, I.kIn a o hk, hc, hd, by simpa using hs⟩, ?_⟩
    have e := r.length
    simp only [Array.length_toList] at e
    omega
theorem Inv.tuple (I : Inv X pins σ H s) (h : SqT X.K H a xs) : ∃ its : List Value, Vals xs its ∧ IsTup s.heap a its.toArray ∧ xs.length ≤ sizeLine := by
  rcases h with h | ⟨o, its, n, hk, hc, hs, hz, r⟩
  · obtain ⟨z, its, r, p⟩ := h.ok I.hok
    exact ⟨its, r, p, z⟩
  · refine ⟨its.toList, r, ⟨o, I.kIn a o hk, hc, n, by simpa using hs⟩, ?_⟩
    have e := r.length
    simp only [Array.length_toList] at e
    omega
theorem Inv.list_inj (I : Inv X pins σ H s) (h : SqL X.K H a xs) (h' : SqL X.K H a ys) : xs = ys := by
  obtain ⟨its, r, ⟨o, n, e, _, _, d⟩, _⟩ := I.list h
  obtain ⟨its', r', ⟨o', n', e', _, _, d'⟩, _⟩ := I.list h'
  rw [e] at e'; cases e'
  rw [d] at d'
  injection d' with d1 _
  have : its = its' := by simpa using congrArg Array.toList d1
  subst this
  exact r.inj r'
theorem Inv.tuple_inj (I : Inv X pins σ H s) (h : SqT X.K H a xs) (h' : SqT X.K H a ys) : xs = ys := by
  obtain ⟨its, r, ⟨o, e, _, n, d⟩, _⟩ := I.tuple h
  obtain ⟨its', r', ⟨o', e', _, n', d'⟩, _⟩ := I.tuple h'
  rw [e] at e'; cases e'
  rw [d] at d'
  injection d' with d1 _
  have : its = its' := by simpa using congrArg Array.toList d1
  subst this
  exact r.inj r'
end

/-! ### another wish about exceptions -/
abbrev Cx.wish (X : Cx) (E : Value → Shared → Prop) : Cx := { X with xe := E }
/-- no exception leaves -/
abbrev Cx.nox (X : Cx) : Cx := X.wish fun _ _ => False
theorem Cx.Ok.wish {X : Cx} (ok : X.Ok) (E : Value → Shared → Prop) : (X.wish E).Ok :=
  ⟨ok.mod, ok.kind, ok.glob, ok.blt, ok.above, ok.inj, ok.has, ok.cab, ok.hd, ok.frames, ok.stk, ok.exf, ok.bs, ok.bsz, ok.noex, ok.exfs, ok.funs, ok.frf⟩
theorem Cx.Ok.unwish {X : Cx} {E : Value → Shared → Prop} (ok : (X.wish E).Ok) : X.Ok :=
  ⟨ok.mod, ok.kind, ok.glob, ok.blt, ok.above, ok.inj, ok.has, ok.cab, ok.hd, ok.frames, ok.stk, ok.exf, ok.bs, ok.bsz, ok.noex, ok.exfs, ok.funs, ok.frf⟩
section
variable {X : Cx} {pins : List (Addr × Obj)} {σ : St} {H : Hp} {s : Shared} {E : Value → Shared → Prop}
theorem Inv.wish (I : Inv X pins σ H s) (E : Value → Shared → Prop) : Inv (X.wish E) pins σ H s := ⟨I.ok.wish E, I.os, I.bare, I.base, I.loc, I.cell, I.free, I.freeC, I.pin, I.hok, I.len⟩
theorem Inv.unwish (I : Inv (X.wish E) pins σ H s) : Inv X pins σ H s := ⟨I.ok.unwish, I.os, I.bare, I.base, I.loc, I.cell, I.free, I.freeC, I.pin, I.hok, I.len⟩
theorem SP.unwish {D : Ends} {f : Flow} {s' : Shared} (h : SP (X.wish E) pins D f s') : SP X pins D f s' := by
  cases f with
  | next => obtain ⟨σ', H', I, q⟩ := h; exact ⟨σ', H', I.unwish, q⟩
  | brk => obtain ⟨σ', H', I, q⟩ := h; exact ⟨σ', H', I.unwish, q⟩
  | cont => obtain ⟨σ', H', I, q⟩ := h; exact ⟨σ', H', I.unwish, q⟩
  | ret u => obtain ⟨v, σ', H', I, r, q⟩ := h; exact ⟨v, σ', H', I.unwish, r, q⟩
theorem PSs.nox {st : List Stmt} {t : TS} (h : PSs X.nox st t) : PSs X st t := fun pins s σ H D I hw =>
  wpAny_mono (h pins s σ H D (I.wish _) hw) (fun _ _ q => q.unwish) fun _ _ z => False.elim z
end

/-! ### blocks and small statements -/
section
variable {X : Cx} {st : Stmt} {rest : List Stmt} {t u : TS} {e : Expr} {te : TE} {pos : Pos}
def tNext : TS := fun D σ H => D.nx σ H
def tSeq (t u : TS) : TS := fun D σ H => t { D with nx := u D } σ H
theorem pss_nil : PSs X [] tNext := fun _ _ σ H _ I h => wpAny_execs_nil ⟨σ, H, I, h⟩
theorem pss_cons (h1 : PS X st t) (h2 : PSs X rest u) : PSs X (st :: rest) (tSeq t u) := by
  intro pins s σ H D I h
  refine wpAny_execs_cons (thn (h1 pins s σ H { D with nx := u D } I h) fun f s1 q => ?_)
  cases f with
  | next =>
    obtain ⟨σ', H', I', q⟩ := q
    exact h2 pins s1 σ' H' D I' q
  | ret v => exact q
  | brk => exact q
  | cont => exact q
theorem pss_one (h1 : PS X st t) : PSs X [st] t := by
  intro pins s σ H D I h
  refine wpAny_execs_cons (thn (h1 pins s σ H D I h) fun f s1 q => ?_)
  cases f with
  | next => exact wpAny_execs_nil q
  | ret v => exact q
  | brk => exact q
  | cont => exact q
/-- in a def's body nothing is shown -/
theorem Inv.quiet {pins : List (Addr × Obj)} {σ : St} {H : Hp} {s : Shared} (I : Inv X pins σ H s) : interactive X.env = false := by simp [interactive, I.ok.kind]
/-- an expression whose value is dropped -/
def tDrop (te : TE) : TS := fun D σ H => te σ H fun _ H1 => D.nx σ H1
theorem ps_expr (he : PE X e te) (hs : swapsWith e none pos.line X.env = pure false := by rfl) : PS X (.Expr e pos) (tDrop te) := by
  intro pins s σ H D I h
  exact wpAny_Expr_any (thn (he pins s σ H _ I h) fun v s1 ⟨x, H1, I1, r1, q1⟩ => ⟨σ, H1, I1, q1⟩) I.quiet hs
def tRet (te : TE) : TS := fun D σ H => te σ H D.rt
theorem ps_ret (he : PE X e te) : PS X (.Return (some e) pos) (tRet te) := by
  intro pins s σ H D I h
  exact wpAny_Return_some (thn (he pins s σ H _ I h) fun v s1 ⟨x, H1, I1, r1, q1⟩ => ⟨x, σ, H1, I1, r1, q1⟩)
def tIfS (c : TT) (t u : TS) : TS := fun D σ H => c σ H fun b H1 => if b = true then t D σ H1 else u D σ H1
theorem ps_if {c : Expr} {a b : List Stmt} {tc : TT} (hc : PT X c tc) (ha : PSs X a t) (hb : PSs X b u) : PS X (.If c a b pos) (tIfS tc t u) := by
  intro pins s σ H D I h
  refine wpAny_If (thn (hc pins s σ H _ I h) fun d s1 ⟨H1, I1, q1⟩ => ?_)
  cases d with
  | true => exact ha pins s1 σ H1 D I1 q1
  | false => exact hb pins s1 σ H1 D I1 q1
/-- code that the proof never comes to -/
def tNever : TS := fun _ _ _ => False
theorem pss_never {sts : List Stmt} : PSs X sts tNever := fun _ _ _ _ _ _ h => h.elim
end

/-! ### targets -/
abbrev TG := V → St → Hp → (St → Hp → Prop) → Prop
abbrev TGs := List V → St → Hp → (St → Hp → Prop) → Prop
def PG (X : Cx) (target : Expr) (t : TG) : Prop :=
  ∀ (pins : List (Addr × Obj)) (s : Shared) (σ : St) (H : Hp) (v : V) (u : Value) (Q : St → Hp → Prop), Inv X pins σ H s → RelV v u → t v σ H Q →
    wpAny (model X.prog X.w) X.A (assign target X.env u) (fun _ s' => ∃ σ' H', Inv X pins σ' H' s' ∧ Q σ' H') X.xe s
/-- several targets, one after another -/
def PGs (X : Cx) (ts : List Expr) (t : TGs) : Prop :=
  ∀ (pins : List (Addr × Obj)) (s : Shared) (σ : St) (H : Hp) (vs : List V) (us : List Value) (Q : St → Hp → Prop), Inv X pins σ H s → Vals vs us → t vs σ H Q →
    wpAny (model X.prog X.w) X.A (assignInOrder ((assignEach ts X.env).map (·.2)) us) (fun _ s' => ∃ σ' H', Inv X pins σ' H' s' ∧ Q σ' H') X.xe s
/-- o[i] = v, by values -/
abbrev TSet := V → V → V → Hp → (Hp → Prop) → Prop
def PSet (X : Cx) (t : TSet) : Prop :=
  ∀ (pins : List (Addr × Obj)) (s : Shared) (σ : St) (H : Hp) (o i v : V) (ov iv u : Value) (Q : Hp → Prop), Inv X pins σ H s → RelV o ov → RelV i iv → RelV v u → t o i v H Q →
    wpAny (model X.prog X.w) X.A (setItem ov iv u) (fun _ s' => ∃ H', Inv X pins σ H' s' ∧ Q H') X.xe s
section
variable {X : Cx} {pos : Pos}
def gName (i : Nat) : TG := fun v σ H Q => Q (σ.set i (some v)) H
theorem pg_name {i : Nat} {x : Str} (hN : X.N.Nodup) (hi : X.N[i]? = some x) (hx : Loc X.env.scope x) (hf : X.fn x = true ∨ X.env.scope.names.lookup x = some .local := by first | exact .inl rfl | exact .inr rfl | assumption) : PG X (.Name x pos) (gName i) := by
  intro pins s σ H v u Q I r h
  exact wpAny_assign_Name (store_ok I hN hi hx r (fun s' I' => ⟨_, H, I', h⟩) hf)
def gNil : TGs := fun vs σ H Q => vs = [] ∧ Q σ H
def gCons (t : TG) (u : TGs) : TGs := fun vs σ H Q => ∃ v r, vs = v :: r ∧ t v σ H fun σ' H' => u r σ' H' Q
theorem pgs_nil : PGs X [] gNil := by
  intro pins s σ H vs us Q I r h
  obtain ⟨e, h⟩ := h
  subst e
  cases r
  exact assignInOrder_nil ⟨σ, H, I, h⟩
theorem pgs_cons {e : Expr} {es : List Expr} {t : TG} {u : TGs} (h1 : PG X e t) (h2 : PGs X es u)
    (hs : (assignEach (e :: es) X.env).map (·.2) = assign e X.env :: (assignEach es X.env).map (·.2) := by rfl) : PGs X (e :: es) (gCons t u) := by
  intro pins s σ H vs us Q I r h
  obtain ⟨v, vr, e1, h⟩ := h
  subst e1
  cases r with
  | cons r rr =>
    rw [hs]
    refine assignInOrder_cons (thn (h1 pins s σ H _ _ _ I r h) fun _ s1 ⟨σ1, H1, I1, q1⟩ => ?_)
    exact h2 pins s1 σ1 H1 _ _ Q I1 rr q1
/-- (a, b, ..) = a tuple of that length -/
def gTup (K : PySem.W.Frag) (n : Nat) (t : TGs) : TG := fun v σ H Q => ∃ a xs, v = .ref a ∧ SqT K H a xs ∧ xs.length = n ∧ t xs σ H Q
theorem pg_tup {es : List Expr} {k : Nat} {t : TGs} {n : Nat} (hc : X.calm = true) (h : PGs X es t)
    (hn : (assignEach es X.env).length = n := by rfl) (hst : (assignEach es X.env).findIdx? (·.1) = none := by rfl) : PG X (.Tuple es k pos) (gTup X.K n t) := by
  intro pins s σ H v u Q I r hw
  obtain ⟨a, xs, e1, hq, hl, hw⟩ := hw
  subst e1
  cases r
  obtain ⟨its, rv, ht, hz⟩ := I.tuple hq
  refine assign_Tuple_tuple (I.ok.hd hc) ht (by simp [hn, ← hl, rv.length]) hst fun h' hx => ?_
  have I1 : Inv X pins σ H { s with heap := h' } := I.kept (t' := s.toks) fun b o e => hx b o (Nat.ne_of_lt (Heap.lt_size e)) e
  exact h pins _ σ H xs _ Q I1 (by simpa using rv) hw
/-- o[i] = .. -/
def gSub (to ti : TE) (t : TSet) : TG := fun v σ H Q => to σ H fun o H1 => ti σ H1 fun i H2 => t o i v H2 fun H3 => Q σ H3
theorem pg_sub {o i : Expr} {to ti : TE} {t : TSet} (ho : PE X o to) (hi : PE X i ti) (hs : PSet X t)
    (ha : ∀ v, assign (.Subscript o i pos) X.env v = (do
      let ov ← holding [v] (eval o X.env)
      let iv ← holding [v, ov] (eval i X.env)
      standAt pos
      holding [v, ov, iv] (setItem ov iv v)
      release [v, ov, iv] []) := by intro _; rfl) : PG X (.Subscript o i pos) (gSub to ti t) := by
  intro pins s σ H v u Q I r h
  rw [ha]
  refine wpAny_bind (wpAny_holding (thn (ho pins s σ H _ I h) fun ov s1 ⟨x, H1, I1, r1, q1⟩ => ?_))
  refine wpAny_bind (wpAny_holding (thn (hi pins s1 σ H1 _ I1 q1) fun iv s2 ⟨y, H2, I2, r2, q2⟩ => ?_))
  refine wpAny_bind (wpAny_standAt (wpAny_bind (wpAny_holding (thn (hs pins s2 σ H2 x y v ov iv u _ I2 r1 r2 r q2) fun _ s3 ⟨H3, I3, q3⟩ => ?_))))
  exact wpAny_release ⟨σ, H3, I3, q3⟩
/-- target = value -/
def tAsg (te : TE) (g : TG) : TS := fun D σ H => te σ H fun x H1 => g x σ H1 D.nx
theorem ps_asg {tg e : Expr} {te : TE} {g : TG} (he : PE X e te) (hg : PG X tg g) (hs : swapsWithSole [tg] e pos.line X.env = pure false := by rfl) (hw : swappedStores [tg] e X.env = pure none := by rfl)
    (h1 : (assignEach [tg] X.env).map (·.2) = [assign tg X.env] := by rfl) : PS X (.Assign [tg] e pos) (tAsg te g) := by
  intro pins s σ H D I h
  refine wpAny_Assign_stores (thn (he pins s σ H _ I h) fun v s1 ⟨x, H1, I1, r1, q1⟩ => ?_) hs hw
  rw [h1]
  exact thn (hg pins s1 σ H1 x v _ I1 r1 q1) fun _ s2 q => q
/-- name = value -/
theorem ps_set {i : Nat} {x : Str} {e : Expr} {te : TE} {pos' : Pos} (hN : X.N.Nodup) (hi : X.N[i]? = some x) (hx : Loc X.env.scope x) (he : PE X e te) (hs : swapsWith e (some (.Name x pos')) pos.line X.env = pure false := by rfl) (hf : X.fn x = true ∨ X.env.scope.names.lookup x = some .local := by first | exact .inl rfl | exact .inr rfl | assumption) :
    PS X (.Assign [.Name x pos'] e pos) (tAsg te (gName i)) := by
  intro pins s σ H D I h
  refine wpAny_Assign_Name (thn (he pins s σ H _ I h) fun v s1 ⟨y, H1, I1, r1, q1⟩ => ?_) hs
  exact store_ok I1 hN hi hx r1 (fun s2 I2 => ⟨_, H1, I2, q1⟩) hf
end

/-! ### while -/
section
variable {X : Cx} {pos : Pos}
end

/-! ### what a loop or a comprehension walks -/
/-- at turn i: it yields x (the heap may grow), or it stops -/
structure It where
  go : Nat → Hp → Prop
  yld : Nat → Hp → V → Hp → Prop
  stop : Nat → Hp → Prop
/-- the iterator's own objects may turn: they are not the frame's, not pinned, younger than the entry (or a comprehension's own) -/
def FpOk (X : Cx) (pins : List (Addr × Obj)) (H : Hp) (b : Addr) : Prop :=
  H b = none ∧ b ≠ X.env.locals ∧ b ∉ X.fs ∧ (b ∈ X.ex ∨ X.s₀.heap.objs.size ≤ b) ∧ (∀ x c, X.env.cells.lookup x = some c → c ≠ b) ∧ ∀ p ∈ X.pn ++ pins, p.1 ≠ b
theorem Inv.fpOk {X : Cx} {pins : List (Addr × Obj)} {σ : St} {H H' : Hp} {s : Shared} {b : Addr} (I : Inv X pins σ H s) (hb : s.heap.objs.size ≤ b) (hn : H' b = none) : FpOk X pins H' b := by
  refine ⟨hn, Nat.ne_of_gt (Nat.lt_of_lt_of_le I.lt hb), I.nofs hb, .inr (Nat.le_trans I.sz hb), fun x c e z => ?_, fun p hp z => ?_⟩
  · obtain ⟨v, q⟩ := I.cell x c e
    exact absurd (Nat.lt_of_lt_of_le q.lt (by rw [z]; exact hb)) (Nat.lt_irrefl _)
  · exact absurd (Nat.lt_of_lt_of_le (Heap.lt_size (I.pin p hp).1) (by rw [z]; exact hb)) (Nat.lt_irrefl _)
structure Turn (P : Program) (w : World) (K : PySem.W.Frag) (tg : Expr) (J : It) (fp : List Addr) (it : Addr) (tn : Nat → Heap → Prop) : Prop where
  mem : it ∈ fp
  obj : ∀ i h, tn i h → ∀ b ∈ fp, ∃ o, h.get? b = some o ∧ ∀ v, o.data ≠ .cell v
  keep : ∀ i h h', tn i h → (∀ b ∈ fp, ∀ o, h.get? b = some o → h'.get? b = some o) → tn i h'
  item : ∀ (X : Cx), X.prog = P → X.w = w → X.K = K → X.calm = true → ∀ (i : Nat) (pins : List (Addr × Obj)) (s : Shared) (σ : St) (H : Hp) (E : Value → Shared → Prop), Inv X pins σ H s → (∀ b ∈ fp, FpOk X pins H b) → tn i s.heap → J.go i H →
    wpAny (model P w) X.A (pyNext (.ref it)) (fun r s1 => ∃ u, r = some u ∧
      wpAny (model P w) X.A (letOwnedTupleGo tg (.ref it) u) (fun _ s2 => ∃ x H', Inv X pins σ H' s2 ∧ RelV x u ∧ J.yld i H x H' ∧ tn (i + 1) s2.heap ∧ ∀ b ∈ fp, H' b = none) E s1) E s
  done : ∀ (X : Cx), X.prog = P → X.w = w → X.K = K → X.calm = true → ∀ (i : Nat) (pins : List (Addr × Obj)) (s : Shared) (σ : St) (H : Hp) (E : Value → Shared → Prop), Inv X pins σ H s → (∀ b ∈ fp, FpOk X pins H b) → tn i s.heap → J.stop i H →
    wpAny (model P w) X.A (pyNext (.ref it)) (fun r s1 => r = none ∧ Inv X pins σ H s1) E s
  self : ∀ (A : Around) (i : Nat) (s : Shared) (Q : Value → Shared → Prop) (E : Value → Shared → Prop), tn i s.heap → Q (.ref it) s → wpAny (model P w) A (pyIter (.ref it)) Q E s
abbrev TI := St → Hp → (It → Hp → Prop) → Prop
/-- an iterator has come -/
def PIE (X : Cx) (pins : List (Addr × Obj)) (σ : St) (tg : Expr) (R : It → Hp → Prop) (itv : Value) (s2 : Shared) : Prop :=
  ∃ (it : Addr) (fp : List Addr) (tn : Nat → Heap → Prop) (J : It) (H' : Hp), itv = .ref it ∧ Inv X pins σ H' s2 ∧ Turn X.prog X.w X.K tg J fp it tn ∧ tn 0 s2.heap ∧ (∀ b ∈ fp, FpOk X pins H' b) ∧ R J H'
def PI (X : Cx) (tg iter : Expr) (wi : TI) : Prop :=
  ∀ (pins : List (Addr × Obj)) (s : Shared) (σ : St) (H : Hp) (R : It → Hp → Prop), Inv X pins σ H s → wi σ H R →
    wpAny (model X.prog X.w) X.A (eval iter X.env) (fun v s1 => wpAny (model X.prog X.w) X.A (pyIter v) (PIE X pins σ tg R) X.xe s1) X.xe s

/-- the step ahead of the store is nothing for an iterator that keeps no tuple -/
theorem go_of {M : Model} {A : Around} {E : Value → Shared → Prop} {s : Shared} {tg : Expr} {it : Addr} {u : Value} {o : Obj} {n : String} {vs : Array Value} {Q : Unit → Shared → Prop} (ho : s.heap.get? it = some o) (hc : o.cls = .type n) (hd : o.data = .fields vs)
    (hn : ["enumerate", "zip", "dict_itemiterator", "dict_reverseitemiterator", "odict_iterator", "itertools.zip_longest", "itertools.pairwise"].contains n = false) (hQ : Q () s) : wpAny M A (letOwnedTupleGo tg (.ref it) u) Q E s := by
  unfold letOwnedTupleGo
  cases tg <;> first
    | exact wpAny_pure hQ
    | (cases u <;> first
        | exact wpAny_pure hQ
        | (refine wpAny_bind (wpAny_load ho ?_)
           rw [hc, hd]
           show wpAny M A (if (["enumerate", "zip", "dict_itemiterator", "dict_reverseitemiterator", "odict_iterator", "itertools.zip_longest", "itertools.pairwise"].contains n && vs[0]? == some (rawInt _)) = true then _ else _) Q E s
           rw [if_neg (by intro h; rw [hn, Bool.false_and] at h; cases h)]
           exact wpAny_pure hQ))

/-- the list at a, as it stands at each turn (a loop may append to it) -/
def Itl (K : PySem.W.Frag) (a : Addr) : It :=
  ⟨fun i H => ∃ xs x, SqL K H a xs ∧ xs[i]? = some x, fun i H x H' => H' = H ∧ ∀ xs, SqL K H a xs → xs[i]? = some x, fun i H => ∃ xs, SqL K H a xs ∧ xs.length ≤ i⟩
def Itt (K : PySem.W.Frag) (a : Addr) : It :=
  ⟨fun i H => ∃ xs x, SqT K H a xs ∧ xs[i]? = some x, fun i H x H' => H' = H ∧ ∀ xs, SqT K H a xs → xs[i]? = some x, fun i H => ∃ xs, SqT K H a xs ∧ xs.length ≤ i⟩
/-- lo, lo + 1, .. (n of them) -/
def Itr (lo : Int) (n : Nat) : It := ⟨fun i _ => i < n, fun i H x H' => H' = H ∧ x = .int (lo + i), fun i _ => n ≤ i⟩
theorem turn_list {P : Program} {w : World} {K : PySem.W.Frag} {tg : Expr} (a it : Addr) : Turn P w K tg (Itl K a) [it] it (fun i h => h.IsListIter it a i) where
  mem := by simp
  obj := fun i h st b hb => by
    have e : b = it := by simpa using hb
    subst e
    obtain ⟨o, e, c, d⟩ := st
    exact ⟨o, e, fun v z => by rw [d] at z; cases z⟩
  keep := fun i h h' st k => st.at fun o e => k it (by simp) o e
  item := by
    intro X hP hw hK hc i pins s σ H E I hf st hg
    subst hP hw hK
    obtain ⟨xs, x, hq, hx⟩ := hg
    obtain ⟨its, rv, p, hz⟩ := I.list hq
    obtain ⟨u, hu, ru⟩ := rv.get hx
    obtain ⟨f0, f1, f2, f3, f4, f5⟩ := hf it (by simp)
    refine wpAny_pyNext_list_item st p.isList (x := u) (by simpa using hu) fun h' st' sb => ?_
    have I1 : Inv X pins σ H { s with heap := h' } := I.turned (t' := s.toks) (fun b o hb e => (sb.2 b hb).trans e) f0 f1 f3 f4 f5
    obtain ⟨o, e, c, d⟩ := id st'
    exact ⟨u, rfl, go_of (s := { s with heap := h' }) e c d (by decide) ⟨x, H, I1, ru, ⟨rfl, fun ys hy => by rw [I.list_inj hy hq]; exact hx⟩, st', fun b hb => (hf b hb).1⟩⟩
  done := by
    intro X hP hw hK hc i pins s σ H E I hf st hg
    subst hP hw hK
    obtain ⟨xs, hq, hx⟩ := hg
    obtain ⟨its, rv, p, hz⟩ := I.list hq
    obtain ⟨f0, f1, f2, f3, f4, f5⟩ := hf it (by simp)
    have hl := rv.length
    exact wpAny_pyNext_list_end (I.ok.hd hc) st p.isList (by simp; omega) fun h' eb => ⟨rfl, I.turned (t' := s.toks) (fun b o hb e => eb b o hb e) f0 f1 f3 f4 f5⟩
  self := fun _ _ _ _ _ st h => wpAny_pyIter_listiter st h
theorem turn_tuple {P : Program} {w : World} {K : PySem.W.Frag} {tg : Expr} (a it : Addr) : Turn P w K tg (Itt K a) [it] it (fun i h => h.IsTupleIter it a i) where
  mem := by simp
  obj := fun i h st b hb => by
    have e : b = it := by simpa using hb
    subst e
    obtain ⟨o, e, c, d⟩ := st
    exact ⟨o, e, fun v z => by rw [d] at z; cases z⟩
  keep := fun i h h' st k => st.at fun o e => k it (by simp) o e
  item := by
    intro X hP hw hK hc i pins s σ H E I hf st hg
    subst hP hw hK
    obtain ⟨xs, x, hq, hx⟩ := hg
    obtain ⟨its, rv, p, hz⟩ := I.tuple hq
    obtain ⟨u, hu, ru⟩ := rv.get hx
    obtain ⟨f0, f1, f2, f3, f4, f5⟩ := hf it (by simp)
    refine wpAny_pyNext_tuple_item st (show s.heap.IsTuple a its.toArray from p) (x := u) (by simpa using hu) fun h' st' sb => ?_
    have I1 : Inv X pins σ H { s with heap := h' } := I.turned (t' := s.toks) (fun b o hb e => (sb.2 b hb).trans e) f0 f1 f3 f4 f5
    obtain ⟨o, e, c, d⟩ := id st'
    exact ⟨u, rfl, go_of (s := { s with heap := h' }) e c d (by decide) ⟨x, H, I1, ru, ⟨rfl, fun ys hy => by rw [I.tuple_inj hy hq]; exact hx⟩, st', fun b hb => (hf b hb).1⟩⟩
  done := by
    intro X hP hw hK hc i pins s σ H E I hf st hg
    subst hP hw hK
    obtain ⟨xs, hq, hx⟩ := hg
    obtain ⟨its, rv, p, hz⟩ := I.tuple hq
    obtain ⟨f0, f1, f2, f3, f4, f5⟩ := hf it (by simp)
    have hl := rv.length
    exact wpAny_pyNext_tuple_end (I.ok.hd hc) st (show s.heap.IsTuple a its.toArray from p) (by simp; omega) fun h' eb => ⟨rfl, I.turned (t' := s.toks) (fun b o hb e => eb b o hb e) f0 f1 f3 f4 f5⟩
  self := fun _ _ _ _ _ st h => wpAny_pyIter_tupleiter st h
theorem turn_range {P : Program} {w : World} {K : PySem.W.Frag} {tg : Expr} (it : Addr) (lo : Int) (n : Nat) : Turn P w K tg (Itr lo n) [it] it (fun i h => IsRangeIter h it (lo + (i : Nat) * 1) ((n : Int) - (i : Nat)) 1) where
  mem := by simp
  obj := fun i h st b hb => by
    have e : b = it := by simpa using hb
    subst e
    exact ⟨_, st, fun v z => by
      have z' : Data.fields _ = Data.cell v := z
      cases z'⟩
  keep := fun i h h' st k => k it (by simp) _ st
  item := by
    intro X hP hw hK hc i pins s σ H E I hf st hg
    subst hP hw hK
    obtain ⟨f0, f1, f2, f3, f4, f5⟩ := hf it (by simp)
    have W := Walks.range (prog := X.prog) (w := X.w) (I.ok.hd hc) it lo 1 n
    refine W.item i s _ _ hg st fun v h' tk hv st' kk => ?_
    obtain ⟨t, rfl⟩ := hv
    have I1 : Inv X pins σ H { s with heap := h', toks := tk } := I.turned (fun b o hb e => kk b o (by simpa using hb) e) f0 f1 f3 f4 f5
    refine ⟨_, rfl, go_of (s := { s with heap := h', toks := tk }) (n := "range_iterator") st' rfl rfl (by decide) ⟨.int (lo + i), H, I1, ⟨t, ?_⟩, ⟨rfl, rfl⟩, st', fun b hb => (hf b hb).1⟩⟩
    rw [Int.mul_one]
  done := by
    intro X hP hw hK hc i pins s σ H E I hf st hg
    subst hP hw hK
    obtain ⟨f0, f1, f2, f3, f4, f5⟩ := hf it (by simp)
    exact wpAny_pyNext_range_end (I.ok.hd hc) st (by have : n ≤ i := hg; omega) fun h' eb => ⟨rfl, I.turned (t' := s.toks) (fun b o hb e => eb b o hb e) f0 f1 f3 f4 f5⟩
  self := fun _ _ _ _ _ st h => wpAny_pyIter_rangeiter st h
end L2

namespace L2
open PySem PySem.Spec PyProof.Rows
section
variable {X : Cx} {tg : Expr}
def iList (K : PySem.W.Frag) (tl : TE) : TI := fun σ H R => tl σ H fun x H1 => ∃ a, x = .ref a ∧ (∃ xs, SqL K H1 a xs) ∧ R (Itl K a) H1
def iTup (K : PySem.W.Frag) (tl : TE) : TI := fun σ H R => tl σ H fun x H1 => ∃ a, x = .ref a ∧ (∃ xs, SqT K H1 a xs) ∧ R (Itt K a) H1
theorem pi_list {l : Expr} {tl : TE} (hl : PE X l tl) : PI X tg l (iList X.K tl) := by
  intro pins s σ H R I h
  refine thn (hl pins s σ H _ I h) fun v s1 ⟨x, H1, I1, r1, q1⟩ => ?_
  obtain ⟨a, e, ⟨xs, hq⟩, q⟩ := q1
  subst e
  cases r1
  obtain ⟨its, rv, p, hz⟩ := I1.list hq
  refine wpAny_pyIter_list p.isList ?_
  refine ⟨s1.heap.objs.size, [s1.heap.objs.size], _, _, H1, rfl, I1.kept (t' := s1.toks) fun b o e => Heap.get?_push_of_some _ e, turn_list a _, ⟨_, Heap.get?_push_size _ rfl, rfl, rfl⟩, fun b hb => ?_, q⟩
  have e : b = s1.heap.objs.size := by simpa using hb
  subst e
  exact I1.fpOk (Nat.le_refl _) (I1.hok.fresh (Nat.le_refl _))
theorem pi_tup {l : Expr} {tl : TE} (hl : PE X l tl) : PI X tg l (iTup X.K tl) := by
  intro pins s σ H R I h
  refine thn (hl pins s σ H _ I h) fun v s1 ⟨x, H1, I1, r1, q1⟩ => ?_
  obtain ⟨a, e, ⟨xs, hq⟩, q⟩ := q1
  subst e
  cases r1
  obtain ⟨its, rv, p, hz⟩ := I1.tuple hq
  refine wpAny_pyIter_tuple (show s1.heap.IsTuple a its.toArray from p) ?_
  refine ⟨s1.heap.objs.size, [s1.heap.objs.size], _, _, H1, rfl, I1.kept (t' := s1.toks) fun b o e => Heap.get?_push_of_some _ e, turn_tuple a _, ⟨_, Heap.get?_push_size _ rfl, rfl, rfl⟩, fun b hb => ?_, q⟩
  have e : b = s1.heap.objs.size := by simpa using hb
  subst e
  exact I1.fpOk (Nat.le_refl _) (I1.hok.fresh (Nat.le_refl _))
/-- a range object just made, walked -/
theorem range_it {pins : List (Addr × Obj)} {σ : St} {H : Hp} {s : Shared} {R : It → Hp → Prop} {E : Value → Shared → Prop} {lo hi : Int} {t u v : Tok} {tk : Nat} (I : Inv X pins σ H s) (h1 : -(2 ^ 62) ≤ lo) (h2 : lo < 2 ^ 62) (h3 : -(2 ^ 62) ≤ hi) (h4 : hi < 2 ^ 62)
    (q : R (Itr lo (hi - lo).toNat) H) : wpAny (model X.prog X.w) X.A (pyIter (.ref s.heap.objs.size)) (PIE X pins σ tg R) E { s with heap := s.heap.push { cls := .type "range", data := .fields #[.int lo t, .int hi u, .int 1 v] }, toks := tk } := by
  refine wpAny_pyIter_range (IsRange.new ..) (small_one h1 h2 h3 h4) ?_
  have I1 : Inv X pins σ H { s with heap := s.heap.push { cls := .type "range", data := .fields #[.int lo t, .int hi u, .int 1 v] }, toks := tk } := I.kept fun b o e => Heap.get?_push_of_some _ e
  refine ⟨(s.heap.push { cls := .type "range", data := .fields #[.int lo t, .int hi u, .int 1 v] }).objs.size, [(s.heap.push { cls := .type "range", data := .fields #[.int lo t, .int hi u, .int 1 v] }).objs.size], _, _, H, rfl,
    I1.kept (t' := tk) fun b o e => Heap.get?_push_of_some _ e, turn_range _ lo (hi - lo).toNat, ?_, fun b hb => ?_, q⟩
  · have e1 : lo + ((0 : Nat) : Int) * 1 = lo := by simp
    have e2 : (((hi - lo).toNat : Nat) : Int) - ((0 : Nat) : Int) = Builtin.Range.rangeSize lo hi 1 := by rw [rangeSize_one]; split <;> omega
    show IsRangeIter _ _ (lo + ((0 : Nat) : Int) * 1) ((((hi - lo).toNat : Nat) : Int) - ((0 : Nat) : Int)) 1
    rw [e1, e2]
    exact Heap.get?_push_size _ rfl
  · have e : b = (s.heap.push { cls := .type "range", data := .fields #[.int lo t, .int hi u, .int 1 v] }).objs.size := by simpa using hb
    subst e
    exact I1.fpOk (Nat.le_refl _) (I1.hok.fresh (Nat.le_refl _))
def iRng1 (ta : TA) : TI := fun σ H R => ta σ H fun vs H1 => ∃ j : Int, vs = [.int j] ∧ -(2 ^ 62) ≤ j ∧ j < 2 ^ 62 ∧ R (Itr 0 j.toNat) H1
def iRng2 (ta : TA) : TI := fun σ H R => ta σ H fun vs H1 => ∃ i j : Int, vs = [.int i, .int j] ∧ (-(2 ^ 62) ≤ i ∧ i < 2 ^ 62 ∧ -(2 ^ 62) ≤ j ∧ j < 2 ^ 62) ∧ R (Itr i (j - i).toNat) H1
theorem pi_range1 {a : Expr} {ta : TA} {p pos : Pos} (hg : Gl X "range") (hm : X.mg "range" = none) (ha : PA X [a] ta) (hs : starEach [a] X.env = [(false, eval a X.env)] := by rfl) : PI X tg (.Call (.Name "range" p) [a] [] pos) (iRng1 ta) := by
  intro pins s σ H R I h
  refine Call_ (ld_blt I hg hm boot_range (PyProof.Rows.callWith_type1 (thn (ha pos pins s σ H _ I h) fun us s1 ⟨vs, H1, I1, r1, q1⟩ => ?_) hs rfl))
  obtain ⟨j, e, q1, q2, q⟩ := q1
  subst e
  cases r1 with
  | cons r rr =>
    cases rr
    obtain ⟨t, rfl⟩ := r
    exact call_range_1 (range_it I1 (by omega) (by omega) q1 q2 (by simpa using q))
theorem pi_range2 {a b : Expr} {ta : TA} {p pos : Pos} (hg : Gl X "range") (hm : X.mg "range" = none) (ha : PA X [a, b] ta) (hs : starEach [a, b] X.env = [(false, eval a X.env), (false, eval b X.env)] := by rfl) (hs2 : starEach [b] X.env = [(false, eval b X.env)] := by rfl) :
    PI X tg (.Call (.Name "range" p) [a, b] [] pos) (iRng2 ta) := by
  intro pins s σ H R I h
  refine Call_ (ld_blt I hg hm boot_range (PyProof.Rows.callWith_type1 (thn (ha pos pins s σ H _ I h) fun us s1 ⟨vs, H1, I1, r1, q1⟩ => ?_) (by rw [hs, hs2]) (by rw [hs2]; rfl)))
  obtain ⟨i, j, e, ⟨q1, q2, q3, q4⟩, q⟩ := q1
  subst e
  cases r1 with
  | cons r rr =>
    cases rr with
    | cons r' rr =>
      cases rr
      obtain ⟨t, rfl⟩ := r
      obtain ⟨t', rfl⟩ := r'
      exact call_range_2 (range_it I1 q1 q2 q3 q4 q)

/-! ### for -/
/-- W: the invariant by the turn and a measure; N: what the body is to reach -/
def tFor (wi : TI) (g : TG) (tb : TS) : TS := fun D σ H => wi σ H fun J H1 => ∃ W : Nat → Nat → St → Hp → Prop, (∃ m, W 0 m σ H1) ∧ ∀ i m σ H, W i m σ H →
  (J.stop i H ∧ D.nx σ H) ∨ (J.go i H ∧ ∃ N : St → Hp → Prop, (∀ σ' H', N σ' H' → ∃ m', m' < m ∧ W (i + 1) m' σ' H') ∧ ∀ x H', J.yld i H x H' → g x σ H' fun σ2 H2 => tb { D with nx := N, ct := N, bk := D.nx } σ2 H2)
/-- the records at fp as they stand -/
def pinsAt (fp : List Addr) (h : Heap) : List (Addr × Obj) := fp.filterMap fun b => (h.get? b).map fun o => (b, o)
theorem mem_pinsAt {fp : List Addr} {h : Heap} {b : Addr} {o : Obj} (hb : b ∈ fp) (e : h.get? b = some o) : (b, o) ∈ pinsAt fp h := List.mem_filterMap.mpr ⟨b, hb, by rw [e]; rfl⟩
theorem of_pinsAt {fp : List Addr} {h : Heap} {p : Addr × Obj} (hp : p ∈ pinsAt fp h) : p.1 ∈ fp ∧ h.get? p.1 = some p.2 := by
  obtain ⟨b, hb, e⟩ := List.mem_filterMap.mp hp
  cases q : h.get? b with
  | none => rw [q] at e; cases e
  | some o =>
    rw [q] at e
    have e' : (b, o) = p := Option.some.inj e
    subst e'
    exact ⟨hb, q⟩
theorem Inv.pinned {pins : List (Addr × Obj)} {σ : St} {H : Hp} {s : Shared} {fp : List Addr} (I : Inv X pins σ H s) (hf : ∀ b ∈ fp, FpOk X pins H b) (ho : ∀ b ∈ fp, ∃ o, s.heap.get? b = some o ∧ ∀ v, o.data ≠ .cell v) : Inv X (pins ++ pinsAt fp s.heap) σ H s :=
  I.pins_of fun p hp => (List.mem_append.mp hp).elim (fun z => I.pin p (List.mem_append_right _ z)) fun z => by
    obtain ⟨hb, e⟩ := of_pinsAt z
    obtain ⟨f0, f1, f2, _⟩ := hf p.1 hb
    obtain ⟨o, e', d⟩ := ho p.1 hb
    rw [e] at e'; cases e'
    exact ⟨e, f0, f1, f2, d⟩
theorem Inv.unpinned {pins pl : List (Addr × Obj)} {σ : St} {H : Hp} {s : Shared} (I : Inv X (pins ++ pl) σ H s) : Inv X pins σ H s := I.pins_of fun p hp => I.pin p (List.mem_append_right _ (List.mem_append_left _ hp))
theorem ps_for {iter : Expr} {body : List Stmt} {wi : TI} {g : TG} {tb : TS} {pos : Pos} (hp : PassesOwn (model X.prog X.w) X.A X.env X.xe) (hc : X.calm = true) (hi : PI X tg iter wi) (hg : PG X tg g) (hb : PSs X body tb)
    (hs : ∀ x, foldedSetIterable iter X.env x = pure x := by intro _; rfl) : PS X (.For tg iter body [] pos) (tFor wi g tb) := by
  intro pins s σ H D I h
  refine wpAny_For (thn (hi pins s σ H _ I h) fun v s1 h1 => thn h1 fun itv s2 h2 => ?_) hs
  obtain ⟨it, fp, tn, J, H2, e, I2, T, st2, f2, W, ⟨m0, w0⟩, turn⟩ := h2
  subst e
  -- what stays true of the iterator's objects through the loop
  have stat : ∀ {H' : Hp}, (∀ b ∈ fp, H' b = none) → ∀ b ∈ fp, FpOk X pins H' b := fun hn b hb => ⟨hn b hb, (f2 b hb).2⟩
  refine codeAny_forLoop_any (fun n s' => ∃ i σ' H', Inv X pins σ' H' s' ∧ tn i s'.heap ∧ (∀ b ∈ fp, H' b = none) ∧ W i n σ' H') ?_ m0 ⟨0, σ, H2, I2, st2, fun b hb => (f2 b hb).1, w0⟩
  rintro n s3 ⟨i, σ3, H3, I3, st3, fr3, w3⟩
  rcases turn i n σ3 H3 w3 with ⟨stop, qn⟩ | ⟨go, N, hN, step⟩
  · refine wpAny_passesOwn hp (thn (T.done X rfl rfl rfl hc i pins s3 σ3 H3 X.xe I3 (stat fr3) st3 stop) fun r s4 ⟨hr, I4⟩ => ?_)
    subst hr
    exact wpAny_execs_nil ⟨σ3, H3, I4, qn⟩
  · refine wpAny_passesOwn hp (thn (T.item X rfl rfl rfl hc i pins s3 σ3 H3 X.xe I3 (stat fr3) st3 go) fun r s4 ⟨u, hr, h4⟩ => ?_)
    subst hr
    refine wpAny_passesOwn hp (thn h4 fun _ s5 ⟨x, H5, I5, r5, y5, st5, fr5⟩ => ?_)
    have I5' := I5.pinned (stat fr5) (T.obj _ _ st5)
    refine wpAny_passesOwn hp (thn (hg _ s5 σ3 H5 x u _ I5' r5 (step x H5 y5)) fun _ s6 ⟨σ6, H6, I6, q6⟩ => ?_)
    refine wpAny_passesOwn hp (thn (hb _ s6 σ6 H6 _ I6 q6) fun f s7 q7 => ?_)
    have again : ∀ {σ7 : St} {H7 : Hp}, Inv X (pins ++ pinsAt fp s5.heap) σ7 H7 s7 → N σ7 H7 → ∃ m, m < n ∧ ∃ i σ' H', Inv X pins σ' H' s7 ∧ tn i s7.heap ∧ (∀ b ∈ fp, H' b = none) ∧ W i m σ' H' := fun {σ7 H7} I7 n7 => by
      obtain ⟨m', hm, w7⟩ := hN σ7 H7 n7
      refine ⟨m', hm, i + 1, σ7, H7, I7.unpinned, T.keep _ _ _ st5 fun b hb o e => (I7.pin (b, o) (List.mem_append_right _ (List.mem_append_right _ (mem_pinsAt hb e)))).1, fun b hb => ?_, w7⟩
      obtain ⟨o, e, d⟩ := T.obj _ _ st5 b hb
      exact (I7.pin (b, o) (List.mem_append_right _ (List.mem_append_right _ (mem_pinsAt hb e)))).2.1
    cases f with
    | next => obtain ⟨σ7, H7, I7, n7⟩ := q7; exact again I7 n7
    | cont => obtain ⟨σ7, H7, I7, n7⟩ := q7; exact again I7 n7
    | brk => obtain ⟨σ7, H7, I7, q7⟩ := q7; exact ⟨σ7, H7, I7.unpinned, q7⟩
    | ret v => obtain ⟨x7, σ7, H7, I7, r7, q7⟩ := q7; exact ⟨x7, σ7, H7, I7.unpinned, r7, q7⟩
end

/-! ### the forms one uses -/
/-- over a list that the body leaves as it is -/
theorem for_list {K : PySem.W.Frag} {a : Addr} {xs : List V} {g : TG} {tb : TS} {D : Ends} {σ : St} {H : Hp} (Pv : Nat → St → Hp → Prop) (h0 : Pv 0 σ H) (hl : ∀ i σ H, i ≤ xs.length → Pv i σ H → SqL K H a xs)
    (hs : ∀ i x σ H, xs[i]? = some x → Pv i σ H → g x σ H fun σ2 H2 => tb { D with nx := Pv (i + 1), ct := Pv (i + 1), bk := D.nx } σ2 H2) (hd : ∀ σ H, Pv xs.length σ H → D.nx σ H) :
    ∃ W : Nat → Nat → St → Hp → Prop, (∃ m, W 0 m σ H) ∧ ∀ i m σ H, W i m σ H →
      ((Itl K a).stop i H ∧ D.nx σ H) ∨ ((Itl K a).go i H ∧ ∃ N : St → Hp → Prop, (∀ σ' H', N σ' H' → ∃ m', m' < m ∧ W (i + 1) m' σ' H') ∧ ∀ x H', (Itl K a).yld i H x H' → g x σ H' fun σ2 H2 => tb { D with nx := N, ct := N, bk := D.nx } σ2 H2) := by
  refine ⟨fun i m σ H => m = xs.length - i ∧ i ≤ xs.length ∧ Pv i σ H, ⟨xs.length, by simp, Nat.zero_le _, h0⟩, ?_⟩
  rintro i m σ H ⟨rfl, hi, p⟩
  have q := hl i σ H hi p
  by_cases hlt : i < xs.length
  · refine .inr ⟨⟨xs, xs[i], q, by simp [hlt]⟩, Pv (i + 1), fun σ' H' p' => ⟨xs.length - (i + 1), by omega, rfl, hlt, p'⟩, fun x H' y => ?_⟩
    obtain ⟨e, y⟩ := y
    subst e
    exact hs i x σ _ (y xs q) p
  · have e : i = xs.length := by omega
    subst e
    exact .inl ⟨⟨xs, q, Nat.le_refl _⟩, hd σ H p⟩
theorem for_range {lo : Int} {n : Nat} {g : TG} {tb : TS} {D : Ends} {σ : St} {H : Hp} (Pv : Nat → St → Hp → Prop) (h0 : Pv 0 σ H)
    (hs : ∀ i σ H, i < n → Pv i σ H → g (.int (lo + i)) σ H fun σ2 H2 => tb { D with nx := Pv (i + 1), ct := Pv (i + 1), bk := D.nx } σ2 H2) (hd : ∀ σ H, Pv n σ H → D.nx σ H) :
    ∃ W : Nat → Nat → St → Hp → Prop, (∃ m, W 0 m σ H) ∧ ∀ i m σ H, W i m σ H →
      ((Itr lo n).stop i H ∧ D.nx σ H) ∨ ((Itr lo n).go i H ∧ ∃ N : St → Hp → Prop, (∀ σ' H', N σ' H' → ∃ m', m' < m ∧ W (i + 1) m' σ' H') ∧ ∀ x H', (Itr lo n).yld i H x H' → g x σ H' fun σ2 H2 => tb { D with nx := N, ct := N, bk := D.nx } σ2 H2) := by
  refine ⟨fun i m σ H => m = n - i ∧ i ≤ n ∧ Pv i σ H, ⟨n, by simp, Nat.zero_le _, h0⟩, ?_⟩
  rintro i m σ H ⟨rfl, hi, p⟩
  by_cases hlt : i < n
  · refine .inr ⟨hlt, Pv (i + 1), fun σ' H' p' => ⟨n - (i + 1), by omega, rfl, hlt, p'⟩, fun x H' y => ?_⟩
    obtain ⟨e, y⟩ := y
    subst e y
    exact hs i σ _ hlt p
  · have e : i = n := by omega
    subst e
    exact .inl ⟨Nat.le_refl _, hd σ H p⟩
end L2

namespace L2
open PySem PySem.Spec PyProof.Rows

abbrev R2 := V → V → Hp → VK → Prop
/-- a two-place operation on values: f is binaryOp op, inplaceOp op or compareOp op -/
def OpR (X : Cx) (f : Value → Value → Sem Value) (r : R2) : Prop :=
  ∀ (pins : List (Addr × Obj)) (s : Shared) (σ : St) (H : Hp) (x y : V) (v u : Value) (Q : VK), Inv X pins σ H s → RelV x v → RelV y u → r x y H Q →
    wpAny (model X.prog X.w) X.A (f v u) (EP X pins σ Q) X.xe s
/-- a one-place operation -/
def UnR (X : Cx) (f : Value → Sem Value) (r : V → Hp → VK → Prop) : Prop :=
  ∀ (pins : List (Addr × Obj)) (s : Shared) (σ : St) (H : Hp) (x : V) (v : Value) (Q : VK), Inv X pins σ H s → RelV x v → r x H Q →
    wpAny (model X.prog X.w) X.A (f v) (EP X pins σ Q) X.xe s
/-- a call of a value that is known (a builtin, a type) with values -/
def CallR (X : Cx) (f : Value) (r : List V → Hp → VK → Prop) : Prop :=
  ∀ (pins : List (Addr × Obj)) (s : Shared) (σ : St) (H : Hp) (xs : List V) (us : List Value) (Q : VK), Inv X pins σ H s → Vals xs us → r xs H Q →
    wpAny (model X.prog X.w) X.A (call f us) (EP X pins σ Q) X.xe s
def tOp (r : R2) (ta tb : TE) : TE := fun σ H Q => ta σ H fun x H1 => tb σ H1 fun y H2 => r x y H2 Q
def tUn (r : V → Hp → VK → Prop) (ta : TE) : TE := fun σ H Q => ta σ H fun x H1 => r x H1 Q
/-- ints in, under C, and a value out -/
def rI (C : Int → Int → Prop) (g : Int → Int → V) : R2 := fun x y H Q => ∃ i j, x = .int i ∧ y = .int j ∧ C i j ∧ Q (g i j) H
def rI0 (g : Int → Int → V) : R2 := fun x y H Q => ∃ i j, x = .int i ∧ y = .int j ∧ Q (g i j) H
def rU (g : Int → V) : V → Hp → VK → Prop := fun x H Q => ∃ i, x = .int i ∧ Q (g i) H

section
variable {X : Cx} {a b c : Expr} {ta tb tc : TE} {pos : Pos}

theorem binT (ha : PE X a ta) (hb : PE X b tb) {pins : List (Addr × Obj)} {s : Shared} {σ : St} {H : Hp} {R : V → V → Hp → Prop} (I : Inv X pins σ H s)
    (h : ta σ H fun x H1 => tb σ H1 fun y H2 => R x y H2) {Q : Value → Shared → Prop} {f : Value → Value → Sem Value}
    (hf : ∀ v u s2 x y H2, Inv X pins σ H2 s2 → RelV x v → RelV y u → R x y H2 → wpAny (model X.prog X.w) X.A (f v u) Q X.xe s2) :
    wpAny (model X.prog X.w) X.A (eval a X.env) (fun v s₁ => wpAny (model X.prog X.w) X.A (eval b X.env) (fun u s₂ => wpAny (model X.prog X.w) X.A (f v u) Q X.xe s₂) X.xe s₁) X.xe s := by
  refine thn (ha pins s σ H _ I h) fun v s1 ⟨x, H1, I1, r1, q1⟩ => ?_
  refine thn (hb pins s1 σ H1 _ I1 q1) fun u s2 ⟨y, H2, I2, r2, q2⟩ => ?_
  exact hf v u s2 x y H2 I2 r1 r2 q2

theorem pe_op {op : Operator} {r : R2} (ho : OpR X (binaryOp op) r) (ha : PE X a ta) (hb : PE X b tb) : PE X (.BinOp a op b pos) (tOp r ta tb) := by
  intro pins s σ H Q I h
  exact wpAny_BinOp (binT ha hb I h fun v u s2 x y H2 I2 rx ry q => ho pins s2 σ H2 x y v u Q I2 rx ry q)
theorem pe_un {op : UnaryOp} {r : V → Hp → VK → Prop} (ho : UnR X (unaryOp op) r) (ha : PE X a ta) : PE X (.UnaryOp op a pos) (tUn r ta) := by
  intro pins s σ H Q I h
  exact UnaryOp_ (thn (ha pins s σ H _ I h) fun v s1 ⟨x, H1, I1, r1, q1⟩ => ho pins s1 σ H1 x v Q I1 r1 q1)
/-! ### ints -/
theorem opI {f : Value → Value → Sem Value} {C : Int → Int → Prop} {g : Int → Int → Int}
    (rule : ∀ (i j : Int) (t u : Tok) (s : Shared) (Q : Value → Shared → Prop) (E : Value → Shared → Prop), C i j → Q (.int (g i j) s.toks) { s with toks := s.toks + 1 } → wpAny (model X.prog X.w) X.A (f (.int i t) (.int j u)) Q E s) :
    OpR X f (rI C fun i j => .int (g i j)) := by
  intro pins s σ H x y v u Q I rx ry h
  obtain ⟨i, j, rfl, rfl, hc, q⟩ := h
  obtain ⟨t, rfl⟩ := rx
  obtain ⟨t', rfl⟩ := ry
  exact rule i j t t' s _ _ hc ⟨.int (g i j), H, I.tok _, ⟨_, rfl⟩, q⟩
theorem opI0 {f : Value → Value → Sem Value} {g : Int → Int → Int}
    (rule : ∀ (i j : Int) (t u : Tok) (s : Shared) (Q : Value → Shared → Prop) (E : Value → Shared → Prop), Q (.int (g i j) s.toks) { s with toks := s.toks + 1 } → wpAny (model X.prog X.w) X.A (f (.int i t) (.int j u)) Q E s) :
    OpR X f (rI0 fun i j => .int (g i j)) := by
  intro pins s σ H x y v u Q I rx ry h
  obtain ⟨i, j, rfl, rfl, q⟩ := h
  obtain ⟨t, rfl⟩ := rx
  obtain ⟨t', rfl⟩ := ry
  exact rule i j t t' s _ _ ⟨.int (g i j), H, I.tok _, ⟨_, rfl⟩, q⟩
theorem opB0 {f : Value → Value → Sem Value} {g : Int → Int → Bool}
    (rule : ∀ (i j : Int) (t u : Tok) (s : Shared) (Q : Value → Shared → Prop) (E : Value → Shared → Prop), Q (.bool (g i j)) s → wpAny (model X.prog X.w) X.A (f (.int i t) (.int j u)) Q E s) :
    OpR X f (rI0 fun i j => .bl (g i j)) := by
  intro pins s σ H x y v u Q I rx ry h
  obtain ⟨i, j, rfl, rfl, q⟩ := h
  obtain ⟨t, rfl⟩ := rx
  obtain ⟨t', rfl⟩ := ry
  exact rule i j t t' s _ _ ⟨.bl (g i j), H, I, rfl, q⟩

def CDiv (i j : Int) : Prop := 0 < j ∧ j < 1073741824
def CPow (i j : Int) : Prop := 0 ≤ j ∧ j ≤ 1000000 ∧ i.natAbs < 2 ^ 64
def CMul (i j : Int) : Prop := (-(2 ^ 64) < i ∧ i < 2 ^ 64) ∨ (-(2 ^ 64) < j ∧ j < 2 ^ 64)
theorem CMul.ok {i j : Int} (h : CMul i j) : IntMulOk i j := by
  rcases h with ⟨h1, h2⟩ | ⟨h1, h2⟩
  · exact .of_left (intBits_le_64 h1 h2)
  · exact .of_right (intBits_le_64 h1 h2)
theorem two_pow_nn (k : Nat) : (0 : Int) ≤ 2 ^ k := by
  rw [two_pow_cast]
  exact Int.natCast_nonneg _

theorem op_add : OpR X (binaryOp .Add) (rI0 fun i j => .int (i + j)) := opI0 fun _ _ _ _ _ _ _ q => add_int q
theorem op_sub : OpR X (binaryOp .Sub) (rI0 fun i j => .int (i - j)) := opI0 fun _ _ _ _ _ _ _ q => sub_int q
theorem op_mul : OpR X (binaryOp .Mult) (rI CMul fun i j => .int (i * j)) := opI fun _ _ _ _ _ _ _ hc q => mul_int q hc.ok
/-- // by a positive divisor -/
theorem op_fdiv : OpR X (binaryOp .FloorDiv) (rI CDiv fun i j => .int (i / j)) := opI fun i j _ _ _ _ _ hc q => by
  have h1 : (0 : Int) < j := hc.1
  have h2 : j < 1073741824 := hc.2
  exact floordiv_int (by omega) (by rw [Int.fdiv_eq_ediv_of_nonneg i (by omega)]; exact q) (.inl (PyProof.noPylong_small (by omega)))
/-- % by a positive divisor of any size -/
theorem op_mod : OpR X (binaryOp .Mod) (rI (fun _ j => 0 < j) fun i j => .int (i % j)) := opI fun i j _ _ _ _ _ hc q => by
  have h1 : (0 : Int) < j := hc
  exact mod_int' (by omega) (by rw [Int.fmod_eq_emod_of_nonneg i (by omega)]; exact q)
theorem op_pow : OpR X (binaryOp .Pow) (rI CPow fun i j => .int (i ^ j.toNat)) := opI fun _ _ _ _ _ _ _ hc q => pow_int_small hc.1 hc.2.1 hc.2.2 q
theorem op_shl : OpR X (binaryOp .LShift) (rI CPow fun i j => .int (i * 2 ^ j.toNat)) := opI fun _ _ _ _ _ _ _ hc q => lshift_int_small hc.1 hc.2.1 hc.2.2 q
theorem op_shr : OpR X (binaryOp .RShift) (rI (fun _ j => 0 ≤ j) fun i j => .int (i / 2 ^ j.toNat)) := opI fun i j _ _ _ _ _ hc q =>
  rshift_int hc (by rw [Int.fdiv_eq_ediv_of_nonneg i (two_pow_nn _)]; exact q)
theorem op_and : OpR X (binaryOp .BitAnd) (rI0 fun i j => .int (Builtin.bitAnd i j)) := opI0 fun _ _ _ _ _ _ _ q => and_int q
theorem op_or : OpR X (binaryOp .BitOr) (rI0 fun i j => .int (Builtin.bitOr i j)) := opI0 fun _ _ _ _ _ _ _ q => or_int q
theorem unI {f : Value → Sem Value} {g : Int → Int}
    (rule : ∀ (i : Int) (t : Tok) (s : Shared) (Q : Value → Shared → Prop) (E : Value → Shared → Prop), Q (.int (g i) s.toks) { s with toks := s.toks + 1 } → wpAny (model X.prog X.w) X.A (f (.int i t)) Q E s) :
    UnR X f (rU fun i => .int (g i)) := by
  intro pins s σ H x v Q I rx h
  obtain ⟨i, rfl, q⟩ := h
  obtain ⟨t, rfl⟩ := rx
  exact rule i t s _ _ ⟨.int (g i), H, I.tok _, ⟨_, rfl⟩, q⟩
theorem un_neg : UnR X (unaryOp .USub) (rU fun i => .int (-i)) := unI fun _ _ _ _ _ q => neg_int q
/-! ### bools among ints: n += (a < b) -/
end

/-! ### comparisons -/
/-- the scalars that == tells apart as data does -/
def scal : V → V → Bool
  | .non, .non => true | .non, .int _ => true | .int _, .non => true | .non, .bl _ => true | .bl _, .non => true | .non, .str _ => true | .str _, .non => true
  | .int _, .int _ => true | .bl _, .bl _ => true | .str _, .str _ => true | .byt _, .byt _ => true
  | .int _, .str _ => true | .str _, .int _ => true | .bl _, .str _ => true | .str _, .bl _ => true
  | _, _ => false
def rEq : R2 := fun x y H Q => scal x y = true ∧ Q (.bl (decide (x = y))) H
def rNe : R2 := fun x y H Q => scal x y = true ∧ Q (.bl (!decide (x = y))) H

theorem dec_int {i j : Int} : decide (V.int i = V.int j) = (i == j) := by
  rw [Bool.eq_iff_iff]
  simp
theorem dec_bl {i j : Bool} : decide (V.bl i = V.bl j) = (i == j) := by
  rw [Bool.eq_iff_iff]
  simp
theorem dec_str {i j : Str} : decide (V.str i = V.str j) = (i == j) := by
  rw [Bool.eq_iff_iff]
  simp
theorem dec_byt {i j : Array UInt8} : decide (V.byt i = V.byt j) = (i.toList == j.toList) := by
  rw [Bool.eq_iff_iff]
  cases i
  cases j
  simp

section
variable {X : Cx} {a b c : Expr} {ta tb tc : TE} {pos : Pos}
theorem fin_bl {pins : List (Addr × Obj)} {σ : St} {H : Hp} {s : Shared} {Q : VK} {k k' : Bool} (I : Inv X pins σ H s) (q : Q (.bl k) H) (e : k = k') : EP X pins σ Q (.bool k') s := by
  subst e
  exact ⟨.bl k, H, I, rfl, q⟩
theorem op_eq : OpR X (compareOp .Eq) rEq := by
  intro pins s σ H x y v u Q I rx ry h
  obtain ⟨hs, q⟩ := h
  cases x with
  | non =>
    cases rx
    cases y with
    | non => cases ry; exact PySem.EqNone.eq_none_none (fin_bl I q (by simp))
    | bl j => cases ry; exact PySem.EqNone.eq_none_bool (fin_bl I q (by simp))
    | int j => obtain ⟨t', rfl⟩ := ry; exact PySem.EqNone.eq_none_int (fin_bl I q (by simp))
    | str j => obtain ⟨t', rfl⟩ := ry; exact PySem.EqNone.eq_none_str (fin_bl I q (by simp))
    | _ => exact absurd (show false = true from hs) Bool.false_ne_true
  | bl i =>
    cases rx
    cases y with
    | non => cases ry; exact PySem.EqNone.eq_bool_none (fin_bl I q (by simp))
    | bl j => cases ry; exact eq_bool (fin_bl I q dec_bl)
    | str j => obtain ⟨t', rfl⟩ := ry; exact PySem.EqMixed.eq_bool_str (fin_bl I q (by simp))
    | _ => exact absurd (show false = true from hs) Bool.false_ne_true
  | int i =>
    obtain ⟨t, rfl⟩ := rx
    cases y with
    | non => cases ry; exact PySem.EqNone.eq_int_none (fin_bl I q (by simp))
    | int j => obtain ⟨t', rfl⟩ := ry; exact eq_int (fin_bl I q dec_int)
    | str j => obtain ⟨t', rfl⟩ := ry; exact PySem.EqMixed.eq_int_str (fin_bl I q (by simp))
    | _ => exact absurd (show false = true from hs) Bool.false_ne_true
  | str i =>
    obtain ⟨t, rfl⟩ := rx
    cases y with
    | non => cases ry; exact PySem.EqNone.eq_str_none (fin_bl I q (by simp))
    | bl j => cases ry; exact PySem.EqMixed.eq_str_bool (fin_bl I q (by simp))
    | int j => obtain ⟨t', rfl⟩ := ry; exact PySem.EqMixed.eq_str_int (fin_bl I q (by simp))
    | str j => obtain ⟨t', rfl⟩ := ry; exact eq_str (fin_bl I q dec_str)
    | _ => exact absurd (show false = true from hs) Bool.false_ne_true
  | byt i =>
    obtain ⟨t, rfl⟩ := rx
    cases y with
    | byt j => obtain ⟨t', rfl⟩ := ry; exact PySem.W.eq_bytes (fin_bl I q dec_byt)
    | _ => exact absurd (show false = true from hs) Bool.false_ne_true
  | _ => cases y <;> exact absurd (show false = true from hs) Bool.false_ne_true
theorem op_ne : OpR X (compareOp .NotEq) rNe := by
  intro pins s σ H x y v u Q I rx ry h
  obtain ⟨hs, q⟩ := h
  cases x with
  | non =>
    cases rx
    cases y with
    | non => cases ry; exact PySem.EqNone.ne_none_none (fin_bl I q (by simp))
    | bl j => cases ry; exact PySem.EqNone.ne_none_bool (fin_bl I q (by simp))
    | int j => obtain ⟨t', rfl⟩ := ry; exact PySem.EqNone.ne_none_int (fin_bl I q (by simp))
    | str j => obtain ⟨t', rfl⟩ := ry; exact PySem.EqNone.ne_none_str (fin_bl I q (by simp))
    | _ => exact absurd (show false = true from hs) Bool.false_ne_true
  | bl i =>
    cases rx
    cases y with
    | non => cases ry; exact PySem.EqNone.ne_bool_none (fin_bl I q (by simp))
    | bl j => cases ry; exact ne_bool (fin_bl I q (congrArg not dec_bl))
    | str j => obtain ⟨t', rfl⟩ := ry; exact PySem.EqMixed.ne_bool_str (fin_bl I q (by simp))
    | _ => exact absurd (show false = true from hs) Bool.false_ne_true
  | int i =>
    obtain ⟨t, rfl⟩ := rx
    cases y with
    | non => cases ry; exact PySem.EqNone.ne_int_none (fin_bl I q (by simp))
    | int j => obtain ⟨t', rfl⟩ := ry; exact ne_int (fin_bl I q (congrArg not dec_int))
    | str j => obtain ⟨t', rfl⟩ := ry; exact PySem.EqMixed.ne_int_str (fin_bl I q (by simp))
    | _ => exact absurd (show false = true from hs) Bool.false_ne_true
  | str i =>
    obtain ⟨t, rfl⟩ := rx
    cases y with
    | non => cases ry; exact PySem.EqNone.ne_str_none (fin_bl I q (by simp))
    | bl j => cases ry; exact PySem.EqMixed.ne_str_bool (fin_bl I q (by simp))
    | int j => obtain ⟨t', rfl⟩ := ry; exact PySem.EqMixed.ne_str_int (fin_bl I q (by simp))
    | str j => obtain ⟨t', rfl⟩ := ry; exact ne_str (fin_bl I q (congrArg not dec_str))
    | _ => exact absurd (show false = true from hs) Bool.false_ne_true
  | byt i =>
    obtain ⟨t, rfl⟩ := rx
    cases y with
    | byt j => obtain ⟨t', rfl⟩ := ry; exact PySem.W.ne_bytes (fin_bl I q (congrArg not dec_byt))
    | _ => exact absurd (show false = true from hs) Bool.false_ne_true
  | _ => cases y <;> exact absurd (show false = true from hs) Bool.false_ne_true

theorem op_lt : OpR X (compareOp .Lt) (rI0 fun i j => .bl (decide (i < j))) := opB0 fun _ _ _ _ _ _ _ q => lt_int q
theorem op_le : OpR X (compareOp .LtE) (rI0 fun i j => .bl (decide (i ≤ j))) := opB0 fun _ _ _ _ _ _ _ q => le_int q
theorem op_gt : OpR X (compareOp .Gt) (rI0 fun i j => .bl (decide (j < i))) := opB0 fun _ _ _ _ _ _ _ q => gt_int q
theorem op_ge : OpR X (compareOp .GtE) (rI0 fun i j => .bl (decide (j ≤ i))) := opB0 fun _ _ _ _ _ _ _ q => ge_int q
/-- is None, is not None: the right side a value none -/
theorem op_isN : OpR X (compareOp .Is) (fun x y H Q => y = .non ∧ Q (.bl (decide (x = .non))) H) := by
  intro pins s σ H x y v u Q I rx ry h
  obtain ⟨rfl, q⟩ := h
  cases ry
  refine is_none_gen (fin_bl I q ?_)
  cases x <;> first
    | (cases rx; rfl)
    | (obtain ⟨t, rfl⟩ := rx; rfl)
theorem op_notN : OpR X (compareOp .IsNot) (fun x y H Q => y = .non ∧ Q (.bl (!decide (x = .non))) H) := by
  intro pins s σ H x y v u Q I rx ry h
  obtain ⟨rfl, q⟩ := h
  cases ry
  refine isnot_none_gen (fin_bl I q ?_)
  cases x <;> first
    | (cases rx; rfl)
    | (obtain ⟨t, rfl⟩ := rx; rfl)

theorem nomark (b : Expr) {op : CmpOp} (h : op ≠ .In := by decide) (h2 : op ≠ .NotIn := by decide) : behindInMarks op b = false := by
  have e1 : (op == CmpOp.In) = false := by cases op <;> first | rfl | exact absurd rfl h
  have e2 : (op == CmpOp.NotIn) = false := by cases op <;> first | rfl | exact absurd rfl h2
  cases b <;> simp [behindInMarks, e1, e2]
/-- a comparison as a value; hm: nomark b, or (for in, not in) by with_unfolding_all rfl -/
theorem pe_cmpR {op : CmpOp} {r : R2} (ho : OpR X (compareOp op) r) (ha : PE X a ta) (hb : PE X b tb) (hm : behindInMarks op b = false) : PE X (.Compare a [op] [b] pos) (tOp r ta tb) := by
  intro pins s σ H Q I h
  exact wpAny_Compare1 (binT ha hb I h fun v u s2 x y H2 I2 rx ry q => ho pins s2 σ H2 x y v u Q I2 rx ry q) hm
/-- a reading of a value as a test -/
def tTest (t : TE) : TT := fun σ H Q => t σ H fun x H' => ∃ k, x = .bl k ∧ Q k H'
theorem pt_cmpR {op : CmpOp} {r : R2} (ho : OpR X (compareOp op) r) (ha : PE X a ta) (hb : PE X b tb) (hm : behindInMarks op b = false) : PT X (.Compare a [op] [b] pos) (tTest (tOp r ta tb)) := by
  intro pins s σ H Q I h
  refine wpAny_isTrue_Compare1 (thn (ha pins s σ H _ I h) fun v s1 ⟨x, H1, I1, r1, q1⟩ => thn (hb pins s1 σ H1 _ I1 q1) fun u s2 ⟨y, H2, I2, r2, q2⟩ =>
    thn (ho pins s2 σ H2 x y v u _ I2 r1 r2 q2) fun c s3 ⟨z, H3, I3, r3, k, e, q3⟩ => ?_) hm
  subst e
  cases r3
  exact wpAny_truthy_bool ⟨H3, I3, q3⟩
/-! ### truth -/
theorem line63 : (sizeLine : Nat) < 2 ^ 63 := by rw [sizeLine_eq]; decide
/-! ### strs and bytes -/
/-! ### scalar builtins, by CallR -/
theorem vals1 {x : V} {us : List Value} (r : Vals [x] us) : ∃ u, us = [u] ∧ RelV x u := by
  cases r with
  | cons r1 r2 => cases r2; exact ⟨_, rfl, r1⟩
theorem vals2 {x y : V} {us : List Value} (r : Vals [x, y] us) : ∃ u w', us = [u, w'] ∧ RelV x u ∧ RelV y w' := by
  cases r with
  | cons r1 r2 =>
    cases r2 with
    | cons r3 r4 => cases r4; exact ⟨_, _, rfl, r1, r3⟩
theorem call_max2 (hc : X.calm = true) : CallR X (.builtin "max") (fun xs H Q => ∃ i j, xs = [.int i, .int j] ∧ Q (.int (if j > i then j else i)) H) := by
  intro pins s σ H xs us Q I r h
  obtain ⟨i, j, rfl, q⟩ := h
  obtain ⟨u, w', rfl, ⟨t, rfl⟩, ⟨t', rfl⟩⟩ := vals2 r
  refine max_two_ints (I.ok.hd hc) fun h' tk k => ⟨_, H, I.kept k, ?_, q⟩
  by_cases hj : j > i
  · rw [if_pos hj, if_pos hj]; exact ⟨_, rfl⟩
  · rw [if_neg hj, if_neg hj]; exact ⟨_, rfl⟩
theorem call_int1 : CallR X (.type "int") (fun xs H Q => (∃ i, xs = [.int i] ∧ Q (.int i) H) ∨ ∃ k, xs = [.bl k] ∧ Q (.int (if k then 1 else 0)) H) := by
  intro pins s σ H xs us Q I r h
  rcases h with ⟨i, rfl, q⟩ | ⟨k, rfl, q⟩
  · obtain ⟨u, rfl, t, rfl⟩ := vals1 r
    exact call_int_int ⟨.int i, H, I, ⟨_, rfl⟩, q⟩
  · obtain ⟨u, rfl, r1⟩ := vals1 r
    cases r1
    exact call_int_bool ⟨.int (if k then 1 else 0), H, I.tok _, ⟨_, rfl⟩, q⟩
end
end L2

namespace L2
open PySem PySem.Spec PyProof.Rows

/-! ### an instance, its attributes a map -/
section
variable {prog : Program} {w : World} {A : Around} {E : Value → Shared → Prop} {s : Shared} {K : PySem.W.Frag} {x dx C f : Addr} {mA : Str → Option Value} {name : Str} {v : Value}

end

/-! ### the attributes as a list of pairs -/
section
variable {P : Program} {w : World} {H H' : Hp} {h h' : Heap} {a C dx : Addr} {fs fs' : List (Str × V)}
end

/-! ### what of the text a class must have -/
section
variable {X : Cx} {pins : List (Addr × Obj)} {σ : St} {H : Hp} {s : Shared} {a C dx : Addr} {fs : List (Str × V)} {f : Str} {v : V} {A : Around} {E : Value → Shared → Prop}

end

/-! ### readings and rules -/
section
variable {X : Cx} {o e value : Expr} {f : Str} {pos pos' tpos : Pos} {ta tv : TE}
end

/-! ### isinstance -/
section
variable {X : Cx} {pins : List (Addr × Obj)} {σ : St} {H : Hp} {s : Shared} {A : Around} {E : Value → Shared → Prop} {Q : Value → Shared → Prop} {c : Value} {b : Bool}
end
end L2

namespace L2
open PySem PySem.Spec PyProof.Rows

/-! ### room -/
structure Room (k : Nat) (A : Around) : Prop where
  hd : A.handled = none
  dp : A.depth + 3 * k + 5 < recursionLimit
  un : A.units + 16 * k + 200 < cLine
theorem Room.mono {j k : Nat} {A : Around} (r : Room k A) (h : j ≤ k) : Room j A := ⟨r.hd, by have := r.dp; omega, by have := r.un; omega⟩
theorem Room.deeper {k : Nat} {A : Around} (r : Room (k + 1) A) (env : Env) : Room k (A.deeper env) :=
  ⟨r.hd, by have := r.dp; show A.depth + 1 + 3 * k + 5 < _; omega, by have := r.un; show A.units + 3 + 16 * k + 200 < _; omega⟩
theorem Room.depth {k : Nat} {A : Around} (r : Room k A) : A.depth < recursionLimit := by have := r.dp; omega
theorem Room.units {k : Nat} {A : Around} (r : Room k A) : A.units + 64 < cLine := by have := r.un; omega
/-! ### argument lists and displays -/
def tNil : TA := fun _ H Q => Q [] H
def tCons (ta : TE) (tr : TA) : TA := fun σ H Q => ta σ H fun x H1 => tr σ H1 fun xs H2 => Q (x :: xs) H2
section
variable {X : Cx} {e : Expr} {es : List Expr} {te : TE} {t : TA} {pos : Pos}
theorem pa_nil : PA X [] tNil := fun _ _ _ _ H Q I h => Calls.spliced_nil ⟨[], H, I, .nil, h⟩
theorem pa_cons (ha : PE X e te) (hr : PA X es t) (hs : starEach (e :: es) X.env = (false, eval e X.env) :: starEach es X.env := by rfl) : PA X (e :: es) (tCons te t) := by
  intro pos pins s σ H Q I h
  rw [hs]
  show wpAny _ _ (spliced ((false, eval e X.env) :: backTo pos (starEach es X.env))) _ _ s
  refine Calls.spliced_cons (thn (ha pins s σ H _ I h) fun u s1 ⟨x, H1, I1, r1, q1⟩ => ?_)
  exact thn (hr pos pins s1 σ H1 _ I1 q1) fun us s2 ⟨xs, H2, I2, r2, q2⟩ => ⟨x :: xs, H2, I2, .cons r1 r2, q2⟩

/-- a tuple, a list of written items -/
def tTup (t : TA) : TE := fun σ H Q => t σ H fun xs H1 => xs.length ≤ sizeLine ∧ ∀ p, H1 p = none → Q (.ref p) (upd H1 p (.tup xs))
def tLst (t : TA) : TE := fun σ H Q => t σ H fun xs H1 => xs.length ≤ sizeLine ∧ ∀ p, H1 p = none → Q (.ref p) (upd H1 p (.lst xs))
theorem pe_tup {x1} (h : PA X es t) : PE X (.Tuple es x1 pos) (tTup t) := by
  intro pins s σ H Q I hq
  refine wpAny_Tuple_spliced (thn (h pos pins s σ H _ I hq) fun us s1 ⟨xs, H1, I1, r, z, q⟩ => ⟨by rw [← r.length]; exact z, ?_⟩)
  have hf : H1 s1.heap.objs.size = none := I1.hok.fresh (Nat.le_refl _)
  refine ⟨.ref s1.heap.objs.size, upd H1 s1.heap.objs.size (.tup xs), I1.laid (t' := s1.toks) (fun b u e => Heap.get?_push_of_some _ e) (Nat.le_refl _) ?_, rfl, q _ hf⟩
  exact ⟨z, us, r, ⟨_, Heap.get?_push_size _ rfl, rfl, _, rfl⟩⟩
theorem pe_lst (h : PA X es t) : PE X (.List es pos) (tLst t) := by
  intro pins s σ H Q I hq
  refine wpAny_List_spliced (thn (h pos pins s σ H _ I hq) fun us s1 ⟨xs, H1, I1, r, z, q⟩ => ⟨by rw [← r.length]; exact z, ?_⟩)
  have hf : H1 s1.heap.objs.size = none := I1.hok.fresh (Nat.le_refl _)
  refine ⟨.ref s1.heap.objs.size, upd H1 s1.heap.objs.size (.lst xs), I1.laid (t' := s1.toks) (fun b u e => Heap.get?_push_of_some _ e) (Nat.le_refl _) ?_, rfl, q _ hf⟩
  exact ⟨z, us, 0, r, Heap.get?_push_size _ rfl⟩
end

/-! ### what a def promises -/
/-- a def's promise: the bound arguments in the parameters' order, the heap, the wanted end, the wanted exception -/
abbrev Sp := List V → Hp → VK → XK → Prop
/-- how an exception lies behind a call (file 08 gives it): the callers' frames, abstract heap and state ahead of the call, the wish, the exception, the state -/
abbrev CXT := List Env → Hp → Shared → XK → Value → Shared → Prop

/-- the state at a call -/
structure Env0 (P : Program) (w : World) (K : PySem.W.Frag) (mg : Str → Option Value) (base : Heap) (A : Around) (outer : List Env) (s : Shared) (H : Hp) : Prop where
  frames : A.frames = some outer
  mod : Mod K mg base
  bs : ∀ b o, base.get? b = some o → s.heap.get? b = some o ∧ H b = none
  bsz : base.objs.size ≤ s.heap.objs.size
  funs : s.heap.FunFrames base outer
  frf : ∀ b ∈ frs outer, H b = none
  hok : HOk P w H s.heap
  bare : AllBare s.gens
/-- a call's end -/
def CE (outer : List Env) (P : Program) (w : World) (H : Hp) (s : Shared) (Q : VK) (u : Value) (s' : Shared) : Prop :=
  ∃ v H', s'.os = s.os ∧ AllBare s'.gens ∧ Un (frs outer) [] H H' s.heap s'.heap ∧ HOk P w H' s'.heap ∧ RelV v u ∧ Q v H'
def CR (CX : CXT) (outer : List Env) (P : Program) (w : World) (H : Hp) (s : Shared) (Q : VK) (E : XK) (r : Result) (s' : Shared) : Prop :=
  match r with
  | .ok (.ret u) => CE outer P w H s Q u s'
  | .ok _ => False
  | .error e => CX outer H s E e s'
structure FnOk (P : Program) (w : World) (K : PySem.W.Frag) (mg : Str → Option Value) (base : Heap) (CX : CXT) (k : Nat) (f : Addr) (fd : FuncData) (ps : List Str) (sp : Sp) : Prop where
  len : ∀ vs H Q E, sp vs H Q E → vs.length = ps.length
  run : ∀ (A : Around) (outer : List Env) (s : Shared) (H : Hp) (args : Args) (us : List Value) (vs : List V) (Q : VK) (E : XK), Room k A → Env0 P w K mg base A outer s H → BindsTo s fd args (ps.zip us) → Vals vs us → sp vs H Q E →
    codeAny (model P w) A (.call (.ref f) args) (CR CX outer P w H s Q E) s
/-- a weaker promise -/
theorem FnOk.imp {P : Program} {w : World} {K : PySem.W.Frag} {mg : Str → Option Value} {base : Heap} {CX : CXT} {k : Nat} {f : Addr} {fd : FuncData} {ps : List Str} {sp sp' : Sp} (F : FnOk P w K mg base CX k f fd ps sp)
    (h : ∀ vs H Q E, sp' vs H Q E → sp vs H Q E) : FnOk P w K mg base CX k f fd ps sp' :=
  ⟨fun vs H Q E q => F.len vs H Q E (h _ _ _ _ q), fun A outer s H args us vs Q E hr he hb hv hs => F.run A outer s H args us vs Q E hr he hb hv (h _ _ _ _ hs)⟩

section
variable {X : Cx} {pins : List (Addr × Obj)} {σ : St} {H : Hp} {s s' : Shared}
/-- from a body: what a callee wants -/
theorem Inv.env0 (I : Inv X pins σ H s) : Env0 X.prog X.w X.K X.mg X.base X.A X.stack s H :=
  ⟨I.ok.frames, I.ok.mod, I.bs, Nat.le_trans I.ok.bsz I.sz, I.stack, I.stkFree, I.hok, I.bare⟩
/-- behind a call -/
theorem Inv.after {Q : VK} {u : Value} (I : Inv X pins σ H s) (h : CE X.stack X.prog X.w H s Q u s') : EP X pins σ Q u s' := by
  obtain ⟨v, H', os, bare, un, hok, r, q⟩ := h
  obtain ⟨hh, g, d, t, os'⟩ := s'
  obtain rfl : os' = s.os := os
  exact ⟨v, H', I.call (h' := hh) (g' := g) (d' := d) (t' := t) (ch := []) un hok bare (fun b z => absurd z (by simp)), r, q⟩
end

/-! ### calls -/
/-- f(..): the written arguments, then the defaults dvs; E: what is wanted of an exception -/
def tCall (sp : Sp) (dvs : List V) (E : XK) (t : TA) : TE := fun σ H Q => t σ H fun vs H1 => sp (vs ++ dvs) H1 Q E
/-- how the parameters are bound: us the positional arguments, kw the keywords' values by name, ds the defaults that fill up -/
def Binds (K : PySem.W.Frag) (fd : FuncData) (ps : List Str) (ds : List Value) : Prop :=
  ∀ (s : Shared) (us : List Value), K.In s.heap → (us ++ ds).length = ps.length → BindsTo s fd ⟨us, []⟩ (ps.zip (us ++ ds))
/-- every parameter is given -/
theorem Binds.all {K : PySem.W.Frag} {fd : FuncData} {ps : List Str} (h : ∀ us : List Value, us.length = ps.length → bindArgs fd ⟨us, []⟩ = pure (ps.zip us)) : Binds K fd ps [] := fun s us _ hl => by
  rw [List.append_nil] at hl ⊢
  exact .of_eq (h us hl)

/-- an exception of a callee reaches what this body wants of exceptions -/
def Passes (CX : CXT) (X : Cx) (E : XK) : Prop := ∀ (pins : List (Addr × Obj)) (σ : St) (H : Hp) (s : Shared) (e : Value) (s' : Shared), Inv X pins σ H s → CX X.stack H s E e s' → X.xe e s'

section
variable {X : Cx} {CX : CXT} {k : Nat} {f C : Addr} {fd : FuncData} {ps : List Str} {sp : Sp} {dvs : List V} {ds : List Value} {E : XK} {x m : Str} {p pos apos : Pos} {e o : Expr} {es : List Expr} {ta : TE} {t : TA}

/-- the callee runs -/
theorem run_fn {pins : List (Addr × Obj)} {σ : St} {H : Hp} {s : Shared} {Q : VK} {us : List Value} {vs : List V} (F : FnOk X.prog X.w X.K X.mg X.base CX k f fd ps sp) (hr : Room k X.A) (hb : Binds X.K fd ps ds) (hd : Vals dvs ds) (hx : Passes CX X E)
    (I : Inv X pins σ H s) (r : Vals vs us) (h : sp (vs ++ dvs) H Q E) : wpAny (model X.prog X.w) X.A (call (.ref f) us) (EP X pins σ Q) X.xe s := by
  have r2 : Vals (vs ++ dvs) (us ++ ds) := r.append hd
  have hl : (us ++ ds).length = ps.length := by rw [← r2.length]; exact F.len _ _ _ _ h
  refine wpAny_call (codeAny_mono (F.run X.A X.stack s H ⟨us, []⟩ (us ++ ds) (vs ++ dvs) Q E hr I.env0 (hb s us I.kIn hl) r2 h) fun r s' hq => ?_)
  cases r with
  | error e => exact hx pins σ H s e s' I hq
  | ok fl =>
    cases fl with
    | ret u => exact I.after hq
    | next => exact False.elim hq
    | brk => exact False.elim hq
    | cont => exact False.elim hq

theorem pe_call (F : FnOk X.prog X.w X.K X.mg X.base CX k f fd ps sp) (hr : Room k X.A) (hg : Gl X x) (hm : X.mg x = some (.ref f)) (hk : PySem.W.keepIn X.K (.ref f) = true) (hb : Binds X.K fd ps ds) (hd : Vals dvs ds) (hx : Passes CX X E)
    (ha : PA X (e :: es) t) (hdb : (x == ("__debug__" : Str)) = false := by decide) (he : starEach (e :: es) X.env = (false, eval e X.env) :: starEach es X.env := by rfl) (hpl : (backTo pos (starEach es X.env)).any (·.1) = false := by rfl) :
    PE X (.Call (.Name x p) (e :: es) [] pos) (tCall sp dvs E t) := by
  intro pins s σ H Q I h
  refine wpAny_Call_Name_kw (ld_glob I hg hm ?_ hdb)
  refine PySem.W.callWith_K (h₀ := X.base) I.ok.mod.kin hk (thn (ha pos pins s σ H _ I h) fun us s1 ⟨vs, H1, I1, r, q⟩ => ⟨I1.kIn, ?_⟩) he hpl
  exact run_fn F hr hb hd hx I1 r q
end

/-! ### keywords -/
section
variable {X : Cx} {CX : CXT} {k : Nat} {f C : Addr} {fd : FuncData} {ps ks : List Str} {sp : Sp} {E : XK} {x m : Str} {p pos apos kpos : Pos} {e o : Expr} {es : List Expr} {kws : List Keyword} {te ta : TE} {t tk : TA} {nm : Option Str}
variable {g : List Value → List Value → List Value} {gV : List V → List V → List V}
end

/-! ### a def's body keeps its promise -/
/-- names: the parameters first -/
structure FnScope (N P : List Str) (sc : Scope) : Prop where
  kind : sc.kind = .function
  co : sc.isCoroutine = false
  gen : sc.isGenerator = false
  nd : N.Nodup
  pre : N.take P.length = P
  par : ∀ x ∈ P, sc.names.lookup x = some .local ∨ sc.names.lookup x = some .cell
  nofree : ∀ y ∈ sc.names, y.2 ≠ .free

theorem bindL_out {kindOf : Str → Option NameKind} {x : Str} : ∀ {binds : List (Str × Value)} {m : Str → Option Value}, (∀ v, (x, v) ∉ binds) → bindL kindOf binds m x = m x
  | [], _, _ => rfl
  | (n, v) :: r, m, h => by
    unfold bindL
    rw [bindL_out fun w hw => h w (List.mem_cons_of_mem _ hw)]
    split
    · have : x ≠ n := by rintro rfl; exact h v List.mem_cons_self
      simp [this]
    · rfl
theorem bindC_out {kindOf : Str → Option NameKind} {x : Str} : ∀ {binds : List (Str × Value)} {m : Str → Option Value}, (∀ v, (x, v) ∉ binds) → bindC kindOf binds m x = m x
  | [], _, _ => rfl
  | (n, v) :: r, m, h => by
    unfold bindC
    rw [bindC_out fun w hw => h w (List.mem_cons_of_mem _ hw)]
    split
    · rfl
    · have : x ≠ n := by rintro rfl; exact h v List.mem_cons_self
      simp [this]
theorem bindL_get {kindOf : Str → Option NameKind} {x : Str} {v : Value} : ∀ {P : List Str} {vs : List Value} {i : Nat} {m : Str → Option Value}, P.Nodup → P[i]? = some x → vs[i]? = some v → kindOf x = some .local →
    bindL kindOf (P.zip vs) m x = some v
  | [], _, _, _, _, h, _, _ => by simp at h
  | _ :: _, [], _, _, _, _, h, _ => by simp at h
  | p :: P, w :: vs, 0, m, nd, h1, h2, hk => by
    simp at h1 h2; subst h1; subst h2
    show bindL kindOf ((p, w) :: P.zip vs) m p = _
    unfold bindL
    rw [bindL_out fun v hv => (List.nodup_cons.mp nd).1 (List.of_mem_zip hv).1, if_pos hk]
    simp
  | p :: P, w :: vs, i + 1, m, nd, h1, h2, hk => by
    show bindL kindOf ((p, w) :: P.zip vs) m x = _
    unfold bindL
    exact bindL_get (i := i) (List.nodup_cons.mp nd).2 (by simpa using h1) (by simpa using h2) hk
theorem bindC_get {kindOf : Str → Option NameKind} {x : Str} {v : Value} : ∀ {P : List Str} {vs : List Value} {i : Nat} {m : Str → Option Value}, P.Nodup → P[i]? = some x → vs[i]? = some v → kindOf x ≠ some .local →
    bindC kindOf (P.zip vs) m x = some v
  | [], _, _, _, _, h, _, _ => by simp at h
  | _ :: _, [], _, _, _, _, h, _ => by simp at h
  | p :: P, w :: vs, 0, m, nd, h1, h2, hk => by
    simp at h1 h2; subst h1; subst h2
    show bindC kindOf ((p, w) :: P.zip vs) m p = _
    unfold bindC
    rw [bindC_out fun v hv => (List.nodup_cons.mp nd).1 (List.of_mem_zip hv).1, if_neg hk]
    simp
  | p :: P, w :: vs, i + 1, m, nd, h1, h2, hk => by
    show bindC kindOf ((p, w) :: P.zip vs) m x = _
    unfold bindC
    exact bindC_get (i := i) (List.nodup_cons.mp nd).2 (by simpa using h1) (by simpa using h2) hk

/-- the names' values at the entry -/
def start (N : List Str) (vs : List V) : St := vs.map some ++ List.replicate (N.length - vs.length) none

/-- the context of a def's body, at its entry; an exception leaves the frame, then lies as CX says -/
def cxOf (CX : CXT) (P : Program) (w : World) (K : PySem.W.Frag) (mg : Str → Option Value) (base : Heap) (N : List Str) (qual : Str) (scope : Scope) (f : Addr) (cd : Value) (A : Around) (outer : List Env) (s : Shared) (H : Hp) (E : XK) : Cx where
  prog := P
  w := w
  K := K
  mg := mg
  base := base
  A := A.deeper (envOfC qual scope s.heap.objs.size f cd)
  N := N
  s₀ := s
  H₀ := H
  env := envOfC qual scope s.heap.objs.size f cd
  outer := outer
  stack := envOfC qual scope s.heap.objs.size f cd :: outer
  ex := []
  calm := true
  fn := fun _ => true
  pn := []
  xe := fun e s' => wpAny (model P w) (A.deeper (envOfC qual scope s.heap.objs.size f cd)) (leaving (envOfC qual scope s.heap.objs.size f cd) e) (fun _ s'' => CX outer H s E e s'') (fun e' s'' => CX outer H s E e' s'') s'

theorem cell_has {sc : Scope} {n : Nat} {x : Str} (h : sc.names.lookup x = some .cell) : ∃ c, (cellsFrom n sc.names []).lookup x = some c := by
  have q := PySem.W.cellsFrom_some sc.names n [] (.inl h)
  exact Option.isSome_iff_exists.mp q

theorem inv_start {CX : CXT} {P : Program} {w : World} {K : PySem.W.Frag} {mg : Str → Option Value} {base : Heap} {N ps : List Str} {qual : Str} {scope : Scope} {f : Addr} {cd : Value} {A : Around} {outer : List Env} {s s1 : Shared} {H : Hp} {E : XK} {us : List Value} {vs : List V}
    (S : FnScope N ps scope) (hd : A.handled = none) (e0 : Env0 P w K mg base A outer s H) (hl : vs.length = ps.length) (r : Vals vs us)
    (x : InCallC s s.heap.objs.size (bindL (envOfC qual scope s.heap.objs.size f cd).kindOf (ps.zip us) fun _ => none) (cellsFrom (s.heap.objs.size + 1) scope.names []) (bindC (envOfC qual scope s.heap.objs.size f cd).kindOf (ps.zip us) fun _ => none) s1) :
    Inv (cxOf CX P w K mg base N qual scope f cd A outer s H E) [] (start N vs) H s1 := by
  have hpl : ps.length ≤ N.length := by have := congrArg List.length S.pre; rw [List.length_take] at this; omega
  obtain ⟨h1, tk, rfl, hk⟩ := x.done
  have noA : ∀ b : Addr, b ∉ (cxOf CX P w K mg base N qual scope f cd A outer s H E).ex := fun b z => absurd (show b ∈ ([] : List Addr) from z) (by simp)
  refine ⟨⟨e0.mod, S.kind, rfl, rfl, Nat.le_refl _, fun y z c h1 h2 => ?_, fun y hy => ?_, fun y c _ h => ?_, fun _ => hd, Around.frames_deeper e0.frames, .inr ⟨rfl, rfl⟩, fun b z => absurd z (noA b), e0.bs, e0.bsz, fun b _ _ => noA b, fun b z => absurd z (noA b), e0.funs, e0.frf⟩,
    rfl, e0.bare, Un.kept hk, ⟨_, x.toInCall.ns, fun i y v h1 h2 h3 => ?_⟩, fun y c h => ⟨_, x.cell y c h⟩, e0.hok.fresh (Nat.le_refl _), fun y c h => ?_, fun p hp => absurd (show p ∈ ([] : List (Addr × Obj)) from hp) (by simp), e0.hok.kept hk, ?_⟩
  · exact name_of_addr x.apart (PySem.mem_of_lookup h1) (PySem.mem_of_lookup h2)
  · have hy : scope.names.lookup y = some .cell ∨ scope.names.lookup y = some .free := hy
    rcases hy with hy | hy
    · exact cell_has hy
    · exact absurd rfl (S.nofree _ (PySem.mem_of_lookup hy))
  · exact Nat.le_of_lt (x.above y c (PySem.mem_of_lookup h))
  · have hi : i < vs.length := by
      unfold start at h2
      by_cases hi : i < vs.length
      · exact hi
      · rw [List.getElem?_append_right (by simpa using hi)] at h2
        rw [List.getElem?_replicate] at h2
        split at h2 <;> cases h2
    have ha : vs[i]? = some v := by
      unfold start at h2
      rw [List.getElem?_append_left (by simpa using hi), List.getElem?_map] at h2
      cases e : vs[i]? with
      | none => rw [e] at h2; cases h2
      | some a => rw [e] at h2; cases h2; rfl
    obtain ⟨u, hu, rv⟩ := r.get ha
    have hp : ps[i]? = some y := by
      rw [← S.pre, List.getElem?_take_of_lt (by omega)]; exact h1
    have ndP : ps.Nodup := by rw [← S.pre]; exact S.nd.sublist (List.take_sublist _ _)
    refine ⟨u, rv, ?_⟩
    rcases S.par y (List.mem_of_getElem? hp) with k | k
    · exact .inl ⟨k, bindL_get ndP hp hu k⟩
    · obtain ⟨c, e⟩ := cell_has (n := s.heap.objs.size + 1) k
      refine .inr ⟨.inl k, c, e, ?_⟩
      have q := x.cell y c e
      rw [bindC_get ndP hp hu (by show scope.names.lookup y ≠ _; rw [k]; decide)] at q
      exact q
  · exact e0.hok.fresh (Nat.le_of_lt (x.above y c (PySem.mem_of_lookup h)))
  · unfold start
    show _ = N.length
    rw [List.length_append, List.length_map, List.length_replicate]
    omega

/-- THE RULE: a def (or a method) of the text, by its body. The body's reading t is chosen for each entry; it is run at the parameters' values -/
theorem fn_of {CX : CXT} {P : Program} {w : World} {K : PySem.W.Frag} {mg : Str → Option Value} {base : Heap} {k : Nat} {f : Addr} {name qual : Str} {params : Arguments} {body : List Stmt} {scope : Scope} {dV kV doc pm cdv ct oc : Value} {an od : Option Addr}
    {osl : Array (Option Value)} {N ps : List Str} {sp : Sp} (lk : K.lookup f = some ⟨oc, od, .func (PySem.W.fnOf name qual params body scope dV kV doc pm an cdv ct), osl⟩) (hcd : PySem.W.codeIn K cdv qual = true) (S : FnScope N ps scope)
    (len : ∀ vs H Q E, sp vs H Q E → vs.length = ps.length)
    (hbody : ∀ (A : Around) (outer : List Env) (s : Shared) (H : Hp) (vs : List V) (Q : VK) (E : XK), Room k (A.deeper (envOfC qual scope s.heap.objs.size f cdv)) → sp vs H Q E →
      ∃ t, PSs (cxOf CX P w K mg base N qual scope f cdv A outer s H E) body t ∧ t { nx := fun _ H' => Q .non H', rt := Q } (start N vs) H) :
    FnOk P w K mg base CX (k + 1) f (PySem.W.fnOf name qual params body scope dV kV doc pm an cdv ct) ps sp := by
  refine ⟨len, fun A outer s H args us vs Q E hr e0 hb r hsp => ?_⟩
  have hl := len _ _ _ _ hsp
  have KX : K.In s.heap := e0.mod.kin.keeps fun b o e => (e0.bs b o e).1
  have lim : s.heap.NoLimit := e0.mod.nolimit.keeps fun b o e => (e0.bs b o e).1
  have hkind : ∀ y ∈ ps.zip us, scope.names.lookup y.1 = some .local ∨ (scope.names.lookup y.1 = some .cell ∧ ((cellsFrom (s.heap.objs.size + 1) scope.names []).lookup y.1).isSome = true) := fun ⟨n, v⟩ hy => by
    rcases S.par n (List.of_mem_zip hy).1 with q | q
    · exact .inl q
    · exact .inr ⟨q, PySem.W.cellsFrom_some _ _ _ (.inl q)⟩
  refine codeAny_call_function hr.depth (KX _ _ lk) rfl S.co S.gen rfl (PySem.W.codeRec_of KX hcd) (hb _ _ _ _ ?_)
  refine wpAny_newFunctionEnv_cells S.kind hkind fun env he s1 x => ?_
  subst he
  refine ⟨lim.keeps x.toInCall.keep, codeAny_func ?_⟩
  obtain ⟨t, ht, hq⟩ := hbody A outer s H vs Q E (hr.deeper _) hsp
  have I : Inv (cxOf CX P w K mg base N qual scope f cdv A outer s H E) [] (start N vs) H s1 := inv_start S hr.hd e0 hl r x
  refine wpAny_mono (ht [] s1 (start N vs) H _ I hq) (fun fl s' hs => ?_) fun e s' hs => hs
  have fin : ∀ {σ' : St} {H' : Hp} {v : V} {u : Value}, Inv (cxOf CX P w K mg base N qual scope f cdv A outer s H E) [] σ' H' s' → RelV v u → Q v H' → CE outer P w H s Q u s' :=
    fun {σ' H' v u} J rv q => ⟨v, H', J.os, J.bare, J.base, J.hok, rv, q⟩
  cases fl with
  | ret u =>
    obtain ⟨v, σ', H', J, rv, q⟩ := hs
    exact fin J rv q
  | next =>
    obtain ⟨σ', H', J, q⟩ := hs
    exact fin (v := V.non) (u := Value.none) J rfl q
  | brk =>
    obtain ⟨_, _, _, q⟩ := hs
    exact False.elim q
  | cont =>
    obtain ⟨_, _, _, q⟩ := hs
    exact False.elim q
end L2

namespace L2
open PySem PySem.Spec PyProof.Rows
section
variable {X : Cx} {x : Str} {p pos : Pos} {e : Expr} {es : List Expr} {t : TA} {id T : String} {r : List V → Hp → VK → Prop}

def tCB (r : List V → Hp → VK → Prop) (t : TA) : TE := fun σ H Q => t σ H fun vs H1 => r vs H1 Q
/-- f(e, ..), f a built-in function -/
theorem pe_callB (hc : CallR X (.builtin id) r) (hg : Gl X x) (hm : X.mg x = none) (hv : bootBuiltins x = some (.builtin id)) (ha : PA X (e :: es) t) (hn : x ≠ "__name__" := by decide) (hdb : (x == ("__debug__" : Str)) = false := by decide)
    (he : starEach (e :: es) X.env = (false, eval e X.env) :: starEach es X.env := by rfl) (hpl : (backTo pos (starEach es X.env)).any (·.1) = false := by rfl) : PE X (.Call (.Name x p) (e :: es) [] pos) (tCB r t) := by
  intro pins s σ H Q I h
  refine wpAny_Call_Name_kw (ld_blt I hg hm hv ?_ hn hdb)
  exact PyProof.Rows.callWith_builtin1 (thn (ha pos pins s σ H _ I h) fun us s1 ⟨vs, H1, I1, r1, q1⟩ => hc pins s1 σ H1 vs us Q I1 r1 q1) he hpl
/-- T(e, ..), T a built-in type -/
theorem pe_callTy (hc : CallR X (.type T) r) (hg : Gl X x) (hm : X.mg x = none) (hv : bootBuiltins x = some (.type T)) (ha : PA X (e :: es) t) (hn : x ≠ "__name__" := by decide) (hdb : (x == ("__debug__" : Str)) = false := by decide)
    (he : starEach (e :: es) X.env = (false, eval e X.env) :: starEach es X.env := by rfl) (hpl : (backTo pos (starEach es X.env)).any (·.1) = false := by rfl) : PE X (.Call (.Name x p) (e :: es) [] pos) (tCB r t) := by
  intro pins s σ H Q I h
  refine wpAny_Call_Name_kw (ld_blt I hg hm hv ?_ hn hdb)
  exact PyProof.Rows.callWith_type1 (thn (ha pos pins s σ H _ I h) fun us s1 ⟨vs, H1, I1, r1, q1⟩ => hc pins s1 σ H1 vs us Q I1 r1 q1) he hpl
end
end L2

namespace HT
open PySem PyProof.Rows

section
open PySem.SeqAt
open PySem.AutoSeq1 (wpAny_loadPart')
open PySem.MeetsSeq PySem.MeetsSeq2 PySem.MeetsSeq3

end

section
variable {prog : Program} {w : World} {A : Around} {E : Value → Shared → Prop} {s : Shared}

/-! ### t[a:b], not the whole -/
/-- a slice's bound as a place among n (d where it is left out) -/
def sIx (n d : Nat) : Option Int → Nat
  | none => d
  | some v => if v < 0 then (v + (n : Int)).toNat else min v.toNat n
theorem sIx_none (n d : Nat) : sIx n d none = d := rfl
theorem sIx_nat (n d k : Nat) : sIx n d (some (k : Int)) = min k n := by
  show (if (k : Int) < 0 then ((k : Int) + (n : Int)).toNat else min (k : Int).toNat n) = min k n
  rw [if_neg (by omega), Int.toNat_natCast]
end
end HT

namespace L2
open PySem PySem.Spec PyProof.Rows

/-! ### the parts of a slice -/
abbrev TO := St → Hp → (Option Int → Hp → Prop) → Prop
/-- a slice's part (left out, or an int) -/
def PO (X : Cx) (e : Option Expr) (t : TO) : Prop :=
  ∀ (pins : List (Addr × Obj)) (s : Shared) (σ : St) (H : Hp) (Q : Option Int → Hp → Prop), Inv X pins σ H s → t σ H Q →
    wpAny (model X.prog X.w) X.A (evalPart e X.env) (fun u s' => ∃ o H', Inv X pins σ H' s' ∧ IsPart u o ∧ Q o H') X.xe s
def tNoPart : TO := fun _ H Q => Q none H
def tPart (t : TE) : TO := fun σ H Q => t σ H fun x H1 => ∃ i, x = .int i ∧ Q (some i) H1

theorem intsAre_of {ns : List Int} : ∀ {us : List Value}, Vals (ns.map V.int) us → IntsAre us ns := by
  induction ns with
  | nil => intro us r; rw [List.map_nil] at r; cases r; exact .nil
  | cons n ns ih =>
    intro us r
    rw [List.map_cons] at r
    cases r with
    | cons r1 r2 =>
      obtain ⟨t, e⟩ := r1
      subst e
      exact .cons n t (ih r2)

section
variable {X : Cx} {e : Expr} {te : TE} {lo hi : Option Expr} {tl th : TO} {pos p2 : Pos}

theorem po_none : PO X none tNoPart := by
  intro pins s σ H Q I h
  rw [evalPart_none]
  exact wpAny_pure ⟨none, H, I, .none, h⟩
theorem po_some (h : PE X e te) : PO X (some e) (tPart te) := by
  intro pins s σ H Q I hw
  rw [evalPart_some]
  refine thn (h pins s σ H _ I hw) fun u s1 ⟨x, H1, I1, r1, q1⟩ => ?_
  obtain ⟨i, rfl, q⟩ := q1
  obtain ⟨t, rfl⟩ := r1
  exact ⟨some i, H1, I1, .int i t, q⟩

/-- what a slice of a value is, by values: the slice object stands at sl -/
def SlR (X : Cx) (r : V → Option Int → Option Int → Hp → VK → Prop) : Prop :=
  ∀ (pins : List (Addr × Obj)) (s : Shared) (σ : St) (H : Hp) (x : V) (v vl vu : Value) (lo hi : Option Int) (sl : Addr) (Q : VK), Inv X pins σ H s → RelV x v → s.heap.IsSliceOf sl vl vu .none → IsPart vl lo → IsPart vu hi → r x lo hi H Q →
    ∃ T id, typeLookup (.type T) "__getitem__" = pure (some (.builtin id)) ∧ s.TypeIs v T ∧ wpAny (model X.prog X.w) X.A (getItem v (.ref sl)) (EP X pins σ Q) X.xe s
def tSl (r : V → Option Int → Option Int → Hp → VK → Prop) (te : TE) (tl th : TO) : TE := fun σ H Q => te σ H fun x H1 => tl σ H1 fun l H2 => th σ H2 fun u H3 => r x l u H3 Q
/-- a[lo:hi], any a -/
theorem pe_slice {r : V → Option Int → Option Int → Hp → VK → Prop} (hr : SlR X r) (he : PE X e te) (hl : PO X lo tl) (hu : PO X hi th) : PE X (.Subscript e (.Slice lo hi none p2) pos) (tSl r te tl th) := by
  intro pins s σ H Q I h
  refine Subscript_ (thn (he pins s σ H _ I h) fun v s1 ⟨x, H1, I1, r1, q1⟩ => ?_)
  refine wpAny_Slice (thn (hl pins s1 σ H1 _ I1 q1) fun vl s2 ⟨l, H2, I2, pl, q2⟩ => thn (hu pins s2 σ H2 _ I2 q2) fun vu s3 ⟨u, H3, I3, pu, q3⟩ => ?_)
  rw [evalPart_none]
  refine wpAny_pure ?_
  have I4 : Inv X pins σ H3 { s3 with heap := s3.heap.push { cls := .type "slice", data := .fields #[vl, vu, .none] } } := I3.kept (t' := s3.toks) fun b ob q => Heap.get?_push_of_some _ q
  obtain ⟨T, id, hT, ht, hg⟩ := hr pins { s3 with heap := s3.heap.push { cls := .type "slice", data := .fields #[vl, vu, .none] } } σ H3 x v vl vu l u s3.heap.objs.size Q I4 r1 (Heap.IsSliceOf.new ..) pl pu q3
  show wpAny (model X.prog X.w) X.A (subscriptTail e (.Slice lo hi none p2) v (.ref s3.heap.objs.size)) (EP X pins σ Q) X.xe { s3 with heap := s3.heap.push { cls := .type "slice", data := .fields #[vl, vu, .none] } }
  exact tail_any (ops := [.ref s3.heap.objs.size, v]) ht hT hg (by with_unfolding_all rfl)

/-- the items of xs[lo:hi] -/
def cutV (xs : List V) (lo hi : Option Int) : List V := (xs.drop (HT.sIx xs.length 0 lo)).take (HT.sIx xs.length xs.length hi - HT.sIx xs.length 0 lo)
theorem cutV_length (xs : List V) (lo hi : Option Int) : (cutV xs lo hi).length ≤ xs.length := by
  unfold cutV
  rw [List.length_take, List.length_drop]
  omega
/-! ### t < u, t + u -/
end
end L2

namespace L2
open PySem PySem.Spec PyProof.Rows

/-! ### places -/
/-- the place that an index of any sign means -/
def ixN (n : Nat) (i : Int) : Option Nat := if 0 ≤ i then (if i < n then some i.toNat else none) else if -(n : Int) ≤ i then some (i + n).toNat else none
def atI {α : Type} (xs : List α) (i : Int) : Option α := (ixN xs.length i).bind fun j => xs[j]?
theorem ixN_seq {n : Nat} {i : Int} {j : Nat} (h : ixN n i = some j) : seqIndex? i n = some j ∧ j < n ∧ -(n : Int) ≤ i ∧ i < n := by
  unfold ixN at h
  by_cases h0 : 0 ≤ i
  · rw [if_pos h0] at h
    by_cases h1 : i < n
    · rw [if_pos h1] at h
      have e : i.toNat = j := Option.some.inj h
      exact ⟨by rw [seqIndex_of h0 h1, e], by omega, by omega, h1⟩
    · rw [if_neg h1] at h; cases h
  · rw [if_neg h0] at h
    by_cases h1 : -(n : Int) ≤ i
    · rw [if_pos h1] at h
      have e : (i + n).toNat = j := Option.some.inj h
      exact ⟨by rw [seqIndex_neg (by omega) h1, e], by omega, h1, by omega⟩
    · rw [if_neg h1] at h; cases h
theorem atI_get {α : Type} {xs : List α} {i : Int} {v : α} (h : atI xs i = some v) : ∃ j, seqIndex? i xs.length = some j ∧ xs[j]? = some v ∧ j < xs.length ∧ -(xs.length : Int) ≤ i ∧ i < xs.length := by
  unfold atI at h
  cases e : ixN xs.length i with
  | none => rw [e] at h; cases h
  | some j =>
    rw [e] at h
    obtain ⟨h1, h2, h3, h4⟩ := ixN_seq e
    exact ⟨j, h1, h, h2, h3, h4⟩
theorem atI_nat {α : Type} {xs : List α} {j : Nat} {v : α} (h : xs[j]? = some v) : atI xs (j : Int) = some v := by
  have hj : j < xs.length := (List.getElem?_eq_some_iff.mp h).1
  have e : ixN xs.length (j : Int) = some j := by
    unfold ixN
    rw [if_pos (by omega), if_pos (by omega)]; simp
  unfold atI; rw [e]; exact h
/-! ### what may be subscripted -/
/-- what stands as an index of a plain subscript -/
def PlainIx (b : Expr) : Prop := ∀ o i, subscripted b false o i = operate [o, i] (getItem o i)
/-- a subscript by values -/
def IxR (X : Cx) (r : R2) : Prop :=
  ∀ (value slice : Expr) (pins : List (Addr × Obj)) (s : Shared) (σ : St) (H : Hp) (x y : V) (v u : Value) (Q : VK), Inv X pins σ H s → RelV x v → RelV y u → r x y H Q →
    subscripted slice false v u = operate [v, u] (getItem v u) → wpAny (model X.prog X.w) X.A (subscriptTail value slice v u) (EP X pins σ Q) X.xe s
/-- a call of a builtin's method by values: the receiver, the arguments -/
def MtR (X : Cx) (id : String) (r : V → List V → Hp → VK → Prop) : Prop :=
  ∀ (pins : List (Addr × Obj)) (s : Shared) (σ : St) (H : Hp) (x : V) (xs : List V) (v : Value) (us : List Value) (Q : VK), Inv X pins σ H s → RelV x v → Vals xs us → r x xs H Q →
    wpAny (model X.prog X.w) X.A (call (.builtin id) (v :: us)) (EP X pins σ Q) X.xe s
section
variable {X : Cx} {a b : Expr} {ta tb : TE} {pos : Pos}
/-- a[b] -/
theorem pe_ix {r : R2} (hr : IxR X r) (ha : PE X a ta) (hb : PE X b tb) (hs : PlainIx b) : PE X (.Subscript a b pos) (tOp r ta tb) := by
  intro pins s σ H Q I h
  exact Subscript_ (binT ha hb I h fun v u s2 x y H2 I2 rx ry q => hr a b pins s2 σ H2 x y v u Q I2 rx ry q (hs _ _))

def rIxL (K : PySem.W.Frag) : R2 := fun x y H Q => ∃ p xs i v, x = .ref p ∧ y = .int i ∧ SqL K H p xs ∧ atI xs i = some v ∧ Q v H
def rIxT (K : PySem.W.Frag) : R2 := fun x y H Q => ∃ p xs i v, x = .ref p ∧ y = .int i ∧ SqT K H p xs ∧ atI xs i = some v ∧ Q v H
theorem ix_list : IxR X (rIxL X.K) := by
  intro value slice pins s σ H x y v u Q I rx ry h hs
  obtain ⟨p, xs, i, z, rfl, rfl, hq, he, q⟩ := h
  cases rx
  obtain ⟨t, rfl⟩ := ry
  obtain ⟨its, r, pl, hz⟩ := I.list hq
  obtain ⟨j, h1, h2, h3, h4, h5⟩ := atI_get he
  obtain ⟨w, ew, rw'⟩ := r.get h2
  have hl := r.length
  have hn := line63
  have fin : EP X pins σ Q w s := ⟨z, H, I, rw', q⟩
  by_cases h0 : 0 ≤ i
  · have hj : i.toNat = j := by
      rw [seqIndex_of h0 h5] at h1
      exact Option.some.inj h1
    exact item_listR pl.isList h0 (by omega) (by rw [hj]; simpa using ew) fin hs
  · have hj : (i + (its.toArray.size : Int)).toNat = j := by
      rw [seqIndex_neg (by omega) h4] at h1
      rw [List.size_toArray, ← hl]
      exact Option.some.inj h1
    exact subscriptTail_builtinR (x := w) pl.isList.typeIs slot_list_getitem.lookup
      (wpAny_getItem_list_neg (Q := fun r s' => r = w ∧ EP X pins σ Q r s') pl.isList (by omega) (by rw [List.size_toArray] <;> omega) (by omega) (by rw [hj]; simpa using ew) ⟨rfl, fin⟩) hs
theorem ix_tup : IxR X (rIxT X.K) := by
  intro value slice pins s σ H x y v u Q I rx ry h hs
  obtain ⟨p, xs, i, z, rfl, rfl, hq, he, q⟩ := h
  cases rx
  obtain ⟨t, rfl⟩ := ry
  obtain ⟨its, r, pl, hz⟩ := I.tuple hq
  obtain ⟨j, h1, h2, h3, h4, h5⟩ := atI_get he
  obtain ⟨w, ew, rw'⟩ := r.get h2
  have hl := r.length
  have hn := line63
  have fin : EP X pins σ Q w s := ⟨z, H, I, rw', q⟩
  exact subscriptTail_builtinR (x := w) pl.typeIs slot_tuple_getitem.lookup
    (getItem_tuple (j := j) (Q := fun r s' => r = w ∧ EP X pins σ Q r s') pl (by omega) (by omega) (by rw [List.size_toArray, ← hl]; exact h1) (by simpa using ew) ⟨rfl, fin⟩) hs
/-! ### xs[i] = v, any sign -/
/-- the list's object behind a store -/
theorem mapSeq_set (its : List Value) (n j : Nat) (u : Value) : Obj.mapSeq (·.setIfInBounds j u) { cls := .type "list", data := .seq its.toArray n } = { cls := .type "list", data := .seq (its.set j u).toArray n } := by
  simp [Obj.mapSeq]
theorem Inv.lst {pins : List (Addr × Obj)} {σ : St} {H : Hp} {s : Shared} {p : Addr} {xs : List V} (I : Inv X pins σ H s) (h : H p = some (.lst xs)) :
    ∃ (its : List Value) (n : Nat), Vals xs its ∧ s.heap.get? p = some { cls := .type "list", data := .seq its.toArray n } ∧ xs.length ≤ sizeLine := by
  obtain ⟨z, its, n, r, e⟩ := I.hok p _ h
  exact ⟨its, n, r, e, z⟩
/-- the list at p is written by an update of its object -/
theorem Inv.lstUpd {pins : List (Addr × Obj)} {σ : St} {H : Hp} {s : Shared} {p : Addr} {xs ys : List V} {its its' : List Value} {n n' : Nat} {f : Obj → Obj} (I : Inv X pins σ H s) (h : H p = some (.lst xs))
    (ho : s.heap.get? p = some { cls := .type "list", data := .seq its.toArray n }) (hf : f { cls := .type "list", data := .seq its.toArray n } = { cls := .type "list", data := .seq its'.toArray n' }) (r : Vals ys its') (hz : ys.length ≤ sizeLine) (t : Nat) :
    Inv X pins σ (upd H p (.lst ys)) { s with heap := s.heap.update p f, toks := t } := by
  have e : (s.heap.update p f).get? p = some { cls := .type "list", data := .seq its'.toArray n' } := by
    rw [Heap.get?_update_self f ho (by rw [hf] <;> rfl), hf]
  refine I.write (x := p) (e := p) (by rw [h]; trivial) (.inl rfl) (fun b u hb q => (Heap.get?_update_other _ _ (Ne.symm hb)).trans q) ⟨_, e⟩ ?_
  exact ⟨hz, its', n', r, e⟩
def rSetL : V → V → V → Hp → (Hp → Prop) → Prop := fun o i v H Q => ∃ p xs k j, o = .ref p ∧ i = .int k ∧ H p = some (.lst xs) ∧ ixN xs.length k = some j ∧ Q (upd H p (.lst (xs.set j v)))
theorem set_list : PSet X rSetL := by
  intro pins s σ H o i v ov iv u Q I ro ri rv h
  obtain ⟨p, xs, k, j, rfl, rfl, hp, hj, q⟩ := h
  cases ro
  obtain ⟨t, rfl⟩ := ri
  obtain ⟨its, n, r, ho, hz⟩ := I.lst hp
  obtain ⟨h1, h2, h3, h4⟩ := ixN_seq hj
  have hl := r.length
  have hn := line63
  have I' : Inv X pins σ (upd H p (.lst (xs.set j v))) { s with heap := s.heap.update p (Obj.mapSeq (·.setIfInBounds j u)) } :=
    I.lstUpd hp ho (mapSeq_set its n j u) (r.set rv j) (by rw [List.length_set]; exact hz) s.toks
  by_cases h0 : 0 ≤ k
  · have hk : k.toNat = j := by
      rw [seqIndex_of h0 h4] at h1
      exact Option.some.inj h1
    exact PySem.W.ki_setAt ho h0 (by omega) (by rw [List.size_toArray, ← hl]; exact h4) (by rw [hk]; exact ⟨_, I', q⟩)
  · have hk : (k + (its.toArray.size : Int)).toNat = j := by
      rw [seqIndex_neg (by omega) h3] at h1
      rw [List.size_toArray, ← hl]
      exact Option.some.inj h1
    exact PySem.W.ki_setBack ho (by omega) (by rw [List.size_toArray, ← hl]; exact h3) (by omega) (by rw [hk]; exact ⟨_, I', q⟩)

/-! ### slices -/
theorem slice_bounds (lo hi : Option Int) (n : Nat) : (sliceBounds lo hi none n).1 = ((HT.sIx n 0 lo : Nat) : Int) ∧ (sliceBounds lo hi none n).2.1 = ((HT.sIx n n hi : Nat) : Int) ∧ (sliceBounds lo hi none n).2.2 = 1 := by
  refine ⟨?_, ?_, rfl⟩
  · cases lo with
    | none => simp [sliceBounds, HT.sIx]
    | some i =>
      simp only [sliceBounds, HT.sIx, Option.getD_none, show (1 : Int) > 0 by decide, if_true]
      by_cases h : i < 0
      · simp only [h, if_true] <;> omega
      · simp only [h, if_false] <;> omega
  · cases hi with
    | none => simp [sliceBounds, HT.sIx]
    | some i =>
      simp only [sliceBounds, HT.sIx, Option.getD_none, show (1 : Int) > 0 by decide, if_true]
      by_cases h : i < 0
      · simp only [h, if_true] <;> omega
      · simp only [h, if_false] <;> omega
theorem slicePick_cut (its : List Value) (lo hi : Option Int) : slicePick its.toArray lo hi none = ((its.drop (HT.sIx its.length 0 lo)).take (HT.sIx its.length its.length hi - HT.sIx its.length 0 lo)).toArray := by
  obtain ⟨h1, h2, h3⟩ := slice_bounds lo hi its.toArray.size
  unfold slicePick
  rw [h1, h2, h3]
  simp only [sliceRange_one, pick_run, List.size_toArray] <;> rfl
/-- xs[lo:hi] of a list: a new list -/
def rSlL (K : PySem.W.Frag) : V → Option Int → Option Int → Hp → VK → Prop := fun x lo hi H Q => ∃ a xs, x = .ref a ∧ SqL K H a xs ∧ ∀ p, H p = none → Q (.ref p) (upd H p (.lst (cutV xs lo hi)))
theorem sl_list : SlR X (rSlL X.K) := by
  intro pins s σ H x v vl vu lo hi sl Q I rx hs pl pu h
  obtain ⟨a, xs, rfl, hx, q⟩ := h
  cases rx
  obtain ⟨its, r, ht, hz⟩ := I.list hx
  have hlen := r.length
  refine ⟨"list", _, slot_list_getitem.lookup, ht.isList.typeIs, ?_⟩
  refine wpAny_getItem_list_slice ht.isList hs pl pu .none (by simp) ?_ (by rw [List.size_toArray] <;> omega)
  rw [slicePick_cut, ← hlen]
  refine ⟨.ref s.heap.objs.size, _, I.laid (t' := s.toks) (o := .lst (cutV xs lo hi)) (fun b ob q => Heap.get?_push_of_some _ q) (Nat.le_refl _) ?_, rfl, q _ (I.hok.fresh (Nat.le_refl _))⟩
  exact ⟨Nat.le_trans (cutV_length xs lo hi) hz, _, 0, (r.drop (HT.sIx xs.length 0 lo)).take (HT.sIx xs.length xs.length hi - HT.sIx xs.length 0 lo), Heap.get?_push_size _ rfl⟩

/-! ### in, not in: flat items -/
def flatV : V → Bool
  | .non => true
  | .bl _ => true
  | .int _ => true
  | .str _ => true
  | _ => false
/-- == of flat values -/
def eqV : V → V → Bool
  | .non, .non => true
  | .bl a, .bl b => a == b
  | .bl a, .int b => (if a then 1 else 0) == b
  | .int a, .bl b => a == (if b then 1 else 0)
  | .int a, .int b => a == b
  | .str a, .str b => a == b
  | _, _ => false
theorem eqAt_V {A : Around} {s : Shared} {y x : V} {u v : Value} (ry : RelV y u) (rx : RelV x v) (fy : flatV y = true) (fx : flatV x = true) : SeqAt.EqAt A s u v (eqV y x) := by
  cases y with
  | non =>
    cases ry
    cases x with
    | non => cases rx; exact SeqAt.EqAt.same _
    | bl b => cases rx; exact SeqAt.EqAt.none_bool b
    | int b => obtain ⟨t, rfl⟩ := rx; exact SeqAt.EqAt.none_int b t
    | str b => obtain ⟨t, rfl⟩ := rx; exact SeqAt.EqAt.none_str b t
    | _ => exact absurd (show false = true from fx) Bool.false_ne_true
  | bl a =>
    cases ry
    cases x with
    | non => cases rx; exact SeqAt.EqAt.bool_none a
    | bl b => cases rx; exact SeqAt.EqAt.bool_bool a b
    | int b => obtain ⟨t, rfl⟩ := rx; exact SeqAt.EqAt.bool_int a b t
    | str b => obtain ⟨t, rfl⟩ := rx; exact SeqAt.EqAt.bool_str a b t
    | _ => exact absurd (show false = true from fx) Bool.false_ne_true
  | int a =>
    obtain ⟨t', rfl⟩ := ry
    cases x with
    | non => cases rx; exact SeqAt.EqAt.int_none a t'
    | bl b => cases rx; exact SeqAt.EqAt.int_bool a t' b
    | int b => obtain ⟨t, rfl⟩ := rx; exact SeqAt.EqAt.int_int a t' b t
    | str b => obtain ⟨t, rfl⟩ := rx; exact SeqAt.EqAt.int_str a t' b t
    | _ => exact absurd (show false = true from fx) Bool.false_ne_true
  | str a =>
    obtain ⟨t', rfl⟩ := ry
    cases x with
    | non => cases rx; exact SeqAt.EqAt.str_none a t'
    | bl b => cases rx; exact SeqAt.EqAt.str_bool a t' b
    | int b => obtain ⟨t, rfl⟩ := rx; exact SeqAt.EqAt.str_int a t' b t
    | str b => obtain ⟨t, rfl⟩ := rx; exact SeqAt.EqAt.str_str a t' b t
    | _ => exact absurd (show false = true from fx) Bool.false_ne_true
  | _ => exact absurd (show false = true from fy) Bool.false_ne_true
/-- the items' answers, read off the values (a value's own answer does not lean on its token) -/
def eqU (x : V) (u : Value) : Bool := match u with
  | .none => eqV .non x
  | .bool b => eqV (.bl b) x
  | .int i _ => eqV (.int i) x
  | .str z _ => eqV (.str z) x
  | _ => false
theorem eqU_of {x y : V} {u : Value} (r : RelV y u) (f : flatV y = true) : eqU x u = eqV y x := by
  cases y with
  | non => cases r; rfl
  | bl b => cases r; rfl
  | int i => obtain ⟨t, rfl⟩ := r; rfl
  | str z => obtain ⟨t, rfl⟩ := r; rfl
  | _ => exact absurd (show false = true from f) Bool.false_ne_true
theorem any_eqU {x : V} : ∀ {xs : List V} {us : List Value}, Vals xs us → xs.all flatV = true → us.any (eqU x) = xs.any fun y => eqV y x
  | _, _, .nil, _ => rfl
  | y :: xs, u :: us, .cons r t, f => by
    rw [List.all_cons, Bool.and_eq_true] at f
    rw [List.any_cons, List.any_cons, eqU_of r f.1, any_eqU t f.2]
theorem mem_eqAt {A : Around} {s : Shared} {x : V} {v : Value} (rx : RelV x v) (fx : flatV x = true) : ∀ {xs : List V} {us : List Value}, Vals xs us → xs.all flatV = true → ∀ u ∈ us, SeqAt.EqAt A s u v (eqU x u)
  | _, _, .nil, _ => fun u hu => by cases hu
  | y :: xs, u :: us, .cons r t, f => fun u' hu => by
    rw [List.all_cons, Bool.and_eq_true] at f
    rcases List.mem_cons.mp hu with rfl | hu
    · rw [eqU_of r f.1]; exact eqAt_V r rx f.1 fx
    · exact mem_eqAt rx fx t f.2 u' hu
def inV (x : V) (xs : List V) : Bool := xs.any fun y => eqV y x
/-- x in a list or tuple of flat items -/
def rIn (K : PySem.W.Frag) (neg : Bool) : R2 := fun x y H Q => ∃ p xs, y = .ref p ∧ (SqL K H p xs ∨ SqT K H p xs) ∧ flatV x = true ∧ xs.all flatV = true ∧ Q (.bl (if neg then !inV x xs else inV x xs)) H
theorem op_notIn_seq : OpR X (compareOp .NotIn) (rIn X.K true) := by
  intro pins s σ H x y v u Q I rx ry h
  obtain ⟨p, xs, rfl, hq, fx, fs, q⟩ := h
  cases ry
  rcases hq with hq | hq
  · obtain ⟨its, r, pl, hz⟩ := I.list hq
    refine SeqAt.notIn_listAt (eqU x) pl.isList (fun w hw => mem_eqAt rx fx r fs w (by simpa using hw)) ⟨.bl _, H, I, rfl, ?_⟩
    rw [show its.toArray.any (eqU x) = its.any (eqU x) by simp, any_eqU r fs]
    exact q
  · obtain ⟨its, r, pl, hz⟩ := I.tuple hq
    refine SeqAt.notIn_tupleAt (eqU x) pl (fun w hw => mem_eqAt rx fx r fs w (by simpa using hw)) ⟨.bl _, H, I, rfl, ?_⟩
    rw [show its.toArray.any (eqU x) = its.any (eqU x) by simp, any_eqU r fs]
    exact q
/-! ### len, list(x), tuple(x) of any list or tuple that is read -/
theorem call_len_seq : CallR X (.builtin "len") (fun xs H Q => ∃ p ys, xs = [.ref p] ∧ (SqL X.K H p ys ∨ SqT X.K H p ys) ∧ Q (.int ys.length) H) := by
  intro pins s σ H xs us Q I r h
  obtain ⟨p, ys, rfl, hq, q⟩ := h
  obtain ⟨u, rfl, rx⟩ := vals1 r
  cases rx
  have hn := line63
  rcases hq with hq | hq
  · obtain ⟨its, r', pl, hz⟩ := I.list hq
    have hlen := r'.length
    exact Calls.call_len_list pl.isList (by simp only [List.size_toArray] <;> omega) ⟨.int ys.length, H, I.tok _, ⟨s.toks + 1, by rw [List.size_toArray, hlen]⟩, q⟩
  · obtain ⟨its, r', pl, hz⟩ := I.tuple hq
    have hlen := r'.length
    exact len_tuple pl (by simp only [List.size_toArray] <;> omega) ⟨.int ys.length, H, I.tok _, ⟨s.toks + 1, by rw [List.size_toArray, hlen]⟩, q⟩
theorem call_tuple_of : CallR X (.type "tuple") (fun xs H Q => ∃ p ys, xs = [.ref p] ∧ ((SqL X.K H p ys ∧ ∀ l, H l = none → Q (.ref l) (upd H l (.tup ys))) ∨ (SqT X.K H p ys ∧ Q (.ref p) H))) := by
  intro pins s σ H xs us Q I r h
  obtain ⟨p, ys, rfl, h⟩ := h
  obtain ⟨u, rfl, rx⟩ := vals1 r
  cases rx
  rcases h with ⟨hq, q⟩ | ⟨hq, q⟩
  · obtain ⟨its, r', pl, hz⟩ := I.list hq
    have hlen := r'.length
    refine call_tuple_list pl.isList (fun h' kp => ?_) (by simp only [List.size_toArray] <;> omega)
    have I1 : Inv X pins σ H { s with heap := h' } := I.kept (t' := s.toks) kp
    have I2 : Inv X pins σ (upd H h'.objs.size (.tup ys)) { s with heap := h'.push { cls := .type "tuple", data := .seq its.toArray } } :=
      I1.laid (t' := s.toks) (fun b o e => Heap.get?_push_of_some _ e) (Nat.le_refl _) (show ObjOk X.prog X.w _ _ _ (.tup ys) from ⟨hz, its, r', IsTup.new _ _⟩)
    exact ⟨.ref h'.objs.size, _, I2, rfl, q _ (I1.hok.fresh (Nat.le_refl _))⟩
  · obtain ⟨its, r', pl, hz⟩ := I.tuple hq
    exact call_tuple_same pl ⟨.ref p, H, I, rfl, q⟩

/-! ### the call of a builtin's method: o.m(..) -/
/-- the value is of that builtin type -/
def tyV (K : PySem.W.Frag) (T : String) (x : V) (H : Hp) : Prop := match x with
  | .str _ => T = "str"
  | .int _ => T = "int"
  | .ref p => (T = "list" ∧ ∃ xs, SqL K H p xs) ∨ (T = "tuple" ∧ ∃ o, K.lookup p = some o ∧ o.cls = .type "tuple" ∧ o.dict = none) ∨
      (T = "dict" ∧ ((∃ kvs, H p = some (.dK kvs)) ∨ ∃ kvs, H p = some (.dT kvs))) ∨ (T = "set" ∧ ∃ S n, H p = some (.set S n))
  | _ => False
theorem tyV_is {pins : List (Addr × Obj)} {σ : St} {H : Hp} {s : Shared} {T : String} {x : V} {v : Value} (I : Inv X pins σ H s) (r : RelV x v) (ty : tyV X.K T x H) :
    s.TypeIs v T ∧ ∀ a, v = .ref a → ∃ ob, s.heap.get? a = some ob ∧ ob.dict = none := by
  cases x with
  | str z =>
    obtain ⟨t, rfl⟩ := r
    cases (show T = "str" from ty)
    exact ⟨typeIs_str s z t, fun _ e => nomatch e⟩
  | int i =>
    obtain ⟨t, rfl⟩ := r
    cases (show T = "int" from ty)
    exact ⟨typeIs_int s i t, fun _ e => nomatch e⟩
  | ref p =>
    cases r
    rcases ty with ⟨rfl, xs, hq⟩ | ⟨rfl, o, hk, hc, hd⟩ | ⟨rfl, hk⟩ | ⟨rfl, S, n, hk⟩
    · obtain ⟨its, _, pl, _⟩ := I.list hq
      refine ⟨pl.isList.typeIs, fun a e => ?_⟩
      cases e
      obtain ⟨o, n, e, c, hd, _⟩ := pl
      exact ⟨o, e, hd⟩
    · refine ⟨⟨o, I.kIn p o hk, hc⟩, fun a e => ?_⟩
      cases e
      exact ⟨o, I.kIn _ o hk, hd⟩
    · have z : ∃ o, s.heap.get? p = some o ∧ o.ExactDict := by
        rcases hk with ⟨kvs, hk⟩ | ⟨kvs, hk⟩
        · obtain ⟨_, _, _, _, o, _, _, e, ex, _⟩ := I.hok p _ hk
          exact ⟨o, e, ex⟩
        · obtain ⟨_, _, _, _, o, _, _, e, ex, _⟩ := I.hok p _ hk
          exact ⟨o, e, ex⟩
      obtain ⟨o, e, ex⟩ := z
      refine ⟨⟨o, e, ex.1⟩, fun a e2 => ?_⟩
      cases e2
      exact ⟨o, e, ex.2.1⟩
    · obtain ⟨o, _, _, _, e, ex, _⟩ := I.hok p _ hk
      refine ⟨⟨o, e, ex.1⟩, fun a e2 => ?_⟩
      cases e2
      exact ⟨o, e, ex.2.1⟩
  | _ => exact False.elim ty
def tBM (K : PySem.W.Frag) (T : String) (r : V → List V → Hp → VK → Prop) (to : TE) (t : TA) : TE := fun σ H Q => to σ H fun x H1 => tyV K T x H1 ∧ t σ H1 fun xs H2 => r x xs H2 Q
variable {o e : Expr} {es : List Expr} {to : TE} {t : TA} {name : Str} {apos cpos : Pos} {T id : String} {r : V → List V → Hp → VK → Prop}
theorem pe_bm (pa : PlainAttrs T) (slot : Slot T name id) (hty : typeOf (.builtin id) = pure (.type "method_descriptor")) (hm : MtR X id r) (ho : PE X o to) (ha : PA X (e :: es) t)
    (hbase : attributeBase o name X.env (eval o X.env) = eval o X.env := by rfl)
    (hfew : ((backTo cpos (starEach (e :: es) X.env)).all (fun x => !x.1) && (backToKw cpos (keywordEach [] X.env)).all (fun x => x.1.isSome)
      && decide ((e :: es).length + ([] : List Keyword).length + (if ([] : List Keyword).isEmpty then 0 else 1) < 30)) = true := by rfl)
    (hline : (apos.endLine == cpos.line) = true := by rfl) (hs : starEach (e :: es) X.env = (false, eval e X.env) :: starEach es X.env := by rfl) (hplain : (backTo cpos (starEach es X.env)).any (·.1) = false := by rfl) :
    PE X (.Call (.Attribute o name apos) (e :: es) [] cpos) (tBM X.K T r to t) := by
  intro pins s σ H Q I h
  refine wpAny_Call_method_late hbase hfew hline rfl (thn (ho pins s σ H _ I h) fun v s1 ⟨x, H1, I1, r1, ty, q1⟩ => ?_)
  obtain ⟨h1, h2⟩ := tyV_is I1 r1 ty
  refine ⟨T, id, pa, slot, hty, h1, h2, ?_⟩
  have hA := ha cpos pins s1 σ H1 _ I1 q1
  rw [hs] at hA ⊢
  refine Calls.callWith_builtin (by show (false || (backTo cpos (starEach es X.env)).any (·.1)) = false; rw [hplain] <;> rfl) (Calls.evalArgs_plain ?_)
  exact thn hA fun us s2 ⟨vs, H2, I2, r2, q2⟩ => hm pins s2 σ H2 x vs v us Q I2 r1 r2 q2
/- xs.append(e), list.index on a module's tuple .. are MtR facts of 06m -/
end
end L2

namespace L2
open PySem PySem.Spec PyProof.Rows

def MtM (X : Cx) (id : String) (r : V → List V → Hp → VK → Prop) : Prop :=
  ∀ (pins : List (Addr × Obj)) (s : Shared) (σ : St) (H : Hp) (x : V) (xs : List V) (v : Value) (us : List Value) (Q : VK), Inv X pins σ H s → RelV x v → Vals xs us → r x xs H Q →
    wpAny (model X.prog X.w) X.A (call (.builtin id) (v :: us)) (EP X pins σ Q) X.xe s

/-! ### lists of values -/
theorem Vals.one : ∀ {x : V} {us : List Value}, Vals [x] us → ∃ u, us = [u] ∧ RelV x u
  | _, _, .cons r .nil => ⟨_, rfl, r⟩
section
variable {X : Cx} {pins : List (Addr × Obj)} {σ : St} {H : Hp} {s : Shared} {l b : Addr} {xs ys zs : List V}

/-! ### the two steps: a tracked list is rewritten, a new list is laid -/
theorem Inv.lset {its its' : List Value} {n : Nat} {f : Array Value → Array Value} {t' : Nat} (I : Inv X pins σ H s) (hH : H l = some (.lst xs))
    (e : s.heap.get? l = some { cls := .type "list", data := .seq its.toArray n }) (hf : f its.toArray = its'.toArray) (hv : Vals ys its') (hz : ys.length ≤ sizeLine) :
    Inv X pins σ (upd H l (.lst ys)) { s with heap := s.heap.update l (Obj.mapSeq f), toks := t' } := by
  have q := PySem.IsL.update e f
  rw [hf] at q
  refine I.write (x := l) (e := l) (by rw [hH]; exact trivial) (.inl rfl) (fun b' u hb hu => (Heap.get?_update_other s.heap (Obj.mapSeq f) (Ne.symm hb)).trans hu) ⟨_, q⟩ ?_
  exact ⟨hz, its', _, hv, q⟩
theorem Inv.lnew {its : List Value} {t' : Nat} (I : Inv X pins σ H s) (hv : Vals ys its) (hz : ys.length ≤ sizeLine) :
    Inv X pins σ (upd H s.heap.objs.size (.lst ys)) { s with heap := s.heap.push { cls := .type "list", data := .seq its.toArray }, toks := t' } :=
  I.laid (fun _ _ q => Heap.get?_push_of_some _ q) (Nat.le_refl _) ⟨hz, its, 0, hv, Heap.get?_push_size _ rfl⟩
theorem Inv.fresh (I : Inv X pins σ H s) : H s.heap.objs.size = none := I.hok.fresh (Nat.le_refl _)
theorem Inv.lstM (I : Inv X pins σ H s) (hH : H l = some (.lst xs)) : xs.length ≤ sizeLine ∧ ∃ (its : List Value) (n : Nat), Vals xs its ∧ xs.length = its.length ∧ s.heap.get? l = some { cls := .type "list", data := .seq its.toArray n } := by
  obtain ⟨z, its, n, r, e⟩ := I.hok l _ hH
  exact ⟨z, its, n, r, r.length, e⟩

end

section
variable {X : Cx}

/-! ### methods -/
def rAppend : V → List V → Hp → VK → Prop := fun x vs H Q => ∃ l xs y, x = .ref l ∧ vs = [y] ∧ H l = some (.lst xs) ∧ xs.length < sizeLine ∧ Q .non (upd H l (.lst (xs ++ [y])))
theorem mt_append : MtM X "list.append" rAppend := by
  intro pins s σ H x vs v us Q I rx rv h
  obtain ⟨l, xs, y, rfl, rfl, hH, hz, q⟩ := h
  cases rx
  obtain ⟨u, rfl, ru⟩ := rv.one
  obtain ⟨z, its, n, r, hl, e⟩ := I.lstM hH
  refine call_meets F.slot_list_append ⟨_, e, rfl⟩ F.entry_list_append (F.args_list_append_2 _ _) (PySem.list_append l its.toArray n u (by rw [List.size_toArray]; omega)) ⟨e, ?_⟩
  refine ⟨.non, _, I.lset (its' := its ++ [u]) hH e (by simp) (r.append (.cons ru .nil)) ?_, rfl, q⟩
  rw [List.length_append, List.length_singleton]
  omega

/-! ### list + list, list += list, list * int -/
def rCat : R2 := fun x y H Q => ∃ l b xs zs, x = .ref l ∧ y = .ref b ∧ H l = some (.lst xs) ∧ H b = some (.lst zs) ∧ xs.length + zs.length ≤ sizeLine ∧ ∀ p, H p = none → Q (.ref p) (upd H p (.lst (xs ++ zs)))
theorem op_cat : OpR X (binaryOp .Add) rCat := by
  intro pins s σ H x y v u Q I rx ry h
  obtain ⟨l, b, xs, zs, rfl, rfl, hH, hB, hz, q⟩ := h
  cases rx
  cases ry
  obtain ⟨z, its, n, r, hl, e⟩ := I.lstM hH
  obtain ⟨z2, its2, n2, r2, hl2, e2⟩ := I.lstM hB
  refine PySem.P.add_list e e2 ?_ (by rw [List.size_toArray, List.size_toArray]; omega)
  have ea : its.toArray ++ its2.toArray = (its ++ its2).toArray := by simp
  rw [ea]
  exact ⟨.ref _, _, I.lnew (t' := s.toks) (r.append r2) (by rw [List.length_append]; omega), rfl, q _ I.fresh⟩
/-! ### del xs[i] -/
end

/-! ### xs[a:b] = ys -/
section
variable {prog : Program} {w : World} {A : Around} {E : Value → Shared → Prop} {s : Shared}
set_option maxRecDepth 100000 in
end

section
variable {X : Cx}
end
end L2

namespace Att
open PySem PySem.W PySem.Calls PyProof.Rows

/-! ### the script -/
theorem ints_of_wellAll {P : Params} {h : Heap} : ∀ (ns : List Int) (vs : List Value), WellAll P h vs (ns.map WData.int) → IntsAre vs ns := by
  intro ns
  induction ns with
  | nil =>
    intro vs w
    rw [List.map_nil] at w
    cases w
    exact .nil
  | cons n ns ih =>
    intro vs w
    rw [List.map_cons] at w
    cases w with
    | cons a b =>
      cases a
      exact .cons _ _ (ih _ b)

theorem script_of {l : OpenLaw} {n : Nat} (hn : l.most = some n) {P : Params} {h : Heap} {args : List WData} {vals : List Value}
    (hpre : l.row.toRowW.claim.pre args = true) (hwl : WellAll P h vals args) :
    ∃ a vs ns, vals = [Value.ref a] ∧ args = [WData.list (ns.map WData.int)] ∧ h.get? a = some { cls := .type "list", data := .seq vs.toArray } ∧ IntsAre vs ns ∧ ns.length ≤ n := by
  have hsh : WShape.hasAll [] args [.list .int] = true := (pre_splitW hpre).1
  have hc : l.pre.holds [] { args := args } = true := (pre_splitW hpre).2
  obtain ⟨d, r, rfl, h1, h2⟩ := hasAllW_cons hsh
  obtain rfl := hasAllW_nil h2
  obtain ⟨xs, rfl, h3⟩ := hasW_list h1
  obtain ⟨ns, rfl⟩ := items_int h3
  have hlen : ns.length ≤ n := by
    unfold OpenLaw.pre at hc
    have h4 : (WTm.not (.lt (.lit (.int (n : Int))) (.len (.arg 0)))).holds [] { args := [.list (ns.map .int)] } = true := by
      have h4 := (holds_andW hc).1
      rw [hn] at h4
      exact h4
    have h5 := condW_of h4 (w_not (w_lt w_lit (w_len_list (w_arg rfl))))
    rw [List.length_map] at h5
    refine Nat.le_of_not_lt fun q => ?_
    have q' : (n : Int) < ((ns.length : Nat) : Int) := by omega
    first
      | (rw [decide_eq_true q'] at h5; exact absurd h5 (by decide))
      | (simp at h5; omega)
  cases hwl with
  | cons w1 w2 =>
    cases w2
    cases w1 with
    | list ho hall => exact ⟨_, _, ns, rfl, rfl, ho, ints_of_wellAll ns _ hall, hlen⟩

theorem post_true (l : OpenLaw) (args : List WData) : l.row.toRowW.claim.post args (.bool true) args = true :=
  postW_of (r := l.row.toRowW) (X := (true == true))
    (show WShape.has [] (.bool true) .bool = true by first | rfl | decide | simp [WShape.has, WShape.arms, WShape.armsAll])
    (show (WTm.eq .res (.lit (.bool true))).value [] { args := args, res := some (.bool true), after := args } = some (.bool (true == true)) from w_eq_bool (w_res rfl) w_lit) rfl

/-! ### the attachment: holds_open's last premise (the goal 'hc' behind k_head) from a wpAny of the law's body -/
/-- the same from a codeAny of the CALL (for a layer whose function contracts speak of calls) -/
theorem attach_call {l : OpenLaw} {n : Nat} {q : Program} {loose : List Str} {XP : (Str → Option Value) → Heap → Prop} {YP : World → Heap → Prop} {d : DefRec}
    (hn : l.most = some n) (hdf : d.params.defaults = [])
    (call : ∀ (w : World) (s₀ s₁ : Shared) (mg mb : Str → Option Value) (fa : Addr) (o : Obj) (pm cd doc : Value) (a : Addr) (vs : List Value) (ns : List Int),
      Ground q loose [] XP w s₀ mg mb s₁.heap → YP w s₁.heap →
      s₁.heap.get? fa = some o → o.data = .func (docDef d.name d.params d.body d.scope pm cd doc) → s₁.heap.CodeRec cd d.name → mg d.name = some (.ref fa) →
      s₁.heap.get? a = some { cls := .type "list", data := .seq vs.toArray } → IntsAre vs ns → ns.length ≤ n → s₁.gens = #[] →
      codeAny (model l.prog w) callerA (.call (.ref fa) ⟨[.ref a], []⟩) (fun r s' => r = .ok (.ret (.bool true)) ∧ OldK s₁.heap s'.heap ∧ s'.os = s₁.os ∧ AllBare s'.gens) s₁) :
    WalkO q loose XP YP l.row.toRowW d [] (fun f vs => PySem.call f vs) := by
  intro w s₀ s₁ mg mb G Y fa o pm cd doc dV kV ho hd hcd hD hmg hg args vals as hpre hlay hrd hwl hlo
  obtain rfl : dV = .none := Dflts.none hD hdf
  obtain rfl : kV = .none := Dflts.noKw hD
  obtain ⟨a, vs, ns, rfl, rfl, hobj, hints, hlen⟩ := script_of hn hpre hwl
  refine enter_call (codeAny_mono (call w s₀ s₁ mg mb fa o pm cd doc a vs ns G Y ho (fd_plain hd) hcd hmg hobj hints hlen hg) fun r s' hq => ?_)
  obtain ⟨rfl, h2, h3, h4⟩ := hq
  exact ⟨.inl ⟨.bool true, .bool true, [], rfl, fun _ => rfl, .bool true, post_true l _, fun _ => ⟨List.Pairwise.nil, fun _ hm => (nomatch hm)⟩⟩, h2, h3, h4⟩

/-! ### rules over ANY heap (no ledger) from facts about the written part K: the library's own take a ledger (News) for what they write -/
section
variable {prog : Program} {w : World} {A : Around} {E : Value → Shared → Prop} {s : Shared} {K : Frag}

/-! the whole heap as the ledger: makes every rule that writes through a ledger a rule over any heap -/
end
end Att

namespace L2
open PySem PySem.Spec PyProof.Rows

theorem vals_ints : ∀ {vs : List Value} {ns : List Int}, IntsAre vs ns → Vals (ns.map V.int) vs
  | _, _, .nil => .nil
  | _, _, .cons n t h => .cons ⟨t, rfl⟩ (vals_ints h)

end L2

namespace L2
open PySem PySem.Spec PyProof.Rows

end L2

/- THE LAST THEOREM (shape; LID, My.* are yours):
   My.Adr: a structure of the addresses that your layer names (classes, functions); My.Txt K t: a structure (Prop) of the equations over K;
   My.txt_mk : {K} {implicit addresses ..} (e1 : nsIn K mainGlobals "law" = some (some (.ref f))) (e2 : K.lookup f = some ⟨oc, od, .func (fnOf "law" "law" params body scope dV kV doc pm an cdv ct), sl⟩) (e3 : codeIn K cdv "law" = true) .. : ∃ t, My.Txt K t

set_option maxRecDepth 100000 in
set_option maxHeartbeats 0 in
theorem PySem.Challenge.cw_LID_holds : PySem.Challenge.rw_LID.Holds := by
  w_on; o_law; k_head; (case hw => w_witness2)
  k_fill
  refine L2.walk_of (l := PySem.Challenge.rw_LID) (n := 63) (k := 40) (x := "script") (CX := fun w => ..) (sp := fun _ => My.sp_law) rfl (by decide) rfl ⟨rfl, by decide, by decide⟩ (fun w h Y => PySem.W.kIn_of Y) ?F ?S ?C
  case F =>
    intro w mg fa h KX G hmg
    have T : ∃ t, My.Txt (L2.KOf KX) t := by
      dsimp only [L2.KOf]                          -- K must stand as «<heap const> w.params» for k_is
      refine' My.txt_mk ?e1 ?e2 ?e3 ..
      (case e1 => PySem.W.k_is)                    -- in the order: a name -> its address -> its object -> its parts
      (case e2 => PySem.W.k_is)
      ..
    obtain ⟨t, T⟩ := T
    have e0 := hmg.symm.trans (PySem.W.mg_of KX G T.law)
    cases e0                                       -- fa is the law's own address
    exact ⟨_, fun s u => .of_eq rfl, fun base kb nb => My.law_fn T kb nb⟩     -- if «.of_eq rfl» comes too early: refine' ⟨_, ?b, fun base kb nb => My.law_fn T kb nb⟩; exact fun s u => .of_eq rfl
  case S => exact fun w H a ns hl hO hS => ..
  case C => exact ..
(the tactic k_is has no namespace: write k_is) -/

/-! SHORT WORDS over the layer: a def of the text, its body, what a loop and a test want. -/
namespace L2
open PySem PySem.Spec PyProof.Rows

/-! ### the text by places -/
def defArgs (s : Stmt) : Arguments := match s with
  | .FunctionDef _ a _ _ _ _ _ _ _ _ => a
  | _ => { posonlyargs := [], args := [], vararg := none, kwonlyargs := [], kw_defaults := [], kwarg := none, defaults := [] }
def defBody (s : Stmt) : List Stmt := match s with
  | .FunctionDef _ _ b _ _ _ _ _ _ _ => b
  | _ => []
def defScope (s : Stmt) : Scope := match s with
  | .FunctionDef _ _ _ _ _ _ sc _ _ _ => sc
  | _ => { kind := .function, names := [], isGenerator := false, isCoroutine := false }

/-! ### no exception leaves a def -/
abbrev CX0 : CXT := fun _ _ _ _ _ _ => False
abbrev E0 : XK := fun _ _ _ => False
theorem pass0 {X : Cx} : Passes CX0 X E0 := fun _ _ _ _ _ _ _ h => h.elim

/-! ### a def (or method) of the text as it stands behind the top -/
structure Fun (K : PySem.W.Frag) (x qual : Str) (st : Stmt) (f : Addr) (fd : FuncData) : Prop where
  ex : ∃ (oc : Value) (od : Option Addr) (kV doc pm : Value) (an : Option Addr) (cdv ct : Value) (osl : Array (Option Value)),
    fd = PySem.W.fnOf x qual (defArgs st) (defBody st) (defScope st) .none kV doc pm an cdv ct ∧ K.lookup f = some ⟨oc, od, .func fd, osl⟩ ∧ PySem.W.codeIn K cdv qual = true
  kp : PySem.W.keepIn K (.ref f) = true
section
variable {P : Program} {w : World} {K : PySem.W.Frag} {mg : Str → Option Value} {base : Heap}
/-- THE RULE for a def: its body as a term of rules, and the reading of that term -/
theorem Fun.ok {x qual : Str} {st : Stmt} {f : Addr} {fd : FuncData} {N ps : List Str} {k : Nat} {sp : Sp} (F : Fun K x qual st f fd) (S : FnScope N ps (defScope st)) (len : ∀ vs H Q E, sp vs H Q E → vs.length = ps.length)
    (hbody : ∀ (cdv : Value) (A : Around) (outer : List Env) (s : Shared) (H : Hp) (vs : List V) (Q : VK) (E : XK), Room k (A.deeper (envOfC qual (defScope st) s.heap.objs.size f cdv)) → sp vs H Q E →
      ∃ t, PSs (cxOf CX0 P w K mg base N qual (defScope st) f cdv A outer s H E).nox (defBody st) t ∧ t { nx := fun _ H' => Q .non H', rt := Q } (start N vs) H) : FnOk P w K mg base CX0 (k + 1) f fd ps sp := by
  obtain ⟨oc, od, kV, doc, pm, an, cdv, ct, osl, rfl, lk, hcd⟩ := F.ex
  refine fn_of lk hcd S len fun A outer s H vs Q E hr hsp => ?_
  obtain ⟨t, h, q⟩ := hbody cdv A outer s H vs Q E hr hsp
  exact ⟨t, h.nox, q⟩
/-- how its arguments bind (no defaults): h is «fun _ _ _ _ _ _ us hl => match us, hl with | [_, _], _ => rfl», one _ a parameter -/
theorem Fun.binds {x qual : Str} {st : Stmt} {f : Addr} {fd : FuncData} {ps : List Str} (F : Fun K x qual st f fd)
    (h : ∀ (kV doc pm : Value) (an : Option Addr) (cdv ct : Value) (us : List Value), us.length = ps.length → bindArgs (PySem.W.fnOf x qual (defArgs st) (defBody st) (defScope st) .none kV doc pm an cdv ct) ⟨us, []⟩ = pure (ps.zip us)) : Binds K fd ps [] := by
  obtain ⟨oc, od, kV, doc, pm, an, cdv, ct, osl, rfl, lk, hcd⟩ := F.ex
  exact .all (h kV doc pm an cdv ct)
theorem fun_mk {x qual : Str} {st : Stmt} {f : Addr} {oc : Value} {od an : Option Addr} {osl : Array (Option Value)} {kV doc pm cdv ct : Value} (l : K.lookup f = some ⟨oc, od, .func (PySem.W.fnOf x qual (defArgs st) (defBody st) (defScope st) .none kV doc pm an cdv ct), osl⟩)
    (c : PySem.W.codeIn K cdv qual = true) (k : PySem.W.keepIn K (.ref f) = true) : Fun K x qual st f (PySem.W.fnOf x qual (defArgs st) (defBody st) (defScope st) .none kV doc pm an cdv ct) := ⟨⟨oc, od, kV, doc, pm, an, cdv, ct, osl, rfl, l, c⟩, k⟩
end
theorem hu_of {A : Around} {k : Nat} (hr : Room k A) : A.units + 1 < cLine := Nat.lt_of_le_of_lt (Nat.add_le_add_left (by decide : 1 ≤ 64) _) hr.units
theorem small1000 {n : Nat} (h : n ≤ 1000) : n < sizeLine := Nat.lt_of_le_of_lt h (by decide)

/-! ### expressions in short: the name that stands in the i-th slot -/
section
variable {X : Cx}
theorem pv (i : Nat) {x : Str} {pos : Pos} (hN : X.N[i]? = some x := by rfl) (hv : Vis X.env.scope x := by first | exact Or.inl rfl | exact Or.inr (Or.inl rfl) | exact Or.inr (Or.inr rfl)) (hd : (x == ("__debug__" : Str)) = false := by decide)
    (hcd : (x == ("__classdict__" : Str)) = false := by decide) : PE X (.Name x pos) (tVar i) := pe_var hN hv hd hcd
end

/-! ### tests -/
theorem iteF {A B : Prop} (h : B) : if false = true then A else B := by
  rw [if_neg Bool.false_ne_true]
  exact h
theorem iteT {A B : Prop} (h : A) : if true = true then A else B := by
  rw [if_pos rfl]
  exact h
theorem ite2 {c A B : Prop} [Decidable c] (h1 : c → A) (h2 : ¬ c → B) : if c then A else B := by
  by_cases h : c
  · rw [if_pos h]
    exact h1 h
  · rw [if_neg h]
    exact h2 h
theorem iteNS {c A B : Prop} [Decidable c] (hc : c) (h : B) : if (!decide c) = true then A else B := by
  rw [decide_eq_true hc]
  exact iteF h

end L2

set_option maxRecDepth 100000
set_option maxHeartbeats 4000000
namespace L2
open PySem PySem.Spec PyProof.Rows

/-! ### heaps: what is tracked stays, but for the tables of code, which may grow -/
/-- what is known of a code object that a table names: it is a record with a name -/
def codeP (c : Addr) : Heap → Prop := fun h => ∃ (o : Obj) (vs : Array Value) (q : Str) (t : Nat), h.get? c = some o ∧ o.data = .fields vs ∧ vs[1]? = some (.str q t)
/-- a table of code: all that it names is tracked -/
def TabOk (H : Hp) (P : Addr) : Prop := ∃ ps : Array Value, H P = some (.tbl ps) ∧ TriplesOk ps.toList ∧ ∀ pos : Pos, codeAmong pos ps.toList = none ∨ ∃ c : Addr, codeAmong pos ps.toList = some (.ref c) ∧ H c = some (.ext (codeP c))
def Kp (H H' : Hp) (b : Addr) : HO → Prop
  | .tbl _ => (∃ ps, H' b = some (.tbl ps)) ∧ (TabOk H b → TabOk H' b)
  | o => H' b = some o
/-- all that was tracked is as it was; tables of code may have grown -/
def Same (H H' : Hp) : Prop := ∀ b o, H b = some o → Kp H H' b o
theorem Kp.of {H H' : Hp} {b : Addr} {o : HO} (h : H b = some o) (e : H' b = some o) (hc : ∀ c, H c = some (.ext (codeP c)) → H' c = some (.ext (codeP c))) : Kp H H' b o := by
  cases o
  case tbl ps =>
    refine ⟨⟨ps, e⟩, fun ⟨qs, hq, tr, hp⟩ => ?_⟩
    rw [h] at hq
    cases hq
    exact ⟨_, e, tr, fun pos => (hp pos).imp id fun ⟨c, z1, z2⟩ => ⟨c, z1, hc c z2⟩⟩
  all_goals exact e
theorem same_of {H H' : Hp} (h : ∀ b o, H b = some o → H' b = some o) : Same H H' := fun b o e => Kp.of e (h b o e) fun c z => h c _ z
theorem Same.refl (H : Hp) : Same H H := same_of fun _ _ h => h
theorem Same.trans {H H1 H2 : Hp} (a : Same H H1) (b : Same H1 H2) : Same H H2 := fun c o h => by
  have z := a c o h
  cases o
  case tbl ps =>
    obtain ⟨⟨qs, hq⟩, k⟩ := z
    obtain ⟨q2, k2⟩ := b c _ hq
    exact ⟨q2, fun t => k2 (k t)⟩
  all_goals exact b c _ z
theorem Kp.some {H H' : Hp} {b : Addr} {o : HO} (k : Kp H H' b o) : ∃ u, H' b = some u := by
  cases o
  case tbl ps => exact ⟨_, k.1.choose_spec⟩
  all_goals exact ⟨_, k⟩
theorem Same.free {H H' : Hp} (e : Same H H') {l : Addr} (h : H' l = Option.none) : H l = Option.none := by
  cases q : H l with
  | none => rfl
  | some o =>
    obtain ⟨u, z⟩ := (e l o q).some
    rw [z] at h
    cases h
theorem Same.tab {H H' : Hp} {P : Addr} (e : Same H H') (t : TabOk H P) : TabOk H' P := by
  obtain ⟨ps, h, _⟩ := id t
  exact (e _ _ h).2 t
theorem codeAmong_grow {pos pos' : Pos} {c : Value} (l : List Value) (h : TriplesOk l) : codeAmong pos (l ++ [rawInt pos'.line, rawInt pos'.col, c]) = codeAmong pos l ∨ codeAmong pos (l ++ [rawInt pos'.line, rawInt pos'.col, c]) = some c := by
  fun_induction TriplesOk l with
  | case1 =>
    by_cases hc : ((pos'.line : Int) == (pos.line : Int) && (pos'.col : Int) == (pos.col : Int)) = true
    · exact .inr (by simp only [List.nil_append, codeAmong, rawInt]; rw [if_pos hc])
    · exact .inl (by simp only [List.nil_append, codeAmong, rawInt]; rw [if_neg hc])
  | case2 a t b u x rest ih =>
    simp only [List.cons_append, codeAmong]
    split
    · exact .inl rfl
    · exact ih h
  | case3 => exact h.elim
end L2

set_option maxRecDepth 100000
set_option maxHeartbeats 4000000
namespace L2
open PySem PySem.Spec PyProof.Rows

/-! ### A. List comprehensions of one clause -/
/-- a loop in the machine's monad whose every step is pure -/
theorem forIn_all {α β : Type} (g : α → β → β) {f : α → β → Sem (ForInStep β)} : ∀ (l : List α) (b : β), (∀ x ∈ l, ∀ c, f x c = pure (ForInStep.yield (g x c))) →
    forIn l b f = (pure (l.foldl (fun c x => g x c) b) : Sem β)
  | [], b, _ => by simp only [List.forIn_nil, List.foldl_nil]
  | x :: r, b, h => by
    rw [List.forIn_cons, h x List.mem_cons_self b, pure_bind]
    exact forIn_all g r (g x b) fun y hy c => h y (List.mem_cons_of_mem _ hy) c

/-- the cells that a block takes over from its def -/
def clOf (sc : Scope) (env : Env) : List (Str × Addr) :=
  sc.names.foldl (fun cs y => if (y.2 == NameKind.free) = true then (y.1, (env.cells.lookup y.1).getD 0) :: cs else cs) []
theorem clOf_eq {sc : Scope} {env : Env} (h : ∀ y ∈ sc.names, y.2 = .free → ∃ c, env.cells.lookup y.1 = some c) : closureFor sc env = pure (clOf sc env) := by
  simp only [closureFor]
  rw [forIn_all (fun (y : Str × NameKind) (cs : List (Str × Addr)) => if (y.2 == NameKind.free) = true then (y.1, (env.cells.lookup y.1).getD 0) :: cs else cs) sc.names [] (fun y hy c => by
    obtain ⟨n, k⟩ := y
    by_cases hk : k = .free
    · obtain ⟨a, ha⟩ := h _ hy hk
      subst hk
      simp only [cellOf, ha, beq_self_eq_true, if_true, pure_bind, Option.getD_some]
    · have z : (k == NameKind.free) = false := by simpa using hk
      simp only [z, Bool.false_eq_true, if_false])]
  rfl
theorem foldl_mem {α β : Type} {P : β → Prop} {g : α → List β → List β} : ∀ (l : List α) (b : List β), (∀ p ∈ b, P p) → (∀ x ∈ l, ∀ c, (∀ p ∈ c, P p) → ∀ p ∈ g x c, P p) → ∀ p ∈ l.foldl (fun c x => g x c) b, P p
  | [], b, hb, _ => hb
  | x :: r, b, hb, h => foldl_mem r (g x b) (h x List.mem_cons_self b hb) fun y hy => h y (List.mem_cons_of_mem _ hy)
theorem clOf_mem {sc : Scope} {env : Env} (h : ∀ y ∈ sc.names, y.2 = .free → ∃ c, env.cells.lookup y.1 = some c) : ∀ p ∈ clOf sc env, env.cells.lookup p.1 = some p.2 := by
  refine foldl_mem (P := fun p : Str × Addr => env.cells.lookup p.1 = some p.2) sc.names [] (fun _ z => nomatch z) fun y hy c hc p hp => ?_
  by_cases hk : y.2 = .free
  · have z : (y.2 == NameKind.free) = true := by simpa using hk
    rw [if_pos z] at hp
    rcases List.mem_cons.mp hp with e | hp
    · obtain ⟨a, ha⟩ := h y hy hk
      rw [e]
      show env.cells.lookup y.1 = some ((env.cells.lookup y.1).getD 0)
      rw [ha]
      rfl
    · exact hc p hp
  · have z : ¬ (y.2 == NameKind.free) = true := by simpa using hk
    rw [if_neg z] at hp
    exact hc p hp
theorem foldl_keep {α β : Type} {q : β} {g : α → List β → List β} (hg : ∀ x c, q ∈ c → q ∈ g x c) : ∀ (l : List α) (b : List β), q ∈ b → q ∈ l.foldl (fun c x => g x c) b
  | [], _, hb => hb
  | x :: r, b, hb => foldl_keep hg r (g x b) (hg x b hb)
theorem clOf_has {sc : Scope} {env : Env} {x : Str} {c : Addr} (hx : (x, NameKind.free) ∈ sc.names) (hc : env.cells.lookup x = some c) : (x, c) ∈ clOf sc env := by
  have kp : ∀ (y : Str × NameKind) (cs : List (Str × Addr)), (x, c) ∈ cs → (x, c) ∈ (if (y.2 == NameKind.free) = true then (y.1, (env.cells.lookup y.1).getD 0) :: cs else cs) := fun y cs h => by
    by_cases z : (y.2 == NameKind.free) = true
    · rw [if_pos z]
      exact List.mem_cons_of_mem _ h
    · rw [if_neg z]
      exact h
  unfold clOf
  obtain ⟨l1, l2, e⟩ := List.append_of_mem hx
  rw [e, List.foldl_append, List.foldl_cons]
  refine foldl_keep (g := fun (y : Str × NameKind) (cs : List (Str × Addr)) => if (y.2 == NameKind.free) = true then (y.1, (env.cells.lookup y.1).getD 0) :: cs else cs) kp l2 _ ?_
  rw [if_pos (by simp)]
  rw [hc]
  exact List.mem_cons_self
theorem lookup_some {β : Type} {x : Str} {b : β} : ∀ {l : List (Str × β)}, (x, b) ∈ l → ∃ c, l.lookup x = some c
  | [], h => nomatch h
  | (y, d) :: r, h => by
    by_cases e : x = y
    · subst e
      exact ⟨d, by rw [List.lookup_cons_self]⟩
    · have z : (x == y) = false := by simpa using e
      rcases List.mem_cons.mp h with q | q
      · cases q
        exact absurd rfl e
      · obtain ⟨c, hc⟩ := lookup_some q
        exact ⟨c, by rw [List.lookup_cons, z]; exact hc⟩
theorem clOf_look {sc : Scope} {env : Env} (h : ∀ y ∈ sc.names, y.2 = .free → ∃ c, env.cells.lookup y.1 = some c) {x : Str} {c : Addr} (e : (clOf sc env).lookup x = some c) : env.cells.lookup x = some c :=
  clOf_mem h _ (PySem.mem_of_lookup e)
theorem clOf_at {sc : Scope} {env : Env} (h : ∀ y ∈ sc.names, y.2 = .free → ∃ c, env.cells.lookup y.1 = some c) {x : Str} {c : Addr} (hx : (x, NameKind.free) ∈ sc.names) (hc : env.cells.lookup x = some c) : (clOf sc env).lookup x = some c := by
  obtain ⟨d, hd⟩ := lookup_some (clOf_has hx hc)
  have := clOf_look h hd
  rw [hc] at this
  cases this
  exact hd

/-- a block's scope as it is run, by its def's scope -/
def relS (sc sc0 : Scope) : Scope :=
  { sc with names := sc.names.map fun (n, k) => if (k == .free && sc0.kind == .function && sc0.names.lookup n == some .cell) then (n, .cell) else (n, k) }
/-- what a comprehension's table must be: n of its own names ahead in N', behind them the def's slots kp -/
def lcOk (sc0 sc : Scope) (XN N' : List Str) (n : Nat) (kp : List Nat) : Bool :=
  decide (sc.kind = .function) && sc.names.all (fun y => decide (y.2 ≠ .cell)) && sc.names.all (fun y => decide (y.2 = .local → sc.names.lookup y.1 = some .local)) &&
  sc.names.all (fun y => decide (y.2 = .free → sc0.names.lookup y.1 = some .cell)) && decide (N'.length = n + kp.length) &&
  (List.range kp.length).all (fun i => match N'[n + i]?, kp[i]? with
    | some x, some j => decide (XN[j]? = some x ∧ (x, NameKind.free) ∈ sc.names ∧ ((relS sc sc0).names.lookup x = some .cell ∨ (relS sc sc0).names.lookup x = some .free))
    | _, _ => false)
theorem lcOk_parts {sc0 sc : Scope} {XN N' : List Str} {n : Nat} {kp : List Nat} (h : lcOk sc0 sc XN N' n kp = true) :
    sc.kind = .function ∧ (∀ y ∈ sc.names, y.2 ≠ .cell) ∧ (∀ y ∈ sc.names, y.2 = .local → sc.names.lookup y.1 = some .local) ∧ (∀ y ∈ sc.names, y.2 = .free → sc0.names.lookup y.1 = some .cell) ∧ N'.length = n + kp.length ∧
    ∀ (i : Nat) (x : Str), N'[n + i]? = some x → ∃ j, kp[i]? = some j ∧ XN[j]? = some x ∧ (x, NameKind.free) ∈ sc.names ∧ ((relS sc sc0).names.lookup x = some .cell ∨ (relS sc sc0).names.lookup x = some .free) := by
  unfold lcOk at h
  simp only [Bool.and_eq_true, List.all_eq_true, decide_eq_true_eq] at h
  obtain ⟨⟨⟨⟨⟨h1, h2⟩, h3⟩, h4⟩, h5⟩, h6⟩ := h
  refine ⟨h1, h2, h3, h4, h5, fun i x hx => ?_⟩
  have hi : i < kp.length := by
    have := (List.getElem?_eq_some_iff.mp hx).1
    omega
  have q := h6 i (List.mem_range.mpr hi)
  rw [hx, List.getElem?_eq_getElem hi] at q
  exact ⟨kp[i], List.getElem?_eq_getElem hi, of_decide_eq_true q⟩

abbrev NoX : Value → Shared → Prop := fun _ _ => False
/-- a comprehension's block running, in the context of its def -/
def blk (X : Cx) (N' : List Str) (sc : Scope) (C : Addr) (fp : List Addr) (pins : List (Addr × Obj)) (s : Shared) (H : Hp) : Cx :=
  { X with N := N', s₀ := s, H₀ := H, env := compEnvC sc (clOf sc X.env) C X.env, outer := X.stack, stack := X.stack, ex := fp, fn := fun _ => false, pn := X.pn ++ pins, xe := NoX }
/-- the tests of a clause, one behind another -/
abbrev lcIfs (cs : List Expr) (env : Env) : Sem Bool := forIn cs true fun c r => if r = true then do let ok ← isTrue c env (eval c env); pure (ForInStep.yield ok) else pure (ForInStep.yield r)
def PTs (X : Cx) (cs : List Expr) (t : TT) : Prop :=
  ∀ (pins : List (Addr × Obj)) (s : Shared) (σ : St) (H : Hp) (Q : Bool → Hp → Prop), Inv X pins σ H s → t σ H Q → wpAny (model X.prog X.w) X.A (lcIfs cs X.env) (TP X pins σ Q) X.xe s
def tNoT : TT := fun _ H Q => Q true H
theorem pts_nil {X : Cx} : PTs X [] tNoT := fun _ _ _ H _ I h => wpAny_tests_nil ⟨H, I, h⟩
theorem pts_one {X : Cx} {c : Expr} {t : TT} (hc : PT X c t) : PTs X [c] t := fun pins s σ H Q I h => wpAny_tests_one (hc pins s σ H Q I h)

theorem lc_loop {prog : Program} {w : World} {A : Around} {R : Result → Shared → Prop} {elt tg iter : Expr} {cs : List Expr} {sc : Scope} {pos : Pos} {it acc : Value} {env : Env} (J : Nat → Shared → Prop)
    (turn : ∀ n s, J n s → wpAny (model prog w) A (pyNext it) (fun r s1 => match r with
      | none => R (.ok .next) s1
      | some v => wpAny (model prog w) A (letOwnedTupleGo tg it v) (fun _ s2 => wpAny (model prog w) A (assign tg env v) (fun _ s3 => wpAny (model prog w) A (lcIfs cs env) (fun ok s4 =>
          if ok = true then wpAny (model prog w) A (eval elt env) (fun x s5 => wpAny (model prog w) A (call (.builtin "list.append") [acc, x]) (fun _ s6 => ∃ m, m < n ∧ J m s6) NoX s5) NoX s4
          else ∃ m, m < n ∧ J m s4) NoX s3) NoX s2) NoX s1) NoX s)
    (n : Nat) (s : Shared) (h : J n s) : codeAny (model prog w) A (.compLoop (.ListComp elt [⟨tg, iter, cs, 0⟩] sc pos) 0 it acc env) R s := by
  refine codeAny_loop rfl J (fun n s hJ => ?_) n h
  show wpAny _ A ((compTurn (.ListComp elt [⟨tg, iter, cs, 0⟩] sc pos) 0 it acc env).onRaise (fun x => do noteFrame x env; theTreesLotGoes x)) _ _ s
  refine wpAny_noted ?_
  rw [compTurn_list]
  have no : ∀ {E : Value → Shared → Prop} (e : Value) (z : Shared), NoX e z → E e z := fun _ _ f => f.elim
  refine wpAny_bind (wpAny_standAt (wpAny_bind (wpAny_mono (turn n s hJ) (fun r s1 h1 => ?_) no)))
  cases r with
  | none => exact wpAny_pure h1
  | some v =>
    refine wpAny_bind (wpAny_mono h1 (fun _ s2 h2 => ?_) no)
    refine wpAny_bind (wpAny_mono h2 (fun _ s3 h3 => ?_) no)
    refine wpAny_bind (wpAny_mono h3 (fun ok s4 h4 => ?_) no)
    cases ok with
    | false => exact wpAny_pure ⟨rfl, h4⟩
    | true =>
      exact wpAny_bind (wpAny_bind (wpAny_mono h4 (fun x s5 h5 => wpAny_bind (wpAny_mono h5 (fun _ s6 h6 => wpAny_pure (wpAny_pure ⟨rfl, h6⟩)) no)) no))

/-- a comprehension from its iterator on: W is the invariant, by the turn, a measure, the list so far, the block's slots, the heap -/
def lcGo (J : It) (g : TG) (tc : TT) (te : TE) (σ0 : St) (H1 : Hp) (Q : VK) : Prop := ∃ W : Nat → Nat → List V → St → Hp → Prop,
  (∃ m, W 0 m [] σ0 H1) ∧ ∀ i m ys σ' H', W i m ys σ' H' → ys.length ≤ sizeLine ∧
    ((J.stop i H' ∧ ∀ p, H' p = none → Q (.ref p) (upd H' p (.lst ys))) ∨
     (J.go i H' ∧ ∃ N : List V → St → Hp → Prop, (∀ ys' σ2 H2, N ys' σ2 H2 → ∃ m', m' < m ∧ W (i + 1) m' ys' σ2 H2) ∧ ∀ x H2, J.yld i H' x H2 → g x σ' H2 fun σ3 H3 => tc σ3 H3 fun b H4 =>
       if b = true then te σ3 H4 fun v H5 => N (ys ++ [v]) σ3 H5 else N ys σ3 H4))
/-- the reading of a comprehension -/
def tLc (n : Nat) (kp : List Nat) (wi : TI) (g : TG) (tc : TT) (te : TE) : TE := fun σ H Q => wi σ H fun J H1 => lcGo J g tc te (List.replicate n none ++ kp.map fun j => (σ[j]?).join) H1 Q

/-- a comprehension over a range, by what holds at each turn -/
theorem lc_range {lo : Int} {k : Nat} {σ0 : St} {H : Hp} {g : TG} {tc : TT} {te : TE} {Q : VK} (Pv : Nat → List V → St → Hp → Prop) (h0 : Pv 0 [] σ0 H) (hz : ∀ i ys σ H, i ≤ k → Pv i ys σ H → ys.length ≤ sizeLine)
    (hs : ∀ i ys σ H, i < k → Pv i ys σ H → g (.int (lo + i)) σ H fun σ3 H3 => tc σ3 H3 fun b H4 => if b = true then te σ3 H4 fun v H5 => Pv (i + 1) (ys ++ [v]) σ3 H5 else Pv (i + 1) ys σ3 H4)
    (hd : ∀ ys σ H, Pv k ys σ H → ∀ p, H p = none → Q (.ref p) (upd H p (.lst ys))) :
    lcGo (Itr lo k) g tc te σ0 H Q := by
  refine ⟨fun i m ys σ H => m = k - i ∧ i ≤ k ∧ Pv i ys σ H, ⟨k, by simp, Nat.zero_le _, h0⟩, ?_⟩
  rintro i m ys σ H ⟨rfl, hi, p⟩
  refine ⟨hz i ys σ H hi p, ?_⟩
  by_cases hlt : i < k
  · refine .inr ⟨hlt, Pv (i + 1), fun ys' σ' H' p' => ⟨k - (i + 1), by omega, rfl, hlt, p'⟩, fun x H' y => ?_⟩
    obtain ⟨e1, e2⟩ := y
    subst e1
    subst e2
    exact hs i ys σ _ hlt p
  · have e : i = k := by omega
    subst e
    exact .inl ⟨Nat.le_refl _, hd ys σ H p⟩
/-- .. over a list that stays as it is -/
theorem lc_list {K : PySem.W.Frag} {a : Addr} {xs : List V} {σ0 : St} {H : Hp} {g : TG} {tc : TT} {te : TE} {Q : VK} (Pv : Nat → List V → St → Hp → Prop) (h0 : Pv 0 [] σ0 H) (hz : ∀ i ys σ H, i ≤ xs.length → Pv i ys σ H → ys.length ≤ sizeLine)
    (hl : ∀ i ys σ H, i ≤ xs.length → Pv i ys σ H → SqL K H a xs)
    (hs : ∀ i x ys σ H, xs[i]? = some x → Pv i ys σ H → g x σ H fun σ3 H3 => tc σ3 H3 fun b H4 => if b = true then te σ3 H4 fun v H5 => Pv (i + 1) (ys ++ [v]) σ3 H5 else Pv (i + 1) ys σ3 H4)
    (hd : ∀ ys σ H, Pv xs.length ys σ H → ∀ p, H p = none → Q (.ref p) (upd H p (.lst ys))) :
    lcGo (Itl K a) g tc te σ0 H Q := by
  refine ⟨fun i m ys σ H => m = xs.length - i ∧ i ≤ xs.length ∧ Pv i ys σ H, ⟨xs.length, by simp, Nat.zero_le _, h0⟩, ?_⟩
  rintro i m ys σ H ⟨rfl, hi, p⟩
  refine ⟨hz i ys σ H hi p, ?_⟩
  have q := hl i ys σ H hi p
  by_cases hlt : i < xs.length
  · refine .inr ⟨⟨xs, xs[i], q, by simp [hlt]⟩, Pv (i + 1), fun ys' σ' H' p' => ⟨xs.length - (i + 1), by omega, rfl, hlt, p'⟩, fun x H' y => ?_⟩
    obtain ⟨e, y⟩ := y
    subst e
    exact hs i x ys σ _ (y xs q) p
  · have e : i = xs.length := by omega
    subst e
    exact .inl ⟨⟨xs, q, Nat.le_refl _⟩, hd ys σ H p⟩

/-- .. over a tuple that stays as it is -/
theorem lc_tup {K : PySem.W.Frag} {a : Addr} {xs : List V} {σ0 : St} {H : Hp} {g : TG} {tc : TT} {te : TE} {Q : VK} (Pv : Nat → List V → St → Hp → Prop) (h0 : Pv 0 [] σ0 H) (hz : ∀ i ys σ H, i ≤ xs.length → Pv i ys σ H → ys.length ≤ sizeLine)
    (hl : ∀ i ys σ H, i ≤ xs.length → Pv i ys σ H → SqT K H a xs)
    (hs : ∀ i x ys σ H, xs[i]? = some x → Pv i ys σ H → g x σ H fun σ3 H3 => tc σ3 H3 fun b H4 => if b = true then te σ3 H4 fun v H5 => Pv (i + 1) (ys ++ [v]) σ3 H5 else Pv (i + 1) ys σ3 H4)
    (hd : ∀ ys σ H, Pv xs.length ys σ H → ∀ p, H p = none → Q (.ref p) (upd H p (.lst ys))) :
    lcGo (Itt K a) g tc te σ0 H Q := by
  refine ⟨fun i m ys σ H => m = xs.length - i ∧ i ≤ xs.length ∧ Pv i ys σ H, ⟨xs.length, by simp, Nat.zero_le _, h0⟩, ?_⟩
  rintro i m ys σ H ⟨rfl, hi, p⟩
  refine ⟨hz i ys σ H hi p, ?_⟩
  have q := hl i ys σ H hi p
  by_cases hlt : i < xs.length
  · refine .inr ⟨⟨xs, xs[i], q, by simp [hlt]⟩, Pv (i + 1), fun ys' σ' H' p' => ⟨xs.length - (i + 1), by omega, rfl, hlt, p'⟩, fun x H' y => ?_⟩
    obtain ⟨e, y⟩ := y
    subst e
    exact hs i x ys σ _ (y xs q) p
  · have e : i = xs.length := by omega
    subst e
    exact .inl ⟨⟨xs, q, Nat.le_refl _⟩, hd ys σ H p⟩

section
variable {X : Cx} {tg iter elt : Expr} {cs : List Expr} {sc sc0 : Scope} {pos : Pos} {wi : TI} {g : TG} {tc : TT} {te : TE} {XN N' : List Str} {n : Nat} {kp : List Nat}

theorem blk_ok {pins : List (Addr × Obj)} {σ : St} {H : Hp} {s : Shared} {fp : List Addr} {C : Addr} (I : Inv X pins σ H s) (hk : sc.kind = .function) (hcell : ∀ y ∈ sc.names, y.2 ≠ .cell)
    (hfr : ∀ y ∈ sc.names, y.2 = .free → ∃ c, X.env.cells.lookup y.1 = some c) (hf : ∀ b ∈ fp, FpOk X pins H b) (hl : ∀ b ∈ fp, b < s.heap.objs.size) (hC : s.heap.objs.size ≤ C) : (blk X N' sc C fp pins s H).Ok where
  mod := I.ok.mod
  kind := hk
  glob := I.ok.glob
  blt := I.ok.blt
  above := hC
  inj := fun x y c h1 h2 => I.ok.inj x y c (clOf_look hfr h1) (clOf_look hfr h2)
  has := fun x hx => by
    have q : ∃ k, (x, k) ∈ sc.names ∧ k = .free := by
      have hx' : (relS sc X.env.scope).names.lookup x = some .cell ∨ (relS sc X.env.scope).names.lookup x = some .free := hx
      have go : ∀ k, (relS sc X.env.scope).names.lookup x = some k → (k = .cell ∨ k = .free) → (x, NameKind.free) ∈ sc.names := fun k e hk' => by
        have hm := PySem.mem_of_lookup e
        obtain ⟨⟨y, ky⟩, hy, ey⟩ := List.mem_map.mp hm
        dsimp only at ey
        split at ey
        · rename_i hc
          cases ey
          have z : ky = .free := by
            simp only [Bool.and_eq_true] at hc
            simpa using hc.1.1
          subst z
          exact hy
        · cases ey
          rcases hk' with z | z
          · exact absurd z (hcell _ hy)
          · subst z
            exact hy
      rcases hx' with e | e
      · exact ⟨_, go _ e (.inl rfl), rfl⟩
      · exact ⟨_, go _ e (.inr rfl), rfl⟩
    obtain ⟨k, hm, rfl⟩ := q
    obtain ⟨c, hc⟩ := hfr _ hm rfl
    exact ⟨c, clOf_at hfr hm hc⟩
  cab := fun x c h => absurd h (by simp [blk])
  hd := I.ok.hd
  frames := I.ok.frames
  stk := .inl rfl
  exf := fun b hb => ⟨Nat.ne_of_lt (Nat.lt_of_lt_of_le (hl b hb) hC), fun x c e => (hf b hb).2.2.2.2.1 x c (clOf_look hfr e)⟩
  bs := I.bs
  bsz := Nat.le_trans I.ok.bsz I.sz
  noex := fun b o e hb => by
    rcases (hf b hb).2.2.2.1 with z | z
    · exact I.ok.noex b o e z
    · exact absurd (Nat.lt_of_lt_of_le (Heap.lt_size e) (Nat.le_trans I.ok.bsz z)) (Nat.lt_irrefl _)
  exfs := fun b hb z => by
    rcases List.mem_cons.mp (I.stkSub b z) with q | q
    · exact (hf b hb).2.1 q
    · exact (hf b hb).2.2.1 q
  funs := I.stack
  frf := I.stkFree
end
end L2

set_option maxRecDepth 100000
set_option maxHeartbeats 4000000
namespace L2
open PySem PySem.Spec PyProof.Rows
section
variable {X : Cx} {tg iter elt : Expr} {cs : List Expr} {sc sc0 : Scope} {pos : Pos} {wi : TI} {g : TG} {tc : TT} {te : TE} {XN N' : List Str} {n : Nat} {kp : List Nat}

theorem blk_start {pins : List (Addr × Obj)} {σ : St} {H : Hp} {s : Shared} {fp : List Addr} {C : Addr} {h1 : Heap} {tk : Nat} {m : Str → Option Value} (I : Inv X pins σ H s) (h0 : X.env.scope = sc0) (hN : X.N = XN) (ok : lcOk sc0 sc XN N' n kp = true)
    (hf : ∀ b ∈ fp, FpOk X pins H b) (hl : ∀ b ∈ fp, b < s.heap.objs.size) (hC : s.heap.objs.size ≤ C) (old : ∀ b o, s.heap.get? b = some o → h1.get? b = some o) (ns : h1.Ns C m) :
    Inv (blk X N' sc C fp pins s H) [] (List.replicate n none ++ kp.map fun j => (σ[j]?).join) H { s with heap := h1, toks := tk } := by
  obtain ⟨o1, o2, o3, o4, o5, o6⟩ := lcOk_parts ok
  subst h0
  subst hN
  have hfr : ∀ y ∈ sc.names, y.2 = .free → ∃ c, X.env.cells.lookup y.1 = some c := fun y hy e => I.ok.has y.1 (.inl (o4 y hy e))
  have below : ∀ b, b < s.heap.objs.size → b ≠ C := fun b hb => Nat.ne_of_lt (Nat.lt_of_lt_of_le hb hC)
  refine ⟨blk_ok I o1 o2 hfr hf hl hC, rfl, I.bare, Un.kept old, ⟨m, ns, fun i x v e1 e2 e3 => ?_⟩, fun x c e => ?_, I.hok.fresh hC, fun x c e => ?_, fun p hp => ?_, I.hok.kept old, ?_⟩
  · have hi : n ≤ i := by
      by_cases z : n ≤ i
      · exact z
      · rw [List.getElem?_append_left (by rw [List.length_replicate]; omega), List.getElem?_replicate] at e2
        split at e2 <;> cases e2
    obtain ⟨j, rfl⟩ : ∃ j, i = n + j := ⟨i - n, by omega⟩
    obtain ⟨q, hq, hx, hm, hkd⟩ := o6 j x e1
    rw [List.getElem?_append_right (by rw [List.length_replicate]; omega), List.length_replicate, Nat.add_sub_cancel_left, List.getElem?_map, hq] at e2
    have e4 : (σ[q]?).join = some v := Option.some.inj e2
    have e2' : σ[q]? = some (some v) := by
      cases z : σ[q]? with
      | none => rw [z] at e4; cases e4
      | some w => rw [z] at e4; cases e4; rfl
    obtain ⟨c, hc⟩ := hfr _ hm rfl
    have kx : X.env.kindOf x = some .cell := o4 _ hm rfl
    obtain ⟨m', hn', hl'⟩ := I.loc
    obtain ⟨u, r, lk⟩ := hl' q x v hx e2' (.inr (.inl kx))
    refine ⟨u, r, .inr ⟨hkd, c, clOf_at hfr hm hc, ?_⟩⟩
    rcases lk with ⟨k, _⟩ | ⟨_, c', hc', hv⟩
    · rw [kx] at k
      cases k
    · rw [hc] at hc'
      cases hc'
      exact hv.keeps old
  · obtain ⟨v, hv⟩ := I.cell x c (clOf_look hfr e)
    exact ⟨v, hv.keeps old⟩
  · exact I.freeC x c (clOf_look hfr e)
  · have hp' : p ∈ X.pn ++ pins := by
      have : p ∈ (X.pn ++ pins) ++ ([] : List (Addr × Obj)) := hp
      rw [List.append_nil] at this
      exact this
    obtain ⟨q1, q2, q3, q4, q5⟩ := I.pin p hp'
    refine ⟨old _ _ q1, q2, below _ (Heap.lt_size q1), fun z => ?_, q5⟩
    rcases List.mem_cons.mp (I.stkSub _ z) with r | r
    · exact q3 r
    · exact q4 r
  · show (List.replicate n none ++ kp.map fun j => (σ[j]?).join).length = N'.length
    rw [List.length_append, List.length_replicate, List.length_map, o5]

/-- the run of a comprehension up to its end; what comes then is asked by fin -/
theorem lc_run {pins : List (Addr × Obj)} {s : Shared} {σ : St} {H : Hp} {Q : VK} {use : Option (Value → Sem Unit)} {Qf : Value → Shared → Prop} (hc : X.calm = true) (hi : PI X tg iter wi) (h0 : X.env.scope = sc0) (hN : X.N = XN) (ok : lcOk sc0 sc XN N' n kp = true)
    (hg : ∀ C fp pins s H, PG (blk X N' sc C fp pins s H) tg g) (ht : ∀ C fp pins s H, PTs (blk X N' sc C fp pins s H) cs tc) (he : ∀ C fp pins s H, PE (blk X N' sc C fp pins s H) elt te) (hs : ∀ x, foldedSetIterable iter X.env x = pure x)
    (I : Inv X pins σ H s) (h : tLc n kp wi g tc te σ H Q)
    (fin : ∀ D C ys H' s', Inv X pins σ (upd H' D (.lst ys)) s' → (∃ m, s'.heap.Ns C m) → FpOk X pins (upd H' D (.lst ys)) C → Q (.ref D) (upd H' D (.lst ys)) → compPost (model X.prog X.w) X.A X.xe use Qf (.ref D) C (.ok .next) s') {pos' : Pos} :
    wpAny (model X.prog X.w) X.A (comprehension (.ListComp elt [⟨tg, iter, cs, 0⟩] sc pos) sc X.env pos' (newList []) false (firstIter [⟨tg, iter, cs, 0⟩] X.env) use) Qf X.xe s := by
  obtain ⟨o1, o2, o3, o4, o5, o6⟩ := lcOk_parts ok
  have hfr : ∀ y ∈ sc.names, y.2 = .free → ∃ c, X.env.cells.lookup y.1 = some c := fun y hy e => I.ok.has y.1 (.inl (by rw [Env.kindOf, h0]; exact o4 y hy e))
  refine wpAny_comprehension_free (use := use) rfl hs (clOf_eq hfr) o1 o3 (thn (hi pins s σ H _ I h) fun v s1 h1 => thn h1 fun itv s2 h2 => ?_)
  obtain ⟨it, fp, tn, J, H2, rfl, I2, T, st2, f2, W, ⟨m0, w0⟩, turn⟩ := h2
  have hl : ∀ b ∈ fp, b < s2.heap.objs.size := fun b hb => by
    obtain ⟨o, e, _⟩ := T.obj 0 _ st2 b hb
    exact Heap.lt_size e
  refine wpAny_newObj_type (wpAny_newFunctionEnv o2 (by intro y hy; simp at hy) (fun h1 ns1 sb1 => ?_) o1)
  dsimp only at ns1 sb1 ⊢
  generalize hG : s2.heap.push { cls := .type "list", dict := none, data := .seq ([] : List Value).toArray } = G at ns1 sb1 ⊢
  have hGs : G.objs.size = s2.heap.objs.size + 1 := by rw [← hG, Heap.size_push]
  have hCl : s2.heap.objs.size ≤ G.objs.size := by omega
  have hDC : s2.heap.objs.size ≠ G.objs.size := by omega
  have old : ∀ b o, s2.heap.get? b = some o → h1.get? b = some o := fun b o e => by
    have lt := Heap.lt_size e
    exact sb1.extBut b o (Nat.ne_of_lt (Nat.lt_of_lt_of_le lt hCl)) (Heap.get?_push_of_some _ (hG ▸ Heap.get?_push_of_some _ e))
  have hD1 : h1.get? s2.heap.objs.size = some { cls := .type "list", data := .seq ([] : List Value).toArray 0 } :=
    sb1.extBut _ _ hDC (Heap.get?_push_of_some _ (hG ▸ Heap.get?_push_size _ rfl))
  have nD2 : H2 s2.heap.objs.size = none := I2.hok.fresh (Nat.le_refl _)
  have nC2 : H2 G.objs.size = none := I2.hok.fresh hCl
  -- the loop from any state that the block may begin with
  have loop : ∀ s3 : Shared, s3 = { s2 with heap := h1, toks := s2.toks + ([] : List (Str × Value)).length } →
      codeAny (model X.prog X.w) X.A (.compLoop (.ListComp elt [⟨tg, iter, cs, 0⟩] sc pos) 0 (.ref it) (.ref s2.heap.objs.size) (compEnvC sc (clOf sc X.env) G.objs.size X.env))
        (compPost (model X.prog X.w) X.A X.xe use Qf (.ref s2.heap.objs.size) G.objs.size) s3 := by
    rintro s3 rfl
    have I3 := blk_start (fp := fp) (C := G.objs.size) (h1 := h1) (tk := s2.toks + ([] : List (Str × Value)).length) I2 h0 hN ok f2 hl hCl old ns1
    have stat : ∀ {H' : Hp} {o : Obj}, (∀ b ∈ fp, H' b = none) → ∀ b ∈ fp, FpOk (blk X N' sc G.objs.size fp pins s2 H2) [(s2.heap.objs.size, o)] H' b := fun hn b hb => by
      have lt := hl b hb
      refine ⟨hn b hb, Nat.ne_of_lt (Nat.lt_of_lt_of_le lt hCl), I3.ok.exfs b hb, .inl hb, (I3.ok.exf b hb).2, fun p hp => ?_⟩
      rcases List.mem_append.mp hp with z | z
      · exact (f2 b hb).2.2.2.2.2 p z
      · have e : p.1 = s2.heap.objs.size := by rw [List.mem_singleton.mp z]
        rw [e]
        exact Nat.ne_of_gt lt
    have pinD : ∀ {σ' : St} {H' : Hp} {s' : Shared} {o : Obj}, Inv (blk X N' sc G.objs.size fp pins s2 H2) [] σ' H' s' → s'.heap.get? s2.heap.objs.size = some o → (∀ v, o.data ≠ .cell v) → H' s2.heap.objs.size = none →
        Inv (blk X N' sc G.objs.size fp pins s2 H2) [(s2.heap.objs.size, o)] σ' H' s' := fun {σ' H' s' o} J' e hd hn => J'.pins_of fun p hp => by
      rw [List.mem_singleton.mp hp]
      exact ⟨e, hn, hDC, fun z => by
        rcases List.mem_cons.mp (I2.stkSub _ z) with r | r
        · exact absurd I2.lt (by rw [← r]; exact Nat.lt_irrefl _)
        · exact I2.nofs (Nat.le_refl _) r, hd⟩
    refine lc_loop (fun k s' => ∃ (i : Nat) (ys : List V) (its : List Value) (c : Nat) (σ' : St) (H' : Hp), Inv (blk X N' sc G.objs.size fp pins s2 H2) [] σ' H' s' ∧ tn i s'.heap ∧ (∀ b ∈ fp, H' b = none) ∧
      s'.heap.get? s2.heap.objs.size = some { cls := .type "list", data := .seq its.toArray c } ∧ Vals ys its ∧ H' s2.heap.objs.size = none ∧ W i k ys σ' H') ?_ m0 _
      ⟨0, [], [], 0, _, H2, I3, T.keep _ _ _ st2 fun b _ o e => old b o e, fun b hb => (f2 b hb).1, hD1, .nil, nD2, w0⟩
    rintro k s' ⟨i, ys, its, c, σ', H', I', st', fr', hD', hv, nD, w'⟩
    obtain ⟨hz, cases⟩ := turn i k ys σ' H' w'
    have I'' := pinD I' hD' (fun v => by intro z; cases z) nD
    rcases cases with ⟨stop, q⟩ | ⟨go, N, hN2, step⟩
    · refine thn (T.done (blk X N' sc G.objs.size fp pins s2 H2) rfl rfl rfl hc i _ s' σ' H' NoX I'' (stat fr') st' stop) fun r s4 ⟨hr, I4⟩ => ?_
      subst hr
      obtain ⟨e4, n4, _⟩ := I4.pin (s2.heap.objs.size, { cls := .type "list", data := .seq its.toArray c }) (List.mem_append_right _ (List.mem_singleton.mpr rfl))
      have u4 : Un (frs X.stack) fp H2 H' s2.heap s4.heap := I4.base
      have nC4 : H' G.objs.size = none := I4.free
      obtain ⟨m4, ns4, _⟩ := I4.loc
      have neD : ∀ b o, s2.heap.get? b = some o → b ≠ s2.heap.objs.size := fun b o e => Nat.ne_of_lt (Heap.lt_size e)
      have u5 : Un (frs X.stack) fp H2 (upd H' s2.heap.objs.size (.lst ys)) s2.heap s4.heap :=
        ⟨u4.keep, u4.slot, fun b o e nb hx => by rw [upd_ne (neD b o e)]; exact u4.free b o e nb hx, u4.there, fun b xs e => by rw [upd_ne (ne_of_none e nD2)]; exact u4.tups b xs e,
          fun b o u e => by rw [upd_ne (ne_of_none e nD2)]; exact u4.frzs b o u e, fun b ps e => by rw [upd_ne (ne_of_none e nD2)]; exact u4.tbls b ps e⟩
      have hok5 : HOk X.prog X.w (upd H' s2.heap.objs.size (.lst ys)) s4.heap := fun a o e => by
        by_cases ea : a = s2.heap.objs.size
        · subst ea
          rw [upd_same] at e
          cases e
          exact ⟨hz, its, c, hv, e4⟩
        · rw [upd_ne ea] at e
          exact (I4.hok a o e).stay (fun _ _ _ q => q) (fun b q => by rw [upd_ne (ne_of_none q nD)]; exact q) fun b xs q => by rw [upd_ne (ne_of_none q nD)]; exact q
      have I5 : Inv X pins σ (upd H' s2.heap.objs.size (.lst ys)) s4 := I2.call' I4.os u5 hok5 I4.bare fun b hb => ⟨(f2 b hb).2.2.2.1, (f2 b hb).2.1, (f2 b hb).2.2.2.2.1, (f2 b hb).2.2.2.2.2⟩
      refine fin _ _ ys H' s4 I5 ⟨m4, ns4⟩ (I2.fpOk hCl ?_) (q _ nD)
      rw [upd_ne (Ne.symm hDC)]
      exact nC4
    · refine thn (T.item (blk X N' sc G.objs.size fp pins s2 H2) rfl rfl rfl hc i _ s' σ' H' NoX I'' (stat fr') st' go) fun r s4 ⟨u, hr, h4⟩ => ?_
      subst hr
      refine thn h4 fun _ s5 ⟨x, H5, I5, r5, y5, st5, fr5⟩ => ?_
      have I5' := I5.pinned (stat fr5) (T.obj _ _ st5)
      refine thn (hg _ _ _ _ _ _ s5 σ' H5 x u _ I5' r5 (step x H5 y5)) fun _ s6 ⟨σ6, H6, I6, q6⟩ => ?_
      refine thn (ht _ _ _ _ _ _ s6 σ6 H6 _ I6 q6) fun b s7 ⟨H7, I7, q7⟩ => ?_
      have back : ∀ {s8 : Shared} {H8 : Hp} (m' : Nat), Inv (blk X N' sc G.objs.size fp pins s2 H2) ([(s2.heap.objs.size, { cls := .type "list", data := .seq its.toArray c })] ++ pinsAt fp s5.heap) σ6 H8 s8 →
          tn (i + 1) s8.heap ∧ (∀ b ∈ fp, H8 b = none) ∧ s8.heap.get? s2.heap.objs.size = some { cls := .type "list", data := .seq its.toArray c } ∧ H8 s2.heap.objs.size = none := fun {s8 H8} m' I8 => by
        have pn : ∀ p ∈ [(s2.heap.objs.size, ({ cls := .type "list", data := .seq its.toArray c } : Obj))] ++ pinsAt fp s5.heap, s8.heap.get? p.1 = some p.2 ∧ H8 p.1 = none := fun p hp =>
          let ⟨a, b, _⟩ := I8.pin p (List.mem_append_right _ hp); ⟨a, b⟩
        refine ⟨T.keep _ _ _ st5 fun b hb o e => (pn (b, o) (List.mem_append_right _ (mem_pinsAt hb e))).1, fun b hb => ?_, pn _ (List.mem_append_left _ (List.mem_singleton.mpr rfl))⟩
        obtain ⟨o, e, _⟩ := T.obj _ _ st5 b hb
        exact (pn (b, o) (List.mem_append_right _ (mem_pinsAt hb e))).2
      have bare : ∀ {s8 : Shared} {H8 : Hp} {pl : List (Addr × Obj)}, Inv (blk X N' sc G.objs.size fp pins s2 H2) pl σ6 H8 s8 → Inv (blk X N' sc G.objs.size fp pins s2 H2) [] σ6 H8 s8 := fun I8 => I8.pins_of fun p hp => nomatch hp
      cases b with
      | false =>
        rw [if_neg Bool.false_ne_true] at q7 ⊢
        obtain ⟨m', lt, w7⟩ := hN2 _ _ _ q7
        obtain ⟨b1, b2, b3, b4⟩ := back m' I7
        exact ⟨m', lt, i + 1, ys, its, c, σ6, H7, bare I7, b1, b2, b3, hv, b4, w7⟩
      | true =>
        rw [if_pos rfl] at q7 ⊢
        refine thn (he _ _ _ _ _ _ s7 σ6 H7 _ I7 q7) fun y s8 ⟨yv, H8, I8, r8, q8⟩ => ?_
        obtain ⟨m', lt, w8⟩ := hN2 _ _ _ q8
        obtain ⟨b1, b2, b3, b4⟩ := back m' I8
        have hlen := hv.length
        refine append_at (hsz := by rw [List.size_toArray, ← hlen]; exact hz) b3 fun h9 sb9 e9 => ?_
        have I9 : Inv (blk X N' sc G.objs.size fp pins s2 H2) [] σ6 H8 { s8 with heap := h9 } := (bare I8).turned (t' := s8.toks) (it := s2.heap.objs.size) (fun b o hb e => sb9.extBut b o hb e) b4 hDC (.inr (Nat.le_refl _))
          (fun x c e z => by
            obtain ⟨v, hv⟩ := I2.cell x c (clOf_look hfr e)
            exact absurd hv.lt (by rw [z]; exact Nat.lt_irrefl _))
          fun p hp z => by
            have hp' : p ∈ X.pn ++ pins := by
              have : p ∈ (X.pn ++ pins) ++ ([] : List (Addr × Obj)) := hp
              rw [List.append_nil] at this
              exact this
            exact absurd (Heap.lt_size (I2.pin p hp').1) (by rw [z]; exact Nat.lt_irrefl _)
        refine ⟨m', lt, i + 1, ys ++ [yv], its ++ [y], c + 1, σ6, H8, I9, T.keep _ _ _ b1 fun b hb o e => sb9.extBut b o (Nat.ne_of_lt (hl b hb)) e, b2, ?_, hv.append (.cons r8 .nil), b4, w8⟩
        rw [e9]
        simp
  exact codeAny_compStart_list (loop _ rfl) (T.self _ 0 _ _ _ (T.keep _ _ _ st2 fun b _ o e => old b o e) (loop _ rfl))

/-- a comprehension as a value -/
theorem pe_lc (hc : X.calm = true) (hi : PI X tg iter wi) (h0 : X.env.scope = sc0) (hN : X.N = XN) (ok : lcOk sc0 sc XN N' n kp = true)
    (hg : ∀ C fp pins s H, PG (blk X N' sc C fp pins s H) tg g) (ht : ∀ C fp pins s H, PTs (blk X N' sc C fp pins s H) cs tc) (he : ∀ C fp pins s H, PE (blk X N' sc C fp pins s H) elt te)
    (hs : ∀ x, foldedSetIterable iter X.env x = pure x := by intro _; rfl) : PE X (.ListComp elt [⟨tg, iter, cs, 0⟩] sc pos) (tLc n kp wi g tc te) := by
  intro pins s σ H Q I h
  rw [eval_ListComp]
  refine lc_run hc hi h0 hN ok hg ht he hs I h fun D C ys H' s' I' ns fp q => ?_
  obtain ⟨m, hm⟩ := ns
  refine ⟨m, hm, fun h' sb => ⟨.ref D, _, ?_, rfl, q⟩⟩
  obtain ⟨f1, f2, f3, f4, f5, f6⟩ := fp
  exact I'.turned (t' := s'.toks) (it := C) (fun b o hb e => sb.extBut b o hb e) f1 f2 f4 f5 f6
end
end L2

set_option maxRecDepth 100000
set_option maxHeartbeats 4000000
namespace L2
open PySem PySem.Spec PyProof.Rows
section
variable {X : Cx} {tg iter elt : Expr} {cs : List Expr} {sc sc0 : Scope} {pos : Pos} {wi : TI} {g : TG} {tc : TT} {te : TE} {XN N' : List Str} {n : Nat} {kp : List Nat}
/-- name = [ .. for .. ], where the store is exchanged with the letting go of the block's names -/
theorem ps_setLc {i : Nat} {y : Str} {py spos : Pos} (hNd : X.N.Nodup) (hiy : X.N[i]? = some y) (hy : X.env.scope.names.lookup y = some .local) (hsw : swapsWith (.ListComp elt [⟨tg, iter, cs, 0⟩] sc pos) (some (.Name y py)) spos.line X.env = pure true)
    (hc : X.calm = true) (hi : PI X tg iter wi) (h0 : X.env.scope = sc0) (hN : X.N = XN) (ok : lcOk sc0 sc XN N' n kp = true)
    (hg : ∀ C fp pins s H, PG (blk X N' sc C fp pins s H) tg g) (ht : ∀ C fp pins s H, PTs (blk X N' sc C fp pins s H) cs tc) (he : ∀ C fp pins s H, PE (blk X N' sc C fp pins s H) elt te)
    (hs : ∀ x, foldedSetIterable iter X.env x = pure x := by intro _; rfl) : PS X (.Assign [.Name y py] (.ListComp elt [⟨tg, iter, cs, 0⟩] sc pos) spos) (tAsg (tLc n kp wi g tc te) (gName i)) := by
  intro pins s σ H D I h
  rw [exec_Assign_Name_used _ _ _ _ hsw]
  refine wpAny_bind (wpAny_standAt (wpAny_bind ?_))
  have fin : wpAny (model X.prog X.w) X.A (comprehension (.ListComp elt [⟨tg, iter, cs, 0⟩] sc pos) sc X.env (firstIterPos [⟨tg, iter, cs, 0⟩] pos) (newList []) false (firstIter [⟨tg, iter, cs, 0⟩] X.env) (some (assign (.Name y py) X.env)))
      (fun _ s' => SP X pins D .next s') X.xe s := by
    refine lc_run (Q := fun x H1 => gName i x σ H1 D.nx) hc hi h0 hN ok hg ht he hs I h fun D' C ys H' s' I' ns fp q => ?_
    obtain ⟨m, hm⟩ := ns
    obtain ⟨f1, f2, f3, f4, f5, f6⟩ := fp
    obtain ⟨o, es, ep, ho, rest⟩ := id hm
    have nc : ∀ v, o.data ≠ .cell v := fun v z => by
      rw [rest.1] at z
      cases z
    have I'' : Inv X (pins ++ [(C, o)]) σ (upd H' D' (.lst ys)) s' := I'.pins_of fun p hp => by
      rcases List.mem_append.mp hp with z | z
      · exact I'.pin p (List.mem_append_right _ z)
      · rw [List.mem_singleton.mp z]
        exact ⟨ho, f1, f2, f3, nc⟩
    show wpAny (model X.prog X.w) X.A (assign (.Name y py) X.env (.ref D')) _ X.xe s'
    refine thn (pg_name hNd hiy (.inl hy) (.inr hy) _ s' σ _ (.ref D') (.ref D') D.nx I'' rfl q) fun _ s'' ⟨σ3, H3, I3, q3⟩ => ?_
    obtain ⟨p1, p2, _⟩ := I3.pin (C, o) (List.mem_append_right _ (List.mem_append_right _ (List.mem_singleton.mpr rfl)))
    refine ⟨m, ⟨o, es, ep, p1, rest⟩, fun h' sb => ⟨σ3, H3, ?_, q3⟩⟩
    exact I3.unpinned.turned (t' := s''.toks) (it := C) (fun b o hb e => sb.extBut b o hb e) p2 f2 f4 f5 f6
  show wpAny (model X.prog X.w) X.A (comprehension _ _ _ _ _ _ _ _ >>= _) _ _ s
  exact wpAny_bind (thn fin fun _ s' q => wpAny_pure (wpAny_pure q))
end

/-! ### B. Built-ins that the layer lacks -/
section
variable {X : Cx}
/-- two lists of ints compared -/
theorem op_ne_ints (hu : X.A.units + 64 < cLine) : OpR X (compareOp .NotEq) (fun x y H Q => ∃ (a b : Addr) (ns ms : List Int), x = .ref a ∧ y = .ref b ∧ SqL X.K H a (ns.map V.int) ∧ SqL X.K H b (ms.map V.int) ∧ Q (.bl (!decide (ns = ms))) H) := by
  intro pins s σ H x y v u Q I rx ry h
  obtain ⟨a, b, ns, ms, rfl, rfl, ha, hb, q⟩ := h
  cases rx
  cases ry
  obtain ⟨xs, rv, p, _⟩ := I.list ha
  obtain ⟨ys, rv', p', _⟩ := I.list hb
  exact PySem.W.ke_ne_ints p.isList p'.isList (intsAre_of rv) (intsAre_of rv') hu ⟨.bl _, H, I, rfl, q⟩
end
end L2

set_option maxRecDepth 100000
set_option maxHeartbeats 4000000
namespace L2
open PySem PySem.Spec PyProof.Rows

/-! ### C. enumerate of a list or a tuple -/
section
variable {prog : Program} {w : World} {A : Around} {E : Value → Shared → Prop} {s : Shared}
theorem nextT_item {j q : Addr} {i : Nat} {its : Array Value} {x : Value} {Q : Value → Shared → Prop} (hj : s.heap.IsTupleIter j q i) (hq : s.heap.IsTuple q its) (hx : its[i]? = some x)
    (k : ∀ g, g.IsTupleIter j q (i + 1) → Heap.SameBut j s.heap g → Q x { s with heap := g }) : wpAny (model prog w) A (Builtin.SmallTypes.nextOf (.ref j)) Q E s := by
  obtain ⟨o, ho, oc, od⟩ := id hj
  obtain ⟨p, hp, _, m, pd⟩ := hq
  unfold Builtin.SmallTypes.nextOf
  refine wpAny_bind (wpAny_callSpecial?_slot (name := Str.ofString "__next__") hj.typeIs F.slot_tuple_iterator_next (wpAny_call_entry F.slot_tuple_iterator_next hj.typeIs F.entry_tuple_iterator_next ?_ (F.args_tuple_iterator_next_1 _)))
  show wpAny _ _ (field (.ref j) 0 >>= _) _ _ s
  refine wpAny_bind (wpAny_field ho od (x := .ref q) rfl ?_)
  show wpAny _ _ (if (Value.ref q == Value.none) = true then _ else _) _ _ s
  rw [if_neg (show ¬ ((Value.ref q == Value.none) = true) from Bool.false_ne_true)]
  show wpAny _ _ (field (.ref j) 1 >>= _) _ _ s
  refine wpAny_bind (wpAny_field ho od (x := .int i 0) rfl ?_)
  show wpAny _ _ (seqItems? (.ref q) >>= _) _ _ s
  refine wpAny_bind (wpAny_seqItems hp pd ?_)
  simp only [hx, Int.toNat_natCast]
  refine wpAny_bind (wpAny_setField ho od (by simp) (wpAny_pure ⟨x, rfl, wpAny_pure (k _ ⟨_, Heap.get?_update_self _ ho (Obj.isFreed_of_fields (Obj.data_mapFields od _)), (Obj.cls_mapFields ..).trans oc, ?_⟩ (Heap.SameBut.update ..))⟩))
  rw [Obj.data_mapFields od]
  simp [rawInt]
theorem nextT_end {j q : Addr} {i : Nat} {its : Array Value} {Q : Value → Shared → Prop} (hh : A.handled = none) (hj : s.heap.IsTupleIter j q i) (hq : s.heap.IsTuple q its) (hx : its[i]? = none)
    (k : ∀ g e, Heap.ExtBut j s.heap g → (∃ o, g.get? e = some o ∧ o.cls = .type "StopIteration") → E (.ref e) { s with heap := g }) : wpAny (model prog w) A (Builtin.SmallTypes.nextOf (.ref j)) Q E s := by
  obtain ⟨o, ho, oc, od⟩ := id hj
  obtain ⟨p, hp, _, m, pd⟩ := hq
  unfold Builtin.SmallTypes.nextOf
  refine wpAny_bind (wpAny_callSpecial?_slot (name := Str.ofString "__next__") hj.typeIs F.slot_tuple_iterator_next (wpAny_call_entry F.slot_tuple_iterator_next hj.typeIs F.entry_tuple_iterator_next ?_ (F.args_tuple_iterator_next_1 _)))
  show wpAny _ _ (field (.ref j) 0 >>= _) _ _ s
  refine wpAny_bind (wpAny_field ho od (x := .ref q) rfl ?_)
  show wpAny _ _ (if (Value.ref q == Value.none) = true then _ else _) _ _ s
  rw [if_neg (show ¬ ((Value.ref q == Value.none) = true) from Bool.false_ne_true)]
  show wpAny _ _ (field (.ref j) 1 >>= _) _ _ s
  refine wpAny_bind (wpAny_field ho od (x := .int i 0) rfl ?_)
  show wpAny _ _ (seqItems? (.ref q) >>= _) _ _ s
  refine wpAny_bind (wpAny_seqItems hp pd ?_)
  simp only [hx, Int.toNat_natCast]
  refine wpAny_bind (wpAny_rule (wpAny_bind (wpAny_setField ho od (by simp) ?_)))
  show wpAny _ _ (newExc (.type "StopIteration") [] >>= _) _ _ _; refine wpAny_bind ?_; simp only [newExc, newTuple]
  refine wpAny_bind (wpAny_newObj_type ?_ (by size_fits)); refine wpAny_bind (m := firstArgMember _ _) (wpAny_of_eq (a := Value.none) (by first | rfl | (simp only [firstArgMember]; rfl)) ?_)
  refine wpAny_newObj_type ?_ (by size_fits); simp only [raiseNew]; refine wpAny_bind (wpAny_handled ?_); first | rw [show A.in1.handled = none from hh] | rw [hh]
  refine wpAny_bind (wpAny_pure (wpAny_throw ?_)); exact k _ _ (((Heap.SameBut.update ..).extBut.push _).push _) ⟨_, Heap.get?_push_size _ rfl, rfl⟩
theorem draws_tup (hh : A.handled = none) (j q : Addr) (hne : q ≠ j) (its : Array Value) : Draws prog w A j [j, q] its.size (fun i v => its[i]? = some v) (fun i h => h.IsTupleIter j q i ∧ h.IsTuple q its) where
  live := fun _ _ st => let ⟨o, ho, _⟩ := st.1; ⟨o, ho⟩
  frame := fun _ _ _ st hk => ⟨st.1.at fun o e => hk j (by simp) o e, let ⟨o, e, r⟩ := st.2; ⟨o, hk q (by simp) o e, r⟩⟩
  item := fun i s Q E hi st hQ => nextT_item st.1 st.2 (x := its[i]) (by simp [hi]) fun g hj sb => hQ _ g s.toks (by simp [hi]) ⟨hj, st.2.extBut sb.extBut hne⟩ sb
  done := fun s Q E st hE => nextT_end hh st.1 st.2 (by simp) hE
open AutoSeq1 (wpAny_loadPart') in
theorem meets_enumT (q : Addr) (its : Array Value) (n : Nat) (dct : Option Addr) (sl : Array (Option Value)) :
    Meets (Builtin.«enumerate.__new__» ⟨[.type "enumerate", .ref q], []⟩) (fun _ R s => s.heap.get? q = some { cls := .type "tuple", dict := dct, data := .seq its n, slots := sl } ∧
      R (.ok (.ret (.ref (s.heap.push { cls := .type "tuple_iterator", data := .fields #[.ref q, .int 0 0] }).objs.size))) { s with heap := (s.heap.push { cls := .type "tuple_iterator", data := .fields #[.ref q, .int 0 0] }).push { cls := .type "enumerate", data := .fields #[.none, .bool false, .ref s.heap.objs.size, rawInt 0, .none, .none] } }) :=
  .of_wp fun prog w A R s h => by
    obtain ⟨hp, g, d, tk, os⟩ := s
    obtain ⟨hq, h⟩ := h
    have hsub := sub_enumerate
    have hT : Heap.IsTuple (Shared.heap ⟨hp, g, d, tk, os⟩) q its := ⟨_, hq, rfl, n, rfl⟩
    wp_walk using wpAny_loadPart' hq
    refine wpAny_stack_any fun st => wpAny_pure ?_
    split
    · rename_i c _ _ _ _ _
      cases (c == Value.type "enumerate")
      · wp_walk using wpAny_loadPart' hq, wpAny_pyIter_tuple hT
        exact ⟨_, rfl, h⟩
      · wp_walk using wpAny_loadPart' hq, wpAny_pyIter_tuple hT
        exact ⟨_, rfl, h⟩
    · wp_walk using wpAny_loadPart' hq, wpAny_pyIter_tuple hT
      exact ⟨_, rfl, h⟩
theorem call_enumT {q : Addr} {its : Array Value} {Q : Value → Shared → Prop} (hT : s.heap.IsTuple q its)
    (k : ∀ g, IsEnum g (s.heap.objs.size + 1) s.heap.objs.size 0 .none → g.IsTupleIter s.heap.objs.size q 0 → (∀ b o, s.heap.get? b = some o → g.get? b = some o) → Q (.ref (s.heap.objs.size + 1)) { s with heap := g }) :
    wpAny (model prog w) A (call (.type "enumerate") [.ref q]) Q E s := by
  obtain ⟨⟨c, dct, dt, sl⟩, hq, hc, n, hd⟩ := hT
  cases (show c = .type "tuple" from hc)
  cases (show dt = .seq its n from hd)
  refine callType_new F.called_enumerate (by decide) (F.typeCall_enumerate_1 _) (F.newCall_enumerate_1 _) (fun obj => F.args_object_init_2 obj _) F.entry_enumerate_new (meets_enumT q its n dct sl) ⟨hq, ?_⟩
  have z : (s.heap.push { cls := .type "tuple_iterator", data := .fields #[.ref q, .int 0 0] }).objs.size = s.heap.objs.size + 1 := Heap.size_push ..
  have he : IsEnum ((s.heap.push { cls := .type "tuple_iterator", data := .fields #[.ref q, .int 0 0] }).push { cls := .type "enumerate", data := .fields #[.none, .bool false, .ref s.heap.objs.size, rawInt 0, .none, .none] }) (s.heap.objs.size + 1) s.heap.objs.size 0 .none := by
    have y := Heap.get?_push_size (s.heap.push { cls := .type "tuple_iterator", data := .fields #[.ref q, .int 0 0] }) (o := { cls := .type "enumerate", data := .fields #[.none, .bool false, .ref s.heap.objs.size, rawInt 0, .none, .none] }) rfl
    rw [z] at y
    exact y
  show _ ∧ _
  rw [z]
  exact ⟨⟨_, he, rfl⟩, k _ he ⟨_, Heap.get?_push_of_some _ (Heap.get?_push_size _ rfl), rfl, rfl⟩ fun b o y => Heap.get?_push_of_some _ (Heap.get?_push_of_some _ y)⟩
end

/-- the sequence at a, a list or a tuple -/
def Sq (K : PySem.W.Frag) (b : Bool) (H : Hp) (a : Addr) (xs : List V) : Prop := if b = true then SqT K H a xs else SqL K H a xs
/-- enumerate over it: pairs, each a new tuple -/
def Ite (K : PySem.W.Frag) (b : Bool) (a : Addr) : It :=
  ⟨fun i H => ∃ xs x, Sq K b H a xs ∧ xs[i]? = some x, fun i H x H' => ∃ T v, x = .ref T ∧ H T = none ∧ H' = upd H T (.tup [.int i, v]) ∧ ∀ xs, Sq K b H a xs → xs[i]? = some v, fun i H => ∃ xs, Sq K b H a xs ∧ xs.length = i⟩
def enIt (b : Bool) (h : Heap) (it a : Addr) (i : Nat) : Prop := if b = true then h.IsTupleIter it a i else h.IsListIter it a i
section
variable {X : Cx} {pins : List (Addr × Obj)} {σ : St} {H : Hp} {s : Shared}
/-- two records have turned, a pair is laid -/
theorem Inv.turned2 {h' : Heap} {t' : Nat} {e it T : Addr} {v : V} {u : Value} {i : Int} {tk : Tok} (I : Inv X pins σ H s) (fe : FpOk X pins H e) (fi : FpOk X pins H it) (hT : s.heap.objs.size ≤ T) (rv : RelV v u)
    (k : ∀ b o, b ≠ e → b ≠ it → s.heap.get? b = some o → h'.get? b = some o) (ke : ∃ o, h'.get? e = some o) (ki : ∃ o, h'.get? it = some o) (eT : h'.get? T = some { cls := .type "tuple", data := .seq #[.int i tk, u] }) :
    Inv X pins σ (upd H T (.tup [.int i, v])) { s with heap := h', toks := t' } := by
  have nT : H T = none := I.hok.fresh hT
  have ne : ∀ b o, H b = some o → b ≠ e ∧ b ≠ it := fun b o q => ⟨ne_of_none q fe.1, ne_of_none q fi.1⟩
  have un : Un (frs X.stack) [e, it] H (upd H T (.tup [.int i, v])) s.heap h' := by
    have off : ∀ b, b ∉ [e, it] → b ≠ e ∧ b ≠ it := fun b hb => ⟨fun z => hb (by simp [z]), fun z => hb (by simp [z])⟩
    have lt : ∀ b o, s.heap.get? b = some o → b ≠ T := fun b o q => Nat.ne_of_lt (Nat.lt_of_lt_of_le (Heap.lt_size q) hT)
    exact ⟨fun b o q _ _ hx => k b o (off b hx).1 (off b hx).2 q, fun b o q _ _ hx => ⟨o.slots, k b o (off b hx).1 (off b hx).2 q⟩, fun b o q n _ => by rw [upd_ne (lt b o q)]; exact n, fun b o q hx => ⟨o, k b o (off b hx).1 (off b hx).2 q⟩,
      fun b xs q => by rw [upd_ne (ne_of_none q nT)]; exact q, fun b o xs q => by rw [upd_ne (ne_of_none q nT)]; exact q, fun b ps q => ⟨#[], by rw [upd_ne (ne_of_none q nT), q]; simp⟩⟩
  refine I.call (g' := s.gens) (d' := s.drawn) (ch := [e, it]) un (fun a o q => ?_) I.bare fun b hb => ?_
  · by_cases ea : a = T
    · subst ea
      rw [upd_same] at q
      cases q
      exact ⟨Nat.le_of_lt (small1000 (by show 2 ≤ 1000; decide)), [.int i tk, u], .cons ⟨tk, rfl⟩ (.cons rv .nil), ⟨_, eT, rfl, _, rfl⟩⟩
    · rw [upd_ne ea] at q
      refine (I.hok a o q).stay (fun b z hb r => k b z ?_ ?_ r) (fun b r => by rw [upd_ne (ne_of_none r nT)]; exact r) fun b xs r => by rw [upd_ne (ne_of_none r nT)]; exact r
      · rcases hb with rfl | hb
        · exact (ne _ _ q).1
        · exact (ne _ _ hb).1
      · rcases hb with rfl | hb
        · exact (ne _ _ q).2
        · exact (ne _ _ hb).2
  · rcases List.mem_cons.mp hb with z | z
    · subst z
      exact ⟨fe.2.2.2.1, fe.2.1, fe.2.2.2.2.1, fe.2.2.2.2.2⟩
    · have z' := List.mem_singleton.mp z
      subst z'
      exact ⟨fi.2.2.2.1, fi.2.1, fi.2.2.2.2.1, fi.2.2.2.2.2⟩
end
theorem Sq.inj {X : Cx} {pins : List (Addr × Obj)} {σ : St} {H : Hp} {s : Shared} {b : Bool} {a : Addr} {xs ys : List V} (I : Inv X pins σ H s) (h : Sq X.K b H a xs) (h' : Sq X.K b H a ys) : xs = ys := by
  cases b with
  | true => exact I.tuple_inj h h'
  | false => exact I.list_inj h h'
theorem enIt_obj {b : Bool} {h : Heap} {it a : Addr} {i : Nat} (st : enIt b h it a i) : ∃ o, h.get? it = some o ∧ ∀ v, o.data ≠ .cell v := by
  cases b with
  | true =>
    obtain ⟨o, e, _, d⟩ := (show h.IsTupleIter it a i from st)
    exact ⟨o, e, fun v z => by rw [d] at z; cases z⟩
  | false =>
    obtain ⟨o, e, _, d⟩ := (show h.IsListIter it a i from st)
    exact ⟨o, e, fun v z => by rw [d] at z; cases z⟩
/-- the inner iterator drawn, whichever it is -/
theorem enIt_draws {X : Cx} {pins : List (Addr × Obj)} {σ : St} {H : Hp} {s : Shared} {b : Bool} {a it : Addr} {xs : List V} (I : Inv X pins σ H s) (hd : X.A.handled = none) (hq : Sq X.K b H a xs) (hne : a ≠ it) :
    ∃ (its : List Value) (St : Nat → Heap → Prop), Vals xs its ∧ Draws X.prog X.w X.A.in1 it [it, a] its.toArray.size (fun i v => its.toArray[i]? = some v) St ∧ (∀ i, enIt b s.heap it a i → St i s.heap) ∧ ∀ i h, St i h → enIt b h it a i := by
  cases b with
  | true =>
    obtain ⟨its, rv, p, _⟩ := I.tuple hq
    exact ⟨its, fun i h => h.IsTupleIter it a i ∧ h.IsTuple a its.toArray, rv, draws_tup (A := X.A.in1) hd it a hne its.toArray, fun i st => ⟨st, p⟩, fun i h st => st.1⟩
  | false =>
    obtain ⟨its, rv, p, _⟩ := I.list hq
    exact ⟨its, fun i h => h.IsListIter it a i ∧ h.IsList a its.toArray, rv, Draws.list (A := X.A.in1) hd it a hne its.toArray, fun i st => ⟨st, p.isList⟩, fun i h st => st.1⟩
theorem turn_enum {P : Program} {w : World} {K : PySem.W.Frag} {elts : List Expr} {k : Nat} {pos : Pos} (b : Bool) (a e it : Addr) (hei : e ≠ it) (hae : a ≠ e) (hai : a ≠ it) :
    Turn P w K (.Tuple elts k pos) (Ite K b a) [e, it] e (fun i h => (∃ old, IsEnum h e it (i : Int) old) ∧ enIt b h it a i) where
  mem := by simp
  obj := fun i h st c hc => by
    rcases List.mem_cons.mp hc with z | z
    · subst z
      obtain ⟨old, q⟩ := st.1
      exact ⟨_, q, fun v z => by
        have z' : Data.fields _ = Data.cell v := z
        cases z'⟩
    · rw [List.mem_singleton.mp z]
      exact enIt_obj st.2
  keep := fun i h h' st kk => by
    obtain ⟨⟨old, q⟩, st⟩ := st
    refine ⟨⟨old, kk e (by simp) _ q⟩, ?_⟩
    cases b with
    | true => exact (show h.IsTupleIter it a i from st).at fun o q => kk it (by simp) o q
    | false => exact (show h.IsListIter it a i from st).at fun o q => kk it (by simp) o q
  item := by
    intro X hP hw hK hc i pins s σ H E I hf st hg
    subst hP hw hK
    obtain ⟨⟨old, he⟩, st⟩ := st
    obtain ⟨xs, x, hq, hx⟩ := hg
    obtain ⟨its, St, rv, D, up, dn⟩ := enIt_draws I (I.ok.hd hc) hq hai
    obtain ⟨u, hu, ru⟩ := rv.get hx
    have hlt : i < its.toArray.size := by simpa using (List.getElem?_eq_some_iff.mp hu).1
    have fe := hf e (by simp)
    have fi := hf it (by simp)
    have lte : e < s.heap.objs.size := Heap.lt_size he
    refine wpAny_pyNext_enum_itemD D he (up i st) hlt hei (by simp [hei, Ne.symm hae]) fun y g tk hy ho st' hT hsz kk => ?_
    have ey : y = u := by
      have z : its.toArray[i]? = some y := hy
      rw [List.getElem?_toArray, hu] at z
      exact (Option.some.inj z).symm
    subst ey
    refine ⟨_, rfl, wpAny_letOwnedTupleGo_enum ho fun g2 he2 sb => ?_⟩
    have it2 : ∃ o, g2.get? it = some o := by
      obtain ⟨o, q, _⟩ := enIt_obj (dn _ _ st')
      exact ⟨o, (sb.2 it (Ne.symm hei)).trans q⟩
    have I2 := I.turned2 (h' := g2) (t' := tk + 1) (T := s.heap.objs.size) (i := (i : Int)) (tk := tk) fe fi (Nat.le_refl _) ru (fun c o h1 h2 q => (sb.2 c h1).trans (kk c o h1 h2 q)) ⟨_, he2⟩ it2 ((sb.2 _ (Nat.ne_of_gt lte)).trans hT)
    refine ⟨.ref s.heap.objs.size, _, I2, rfl, ⟨_, x, rfl, I.hok.fresh (Nat.le_refl _), rfl, fun ys hy' => by rw [Sq.inj I hy' hq]; exact hx⟩, ⟨⟨y, he2⟩, ?_⟩, fun c hc' => ?_⟩
    · have z := dn _ _ st'
      cases b with
      | true => exact (show g.IsTupleIter it a (i + 1) from z).at fun o q => (sb.2 it (Ne.symm hei)).trans q
      | false => exact (show g.IsListIter it a (i + 1) from z).at fun o q => (sb.2 it (Ne.symm hei)).trans q
    · have nz : H c = none := (hf c hc').1
      have cl : c < s.heap.objs.size := by
        rcases List.mem_cons.mp hc' with z | z
        · rw [z]; exact lte
        · rw [List.mem_singleton.mp z]
          obtain ⟨o, q, _⟩ := enIt_obj st
          exact Heap.lt_size q
      rw [upd_ne (Nat.ne_of_lt cl)]
      exact nz
  done := by
    intro X hP hw hK hc i pins s σ H E I hf st hg
    subst hP hw hK
    obtain ⟨⟨old, he⟩, st⟩ := st
    obtain ⟨xs, hq, hx⟩ := hg
    obtain ⟨its, St, rv, D, up, dn⟩ := enIt_draws I (I.ok.hd hc) hq hai
    obtain ⟨f0, f1, f2, f3, f4, f5⟩ := hf it (by simp)
    have hl := rv.length
    have e1 : i = its.toArray.size := by
      rw [List.size_toArray]
      omega
    refine wpAny_pyNext_enum_endD D he (by rw [← e1]; exact up i st) fun g eb => ⟨rfl, I.turned (t' := s.toks) (fun c o hc' q => eb c o hc' q) f0 f1 f3 f4 f5⟩
  self := fun _ _ _ _ _ st h => by
    obtain ⟨⟨old, he⟩, _⟩ := st
    exact wpAny_pyIter_enum he h

/-! the iterator of enumerate(e) -/
def iEnum (K : PySem.W.Frag) (ta : TA) : TI := fun σ H R => ta σ H fun vs H1 => ∃ (b : Bool) (a : Addr), vs = [.ref a] ∧ (∃ xs, Sq K b H1 a xs) ∧ R (Ite K b a) H1
theorem pi_enum {X : Cx} {elts : List Expr} {k : Nat} {pos p pos' : Pos} {a : Expr} {ta : TA} (hg : Gl X "enumerate") (hm : X.mg "enumerate" = none) (ha : PA X [a] ta) (hs : starEach [a] X.env = [(false, eval a X.env)] := by rfl) :
    PI X (.Tuple elts k pos) (.Call (.Name "enumerate" p) [a] [] pos') (iEnum X.K ta) := by
  intro pins s σ H R I h
  refine Call_ (ld_blt I hg hm PyProof.Rows.boot_enumerate (PyProof.Rows.callWith_type1 (thn (ha pos' pins s σ H _ I h) fun us s1 ⟨vs, H1, I1, r1, q1⟩ => ?_) hs rfl))
  obtain ⟨b, c, rfl, ⟨xs, hq⟩, q⟩ := q1
  obtain ⟨u, rfl, ru⟩ := vals1 r1
  cases ru
  have fin : ∀ g : Heap, IsEnum g (s1.heap.objs.size + 1) s1.heap.objs.size 0 .none → enIt b g s1.heap.objs.size c 0 → (∀ d o, s1.heap.get? d = some o → g.get? d = some o) → c < s1.heap.objs.size →
      wpAny (model X.prog X.w) X.A (pyIter (.ref (s1.heap.objs.size + 1))) (PIE X pins σ (.Tuple elts k pos) R) X.xe { s1 with heap := g } := fun g he hi kk cl => by
    refine wpAny_pyIter_enum he ?_
    refine ⟨s1.heap.objs.size + 1, [s1.heap.objs.size + 1, s1.heap.objs.size], _, _, H1, rfl, I1.kept (t' := s1.toks) kk, turn_enum b c _ _ (Nat.succ_ne_self _) (Nat.ne_of_lt (Nat.lt_succ_of_lt cl)) (Nat.ne_of_lt cl), ⟨⟨.none, he⟩, hi⟩, fun d hd => ?_, q⟩
    have le : s1.heap.objs.size ≤ d := by
      rcases List.mem_cons.mp hd with z | z
      · rw [z]; exact Nat.le_succ _
      · rw [List.mem_singleton.mp z]; exact Nat.le_refl _
    exact I1.fpOk le (I1.hok.fresh le)
  cases b with
  | true =>
    obtain ⟨its, rv, pt, _⟩ := I1.tuple hq
    exact call_enumT (show s1.heap.IsTuple c its.toArray from pt) fun g he hi kk => fin g he hi kk pt.lt
  | false =>
    obtain ⟨its, rv, pl, _⟩ := I1.list hq
    have hl := pl.isList
    exact call_enumerate_list hl fun g he hi _ kk => fin g he hi kk (by obtain ⟨o, e, _⟩ := hl; exact Heap.lt_size e)
/-- a loop over enumerate of a sequence that stays as it is -/
theorem for_enum {K : PySem.W.Frag} {b : Bool} {a : Addr} {xs : List V} {g : TG} {tb : TS} {D : Ends} {σ : St} {H : Hp} (Pv : Nat → St → Hp → Prop) (h0 : Pv 0 σ H) (hl : ∀ i σ H, i ≤ xs.length → Pv i σ H → Sq K b H a xs)
    (hs : ∀ i x σ H, xs[i]? = some x → Pv i σ H → ∀ T, H T = none → g (.ref T) σ (upd H T (.tup [.int i, x])) fun σ2 H2 => tb { D with nx := Pv (i + 1), ct := Pv (i + 1), bk := D.nx } σ2 H2) (hd : ∀ σ H, Pv xs.length σ H → D.nx σ H) :
    ∃ W : Nat → Nat → St → Hp → Prop, (∃ m, W 0 m σ H) ∧ ∀ i m σ H, W i m σ H →
      ((Ite K b a).stop i H ∧ D.nx σ H) ∨ ((Ite K b a).go i H ∧ ∃ N : St → Hp → Prop, (∀ σ' H', N σ' H' → ∃ m', m' < m ∧ W (i + 1) m' σ' H') ∧ ∀ x H', (Ite K b a).yld i H x H' → g x σ H' fun σ2 H2 => tb { D with nx := N, ct := N, bk := D.nx } σ2 H2) := by
  refine ⟨fun i m σ H => m = xs.length - i ∧ i ≤ xs.length ∧ Pv i σ H, ⟨xs.length, by simp, Nat.zero_le _, h0⟩, ?_⟩
  rintro i m σ H ⟨rfl, hi, p⟩
  have q := hl i σ H hi p
  by_cases hlt : i < xs.length
  · refine .inr ⟨⟨xs, xs[i], q, by simp [hlt]⟩, Pv (i + 1), fun σ' H' p' => ⟨xs.length - (i + 1), by omega, rfl, hlt, p'⟩, fun x H' y => ?_⟩
    obtain ⟨T, v, rfl, hT, rfl, hv⟩ := y
    exact hs i v σ H (hv xs q) p T hT
  · have e : i = xs.length := by omega
    subst e
    exact .inl ⟨⟨xs, q, rfl⟩, hd σ H p⟩
end L2

set_option maxRecDepth 100000
set_option maxHeartbeats 4000000
namespace L2
open PySem PySem.Spec PyProof.Rows
/-! ### D. More built-ins -/
section
variable {X : Cx}
theorem vals_of {P : Nat → Value → Prop} {f : Nat → V} (hP : ∀ i v, P i v → RelV (f i) v) : ∀ (n k : Nat) (l : List Value), l.length = n → (∀ j v, l[j]? = some v → P (k + j) v) → Vals ((List.range' k n).map f) l
  | 0, k, [], _, _ => .nil
  | n + 1, k, v :: r, hl, h => by
    rw [List.range'_succ, List.map_cons]
    refine .cons (hP _ _ (h 0 v rfl)) (vals_of hP n (k + 1) r (by simpa using hl) fun j v' e => ?_)
    have := h (j + 1) v' (by simpa using e)
    rw [show k + 1 + j = k + (j + 1) by omega]
    exact this
  | 0, _, _ :: _, hl, _ => by simp at hl
  | n + 1, _, [], hl, _ => by simp at hl
/-- list(range) -/
theorem call_list_rng (hc : X.calm = true) : CallR X (.type "list") (fun xs H Q => ∃ (p : Addr) (lo hi : Int), xs = [.ref p] ∧ H p = some (.rng lo hi) ∧ -(2 ^ 62) ≤ lo ∧ lo < 2 ^ 62 ∧ -(2 ^ 62) ≤ hi ∧ hi < 2 ^ 62 ∧ (hi - lo).toNat ≤ 1000 ∧ ∀ l, H l = none → Q (.ref l) (upd H l (.lst ((List.range' 0 (hi - lo).toNat).map fun i : Nat => V.int (lo + i))))) := by
  intro pins s σ H xs us Q I r h
  obtain ⟨p, lo, hi, rfl, hp, b1, b2, b3, b4, hz, q⟩ := h
  obtain ⟨u, rfl, rx⟩ := vals1 r
  cases rx
  obtain ⟨t, u, v, e⟩ := (show ObjOk X.prog X.w H s.heap p (.rng lo hi) from I.hok p _ hp)
  have hn : Builtin.Range.rangeSize lo hi 1 = (((hi - lo).toNat : Nat) : Int) := by
    rw [rangeSize_one]
    split <;> omega
  refine call_list_range (I.ok.hd hc) e (small_one b1 b2 b3 b4) hn (Nat.le_trans hz (by decide)) fun g tk acc c kk eg hi' => ?_
  obtain ⟨sz, it⟩ := hi'
  have vv : Vals ((List.range' 0 (hi - lo).toNat).map fun i : Nat => V.int (lo + i)) acc.toList := by
    refine vals_of (P := fun i v => ∃ t, v = .int (lo + i * 1) t) (fun i v hv => ?_) _ 0 acc.toList (by simpa using sz) fun j v ej => ?_
    · obtain ⟨t, rfl⟩ := hv
      exact ⟨t, by rw [Int.mul_one]⟩
    · have := it j v (by simpa using ej)
      rw [Nat.zero_add]
      exact this
  refine ⟨.ref s.heap.objs.size, _, I.laid (t' := tk) kk (Nat.le_refl _) (show ObjOk X.prog X.w _ _ _ (.lst _) from ⟨?_, acc.toList, c, vv, eg⟩), rfl, q _ (I.hok.fresh (Nat.le_refl _))⟩
  rw [List.length_map, List.length_range']
  exact Nat.le_of_lt (small1000 hz)
open AutoSeq1 (wpAny_loadPart') in
/-- a list or a tuple walked -/
def iSeq (K : PySem.W.Frag) (tl : TE) : TI := fun σ H R => tl σ H fun x H1 => ∃ a, x = .ref a ∧ (((∃ xs, SqL K H1 a xs) ∧ R (Itl K a) H1) ∨ ((∃ xs, SqT K H1 a xs) ∧ R (Itt K a) H1))
theorem pi_seq {tg l : Expr} {tl : TE} (hl : PE X l tl) : PI X tg l (iSeq X.K tl) := by
  intro pins s σ H R I h
  refine thn (hl pins s σ H _ I h) fun v s1 ⟨x, H1, I1, r1, q1⟩ => ?_
  obtain ⟨a, rfl, q⟩ := q1
  cases r1
  rcases q with ⟨⟨xs, hq⟩, q⟩ | ⟨⟨xs, hq⟩, q⟩
  · obtain ⟨its, rv, p, hz⟩ := I1.list hq
    refine wpAny_pyIter_list p.isList ⟨s1.heap.objs.size, [s1.heap.objs.size], _, _, H1, rfl, I1.kept (t' := s1.toks) fun b o e => Heap.get?_push_of_some _ e, turn_list a _, ⟨_, Heap.get?_push_size _ rfl, rfl, rfl⟩, fun b hb => ?_, q⟩
    rw [List.mem_singleton.mp hb]
    exact I1.fpOk (Nat.le_refl _) (I1.hok.fresh (Nat.le_refl _))
  · obtain ⟨its, rv, p, hz⟩ := I1.tuple hq
    refine wpAny_pyIter_tuple (show s1.heap.IsTuple a its.toArray from p) ⟨s1.heap.objs.size, [s1.heap.objs.size], _, _, H1, rfl, I1.kept (t' := s1.toks) fun b o e => Heap.get?_push_of_some _ e, turn_tuple a _, ⟨_, Heap.get?_push_size _ rfl, rfl, rfl⟩, fun b hb => ?_, q⟩
    rw [List.mem_singleton.mp hb]
    exact I1.fpOk (Nat.le_refl _) (I1.hok.fresh (Nat.le_refl _))
/-- the sum of a list of ints -/
theorem call_sum_ints (hc : X.calm = true) : CallR X (.builtin "sum") (fun xs H Q => ∃ (p : Addr) (ns : List Int), xs = [.ref p] ∧ SqL X.K H p (ns.map V.int) ∧ Q (.int ns.sum) H) := by
  intro pins s σ H xs us Q I r h
  obtain ⟨p, ns, rfl, hq, q⟩ := h
  obtain ⟨u, rfl, rx⟩ := vals1 r
  cases rx
  obtain ⟨its, rv, pl, hz'⟩ := I.list hq
  have ia := intsAre_of rv
  obtain ⟨ps, hx⟩ := ia.allInts.items
  have hl' : s.heap.IsList p (intItems ps) := hx ▸ pl.isList
  refine sum_intListG (I.ok.hd hc) hl' fun g tk t' hk => ?_
  have e1 : ns = ps.toList.map (·.1) := by
    rw [← nums_intItems, ← hx]
    exact (show numsOf its.toArray.toList = ns from ia.numsOf).symm
  have e2 : preSum (numAt ps) ps.size = ns.sum := by
    rw [preSum_eq, List.take_of_length_le (by simp), e1]
  rw [e2]
  exact ⟨.int _, H, I.kept (t' := tk) hk, ⟨t', rfl⟩, q⟩
end

/-! the layer's rules with the text's heap named (for blocks) -/
section
variable {X : Cx} {K : PySem.W.Frag}
theorem ixT (h : X.K = K := by rfl) : IxR X (rIxT K) := h ▸ ix_tup
theorem ixL (h : X.K = K := by rfl) : IxR X (rIxL K) := h ▸ ix_list
theorem lenS (h : X.K = K := by rfl) : CallR X (.builtin "len") (fun xs H Q => ∃ p ys, xs = [.ref p] ∧ (SqL K H p ys ∨ SqT K H p ys) ∧ Q (.int ys.length) H) := h ▸ call_len_seq
end
/-! ### E. Data: what a value stands for -/
mutual
def Dn (H : Hp) : PyData → V → Prop
  | .none, v => v = .non
  | .bool b, v => v = .bl b
  | .int i, v => v = .int i
  | .str x, v => v = .str x
  | .list ds, v => ∃ a xs, v = .ref a ∧ H a = some (.lst xs) ∧ DnL H ds xs
  | .tuple ds, v => ∃ a xs, v = .ref a ∧ H a = some (.tup xs) ∧ DnL H ds xs
  | .dict kvs, v => kvs = [] ∧ ∃ a, v = .ref a ∧ H a = some (.dK [])
def DnL (H : Hp) : List PyData → List V → Prop
  | [], xs => xs = []
  | d :: ds, xs => ∃ x r, xs = x :: r ∧ Dn H d x ∧ DnL H ds r
end
mutual
theorem Dn.same {H H' : Hp} (h : Same H H') : ∀ (d : PyData) (v : V), Dn H d v → Dn H' d v
  | .none, _, q => q
  | .bool _, _, q => q
  | .int _, _, q => q
  | .str _, _, q => q
  | .list ds, _, ⟨a, xs, e, q, r⟩ => ⟨a, xs, e, h _ _ q, DnL.same h ds xs r⟩
  | .tuple ds, _, ⟨a, xs, e, q, r⟩ => ⟨a, xs, e, h _ _ q, DnL.same h ds xs r⟩
  | .dict _, _, ⟨e, a, q, r⟩ => ⟨e, a, q, h _ _ r⟩
theorem DnL.same {H H' : Hp} (h : Same H H') : ∀ (ds : List PyData) (xs : List V), DnL H ds xs → DnL H' ds xs
  | [], _, q => q
  | d :: ds, _, ⟨x, r, e, q, z⟩ => ⟨x, r, e, Dn.same h d x q, DnL.same h ds r z⟩
end
theorem DnL.length {H : Hp} : ∀ {ds : List PyData} {xs : List V}, DnL H ds xs → ds.length = xs.length
  | [], _, q => by cases (show _ = [] from q); rfl
  | d :: ds, _, ⟨x, r, e, _, z⟩ => by rw [e, List.length_cons, List.length_cons, DnL.length z]
theorem DnL.get {H : Hp} : ∀ {ds : List PyData} {xs : List V} {i : Nat} {x : V}, DnL H ds xs → xs[i]? = some x → ∃ d, ds[i]? = some d ∧ Dn H d x
  | [], _, i, x, q, e => by rw [(show _ = [] from q)] at e; simp at e
  | d :: ds, _, 0, x, ⟨y, r, e, q, z⟩, h => by rw [e] at h; cases h; exact ⟨d, rfl, q⟩
  | d :: ds, _, i + 1, x, ⟨y, r, e, q, z⟩, h => by
    rw [e] at h
    obtain ⟨d', h1, h2⟩ := DnL.get (i := i) z (by simpa using h)
    exact ⟨d', by simpa using h1, h2⟩
theorem DnL.get' {H : Hp} : ∀ {ds : List PyData} {xs : List V} {i : Nat} {d : PyData}, DnL H ds xs → ds[i]? = some d → ∃ x, xs[i]? = some x ∧ Dn H d x
  | [], _, i, x, q, e => by simp at e
  | d :: ds, _, 0, x, ⟨y, r, e, q, z⟩, h => by cases h; exact ⟨y, by rw [e]; rfl, q⟩
  | d :: ds, _, i + 1, x, ⟨y, r, e, q, z⟩, h => by
    obtain ⟨d', h1, h2⟩ := DnL.get' (i := i) z (by simpa using h)
    exact ⟨d', by rw [e]; simpa using h1, h2⟩
theorem DnL.append {H : Hp} : ∀ {ds es : List PyData} {xs ys : List V}, DnL H ds xs → DnL H es ys → DnL H (ds ++ es) (xs ++ ys)
  | [], es, xs, ys, q, r => by rw [(show xs = [] from q)]; exact r
  | d :: ds, es, _, ys, ⟨x, t, e, q, z⟩, r => ⟨x, t ++ ys, by rw [e]; rfl, q, DnL.append z r⟩
mutual
theorem Dn.reads {X : Cx} {pins : List (Addr × Obj)} {σ : St} {H : Hp} {s : Shared} (I : Inv X pins σ H s) : ∀ (d : PyData) (v : V) (u : Value), Dn H d v → d.canLay0 = true → RelV v u → ∃ as, Reads s.heap u d as
  | .none, v, u, q, _, r => by cases (show v = .non from q); cases (show u = Value.none from r); exact ⟨_, .none⟩
  | .bool b, v, u, q, _, r => by cases (show v = .bl b from q); cases (show u = Value.bool b from r); exact ⟨_, .bool b⟩
  | .int i, v, u, q, _, r => by cases (show v = .int i from q); obtain ⟨t, rfl⟩ := (show ∃ t, u = Value.int i t from r); exact ⟨_, .int i t⟩
  | .str x, v, u, q, _, r => by cases (show v = .str x from q); obtain ⟨t, rfl⟩ := (show ∃ t, u = Value.str x t from r); exact ⟨_, .str x t⟩
  | .list ds, _, u, ⟨a, xs, rfl, q, z⟩, c, r => by
    cases (show u = Value.ref a from r)
    obtain ⟨_, its, n, rv, e⟩ := (show ObjOk X.prog X.w H s.heap a (.lst xs) from I.hok a _ q)
    obtain ⟨as, ra⟩ := DnL.reads I ds xs its z (by simpa [PyData.canLay0] using c) rv
    exact ⟨_, .list e rfl rfl (by simpa using ra)⟩
  | .tuple ds, _, u, ⟨a, xs, rfl, q, z⟩, c, r => by
    cases (show u = Value.ref a from r)
    obtain ⟨_, its, rv, o, e, hc, n, hd⟩ := (show ObjOk X.prog X.w H s.heap a (.tup xs) from I.hok a _ q)
    obtain ⟨as, ra⟩ := DnL.reads I ds xs its z (by simpa [PyData.canLay0] using c) rv
    exact ⟨_, .tuple e hc hd (by simpa using ra)⟩
  | .dict k, v, u, _, c, _ => by simp [PyData.canLay0] at c
theorem DnL.reads {X : Cx} {pins : List (Addr × Obj)} {σ : St} {H : Hp} {s : Shared} (I : Inv X pins σ H s) : ∀ (ds : List PyData) (xs : List V) (us : List Value), DnL H ds xs → PyData.canLayAll0 ds = true → Vals xs us → ∃ as, ReadsAll s.heap us ds as
  | [], xs, us, q, _, r => by
    cases (show xs = [] from q)
    cases r
    exact ⟨_, .nil⟩
  | d :: ds, _, us, ⟨x, t, rfl, q, z⟩, c, r => by
    cases r with
    | cons rx rt =>
      have c' : PyData.canLay0 d = true ∧ PyData.canLayAll0 ds = true := by simpa [PyData.canLayAll0] using c
      obtain ⟨a1, r1⟩ := Dn.reads I d x _ q c'.1 rx
      obtain ⟨a2, r2⟩ := DnL.reads I ds t _ z c'.2 rt
      exact ⟨_, .cons r1 r2⟩
end
/-- two values of the same data: not unequal -/
theorem op_ne_data {X : Cx} (hu : X.A.units + 64 < cLine) : OpR X (compareOp .NotEq) (fun x y H Q => ∃ d e : PyData, Dn H d x ∧ Dn H e y ∧ SeqAt.shaped d = true ∧ SeqAt.shaped e = true ∧ Q (.bl (!PyData.eqv d e)) H) := by
  intro pins s σ H x y v u Q I rx ry h
  obtain ⟨d, e, hd, he, sd, se, q⟩ := h
  obtain ⟨as, ra⟩ := Dn.reads I d x v hd (SeqAt.canLay_of_shaped sd) rx
  obtain ⟨bs, rb⟩ := Dn.reads I e y u he (SeqAt.canLay_of_shaped se) ry
  exact ne_dataH ra rb sd se hu ⟨.bl _, H, I, rfl, q⟩
mutual
theorem eqv_refl : ∀ d : PyData, d.canLay0 = true → PyData.eqv d d = true
  | .none, _ => by simp [PyData.eqv]
  | .bool _, _ => by simp [PyData.eqv]
  | .int _, _ => by simp [PyData.eqv]
  | .str _, _ => by simp [PyData.eqv]
  | .list ds, c => by simpa [PyData.eqv] using eqvAll_refl ds (by simpa [PyData.canLay0] using c)
  | .tuple ds, c => by simpa [PyData.eqv] using eqvAll_refl ds (by simpa [PyData.canLay0] using c)
  | .dict _, c => by simp [PyData.canLay0] at c
theorem eqvAll_refl : ∀ ds : List PyData, PyData.canLayAll0 ds = true → PyData.eqvAll ds ds = true
  | [], _ => by simp [PyData.eqvAll]
  | d :: ds, c => by
    have c' : PyData.canLay0 d = true ∧ PyData.canLayAll0 ds = true := by simpa [PyData.canLayAll0] using c
    simp [PyData.eqvAll, eqv_refl d c'.1, eqvAll_refl ds c'.2]
end
end L2

set_option maxRecDepth 100000
set_option maxHeartbeats 4000000
/-! ### F. Woods as data -/
namespace Wd
open PySem L2
def isW : PyData → Bool
  | .int _ => true
  | _ => false
/-! the program's looks at data, as functions -/
def within (d : PyData) (lo hi : Int) : Bool := match d with
  | .int i => decide (lo ≤ i) && decide (i ≤ hi)
  | _ => false
def tupFull (d : PyData) : Bool := match d with
  | .tuple ds => decide (0 < ds.length)
  | _ => false
def rising (many : Int) : List PyData → Int → Bool
  | [], _ => true
  | .int i :: ds, last => decide (last + 1 ≤ i) && decide (i ≤ many - 1) && rising many ds i
  | _ :: _, _ => false
def risK (many : Int) : PyData → PyData → Bool
  | .int up, .tuple ks => rising many ks up
  | _, _ => false
def highK (h : PyData) : PyData → Bool
  | .tuple ks => within h 1 ks.length
  | _ => false
def lowH (l : PyData) : PyData → Bool
  | .int hi => within l 0 hi
  | _ => false
def isBough (many : Int) (d : PyData) : Bool := match d with
  | .tuple [u, l, h, k] => within u 0 (many - 1) && (tupFull k && (risK many u k && (highK h k && lowH l h)))
  | _ => false
def fstD : PyData → PyData
  | .tuple (x :: _) => x
  | _ => .none
def pairOk : PyData → Bool
  | .tuple [_, n] => isW n
  | _ => false
def arePairs (many : Int) (d : PyData) : Bool := match d with
  | .tuple ds => decide (0 < ds.length) && ds.all pairOk && rising many (ds.map fstD) (-1)
  | _ => false
def neI : PyData → PyData → Bool
  | .int i, .int j => !decide (i = j)
  | _, _ => false
def tieK (many : Int) (s : Str) (x y : PyData) : Bool := if s = ("most" : Str) then isW x && arePairs many y else if s = ("needs" : Str) ∨ s = ("bans" : Str) then within x 0 (many - 1) && (within y 0 (many - 1) && neI x y) else false
def tieD (many : Int) (x y : PyData) : PyData → Bool
  | .str s => tieK many s x y
  | _ => false
def isTie (many : Int) (d : PyData) : Bool := match d with
  | .tuple [k, x, y] => tieD many x y k
  | _ => false
def toI : PyData → Int
  | .int i => i
  | _ => 0
def kidsOf : PyData → List Int
  | .tuple [_, _, _, .tuple ks] => ks.map toI
  | _ => []
/-- the boughs are those of a wood -/
structure GoodB (many : Int) (bs : List PyData) : Prop where
  each : ∀ b ∈ bs, isBough many b = true
  kids : (bs.flatMap kidsOf).Perm ((List.range' 0 (many - 1).toNat).map fun i : Nat => (1 : Int) + i)
theorem same_new {H : Hp} {p : Addr} (h : H p = none) (o : HO) : Same H (upd H p o) := same_of fun b u q => by rw [upd_ne (ne_of_none q h)]; exact q
theorem small {n : Nat} (h : n ≤ 1000) : n ≤ sizeLine := Nat.le_of_lt (small1000 h)
theorem dn_int {H : Hp} {i : Int} {v : V} (h : Dn H (.int i) v) : v = .int i := h
theorem dn_tup {H : Hp} {ds : List PyData} {v : V} (h : Dn H (.tuple ds) v) : ∃ a xs, v = .ref a ∧ H a = some (.tup xs) ∧ DnL H ds xs := h
theorem isW_int {d : PyData} (h : isW d = true) : ∃ i, d = .int i := by
  cases d <;> first | exact ⟨_, rfl⟩ | cases h
theorem sqT {K : PySem.W.Frag} {H : Hp} {a : Addr} {xs : List V} (h : H a = some (.tup xs)) : SqT K H a xs := .inl (.inl h)
theorem at0 {x : V} {r : List V} : atI (x :: r) 0 = some x := atI_nat (j := 0) rfl
theorem at1 {x y : V} {r : List V} : atI (x :: y :: r) 1 = some y := atI_nat (j := 1) rfl
theorem at2 {x y z : V} {r : List V} : atI (x :: y :: z :: r) 2 = some z := atI_nat (j := 2) rfl
theorem at3 {x y z w : V} {r : List V} : atI (x :: y :: z :: w :: r) 3 = some w := atI_nat (j := 3) rfl
theorem within_int {d : PyData} {lo hi : Int} (h : within d lo hi = true) : ∃ i, d = .int i ∧ lo ≤ i ∧ i ≤ hi := by
  cases d with
  | int i =>
    have z : (decide (lo ≤ i) && decide (i ≤ hi)) = true := h
    simp only [Bool.and_eq_true, decide_eq_true_eq] at z
    exact ⟨i, rfl, z.1, z.2⟩
  | _ => cases h
theorem tupFull_tup {d : PyData} (h : tupFull d = true) : ∃ ds, d = .tuple ds ∧ 0 < ds.length := by
  cases d with
  | tuple ds => exact ⟨ds, rfl, of_decide_eq_true h⟩
  | _ => cases h
theorem dnl_ints {H : Hp} : ∀ {ns : List Int} {xs : List V}, DnL H (ns.map PyData.int) xs → xs = ns.map V.int
  | [], xs, h => h
  | n :: r, _, ⟨x, t, rfl, hx, ht⟩ => by rw [dnl_ints ht, dn_int hx]; rfl
theorem ints_dnl {H : Hp} : ∀ (ns : List Int), DnL H (ns.map PyData.int) (ns.map V.int)
  | [] => rfl
  | n :: r => ⟨_, _, rfl, rfl, ints_dnl r⟩
end Wd

set_option maxRecDepth 100000
set_option maxHeartbeats 4000000
namespace Ow
open PySem L2 Wd
-- woods
/-! ### the program's looks -/
-- woods2
-- woods3a
/-- a wood in the heap -/
structure WoodAt (H : Hp) (wd : Addr) (many : Int) (xs ys : List V) : Prop where
  ex : ∃ tb tc, H wd = some (.tup [.int many, .ref tb, .ref tc]) ∧ H tb = some (.tup xs) ∧ H tc = some (.tup ys)
def spMany : Sp := fun vs H Q _ => ∃ (wd : Addr) (many : Int) (xs ys : List V), vs = [.ref wd] ∧ WoodAt H wd many xs ys ∧ Q (.int ((xs.length : Int) + (ys.length : Int))) H
def spTieAt : Sp := fun vs H Q _ => ∃ (wd : Addr) (many : Int) (xs ys : List V) (t : Nat) (v : V), vs = [.ref wd, .int t] ∧ WoodAt H wd many xs ys ∧ (xs ++ ys)[t]? = some v ∧ Q v H
theorem flatMap_take {α β : Type} {f : α → List β} {ds : List α} {i : Nat} {d : α} (h : ds[i]? = some d) : (ds.take (i + 1)).flatMap f = (ds.take i).flatMap f ++ f d := by
  obtain ⟨hi, e⟩ := List.getElem?_eq_some_iff.mp h
  rw [List.take_succ_eq_append_getElem hi, List.flatMap_append, e]
  simp
-- woods3t
-- laws
/-! ### the statement's own helpers -/
/-- data of tuples, texts and ints alone, so deep at most -/
def flatD : Nat → PyData → Bool
  | _, .int _ => true
  | _, .str s => PyData.strOk s
  | n + 1, .tuple ds => decide (ds.length ≤ 1000) && ds.all (flatD n)
  | _, _ => false
/-! a tie made -/
theorem mod_near {many one x : Int} (h1 : 1 < many) (h9 : many ≤ 9) (o0 : 0 ≤ one) (o1 : one < many) (x0 : 0 ≤ x) (x1 : x < many - 1) : 0 ≤ (one + 1 + x) % many ∧ (one + 1 + x) % many < many ∧ one ≠ (one + 1 + x) % many := by
  have e : many = 2 ∨ many = 3 ∨ many = 4 ∨ many = 5 ∨ many = 6 ∨ many = 7 ∨ many = 8 ∨ many = 9 := by omega
  rcases e with rfl | rfl | rfl | rfl | rfl | rfl | rfl | rfl <;> omega
theorem strOk_most : PyData.strOk ("most" : Str) = true := by decide +kernel
theorem strOk_needs : PyData.strOk ("needs" : Str) = true := by decide +kernel
theorem strOk_bans : PyData.strOk ("bans" : Str) = true := by decide +kernel
/-- the pairs of a most tie so far: options below i, rising -/
structure PairsTo (H : Hp) (i : Nat) (ps : List PyData) (xs : List V) : Prop where
  dn : DnL H ps xs
  ok : ps.all pairOk = true
  flat : ps.all (flatD 1) = true
  ris : rising (i : Int) (ps.map fstD) (-1) = true
  few : ps.length ≤ i
theorem rising_mono {m m' : Int} (h : m ≤ m') : ∀ {ks : List PyData} {u : Int}, rising m ks u = true → rising m' ks u = true
  | [], _, _ => rfl
  | .int i :: ks, u, z => by
    have z' : (decide (u + 1 ≤ i) && decide (i ≤ m - 1) && rising m ks i) = true := z
    show (decide (u + 1 ≤ i) && decide (i ≤ m' - 1) && rising m' ks i) = true
    simp only [Bool.and_eq_true, decide_eq_true_eq] at z' ⊢
    exact ⟨⟨z'.1.1, by omega⟩, rising_mono h z'.2⟩
  | .none :: _, _, z => by cases z
  | .bool _ :: _, _, z => by cases z
  | .str _ :: _, _, z => by cases z
  | .list _ :: _, _, z => by cases z
  | .tuple _ :: _, _, z => by cases z
  | .dict _ :: _, _, z => by cases z
theorem rising_snoc {m j : Int} (h : j < m) : ∀ {ks : List PyData} {u : Int}, rising j ks u = true → u < j → rising m (ks ++ [.int j]) u = true
  | [], u, _, hu => by
    show (decide (u + 1 ≤ j) && decide (j ≤ m - 1) && true) = true
    rw [decide_eq_true (by omega), decide_eq_true (by omega)]
    rfl
  | .int i :: ks, u, z, hu => by
    have z' : (decide (u + 1 ≤ i) && decide (i ≤ j - 1) && rising j ks i) = true := z
    show (decide (u + 1 ≤ i) && decide (i ≤ m - 1) && rising m (ks ++ [.int j]) i) = true
    simp only [Bool.and_eq_true, decide_eq_true_eq] at z' ⊢
    exact ⟨⟨z'.1.1, by omega⟩, rising_snoc h z'.2 (by omega)⟩
  | .none :: _, _, z, _ => by cases z
  | .bool _ :: _, _, z, _ => by cases z
  | .str _ :: _, _, z, _ => by cases z
  | .list _ :: _, _, z, _ => by cases z
  | .tuple _ :: _, _, z, _ => by cases z
  | .dict _ :: _, _, z, _ => by cases z
theorem DnL.keepT {H H' : Hp} {f : PyData → Bool} (k : ∀ d v, f d = true → Dn H d v → Dn H' d v) : ∀ (ds : List PyData) (xs : List V), ds.all f = true → DnL H ds xs → DnL H' ds xs
  | [], _, _, q => q
  | d :: ds, _, c, ⟨x, r, e, q, z⟩ => by
    rw [List.all_cons, Bool.and_eq_true] at c
    exact ⟨x, r, e, k d x c.1 q, DnL.keepT k ds r c.2 z⟩
theorem Dn.keepT {H H' : Hp} (h : ∀ b xs, H b = some (.tup xs) → H' b = some (.tup xs)) : ∀ (n : Nat) (d : PyData) (v : V), flatD n d = true → Dn H d v → Dn H' d v
  | _, .int _, _, _, q => q
  | _, .str _, _, _, q => q
  | n + 1, .tuple ds, _, c, ⟨p, xs, e, q, z⟩ => ⟨p, xs, e, h _ _ q, DnL.keepT (Dn.keepT h n) ds xs ((Bool.and_eq_true _ _).mp c).2 z⟩
  | 0, .tuple ds, _, c, _ => by cases c
  | 0, .none, _, c, _ => by cases c
  | n + 1, .none, _, c, _ => by cases c
  | 0, .bool _, _, c, _ => by cases c
  | n + 1, .bool _, _, c, _ => by cases c
  | 0, .list _, _, c, _ => by cases c
  | n + 1, .list _, _, c, _ => by cases c
  | 0, .dict _, _, c, _ => by cases c
  | n + 1, .dict _, _, c, _ => by cases c
theorem keep_lst {H : Hp} {p : Addr} {xs ys : List V} (h : H p = some (.lst xs)) : ∀ b zs, H b = some (.tup zs) → upd H p (.lst ys) b = some (.tup zs) := fun b zs q => by
  rw [upd_ne (ne_of q h (by intro z; cases z))]
  exact q
-- boughs
/-! ### the boughs made -/
structure Grp where
  t : Addr
  up : Int
  l : Addr
  kids : List Int
/-- the groups stand at g; H0 is the heap at the entry -/
structure GAt (H0 H : Hp) (g : Addr) (gs : List Grp) : Prop where
  at_ : H g = some (.lst (gs.map fun x => V.ref x.t))
  new : H0 g = none
  tup : ∀ x ∈ gs, H x.t = some (.tup [.int x.up, .ref x.l])
  lst : ∀ x ∈ gs, H x.l = some (.lst (x.kids.map V.int)) ∧ H0 x.l = none ∧ g ≠ x.l
  nd : (gs.map (·.l)).Nodup
/-- what holds of the groups when the options below k are dealt out -/
structure GOk (k : Int) (gs : List Grp) : Prop where
  each : ∀ x ∈ gs, 0 ≤ x.up ∧ x.kids ≠ [] ∧ rising k (x.kids.map PyData.int) x.up = true
  perm : (gs.flatMap (·.kids)).Perm ((List.range' 0 (k - 1).toNat).map fun i : Nat => (1 : Int) + i)
theorem GOk.few {k : Int} {gs : List Grp} (G : GOk k gs) : gs.length ≤ (k - 1).toNat := by
  have e := G.perm.length_eq
  rw [List.length_map, List.length_range'] at e
  rw [← e]
  have go : ∀ l : List Grp, (∀ x ∈ l, x.kids ≠ []) → l.length ≤ (l.flatMap (·.kids)).length := by
    intro l
    induction l with
    | nil => intro _; exact Nat.le_refl _
    | cons x r ih =>
      intro h
      rw [List.flatMap_cons, List.length_append, List.length_cons]
      have h1 := List.length_pos_iff.mpr (h x List.mem_cons_self)
      have h2 := ih fun y hy => h y (List.mem_cons_of_mem _ hy)
      omega
  exact go gs fun x hx => (G.each x hx).2.1
theorem range_snoc (k : Nat) : ((List.range' 0 k).map fun i : Nat => (1 : Int) + i) ++ [((k : Int) + 1)] = (List.range' 0 (k + 1)).map fun i : Nat => (1 : Int) + i := by
  rw [List.range'_concat, List.map_append]
  simp
  omega
theorem GOk.new {k : Nat} {gs : List Grp} {t l : Addr} {u : Int} (G : GOk ((k : Int) + 1) gs) (u0 : 0 ≤ u) (u1 : u < (k : Int) + 1) : GOk ((k : Int) + 2) (gs ++ [⟨t, u, l, [(k : Int) + 1]⟩]) where
  each := fun x hx => by
    rcases List.mem_append.mp hx with z | z
    · obtain ⟨a, b, c⟩ := G.each x z
      exact ⟨a, b, rising_mono (by omega) c⟩
    · rw [List.mem_singleton.mp z]
      refine ⟨u0, by simp, ?_⟩
      show (decide (u + 1 ≤ (k : Int) + 1) && decide ((k : Int) + 1 ≤ (k : Int) + 2 - 1) && true) = true
      rw [decide_eq_true (by omega), decide_eq_true (by omega)]
      rfl
  perm := by
    rw [List.flatMap_append]
    have e : ((k : Int) + 2 - 1).toNat = k + 1 := by omega
    have e' : ((k : Int) + 1 - 1).toNat = k := by omega
    have p := G.perm
    rw [e'] at p
    rw [e, ← range_snoc]
    exact p.append (by simp)
theorem GOk.put {k : Nat} {pre post : List Grp} {x : Grp} (G : GOk ((k : Int) + 1) (pre ++ x :: post)) : GOk ((k : Int) + 2) (pre ++ ⟨x.t, x.up, x.l, x.kids ++ [(k : Int) + 1]⟩ :: post) where
  each := fun y hy => by
    have old : ∀ z ∈ pre ++ x :: post, 0 ≤ z.up ∧ z.kids ≠ [] ∧ rising ((k : Int) + 2) (z.kids.map PyData.int) z.up = true := fun z hz => by
      obtain ⟨a, b, c⟩ := G.each z hz
      exact ⟨a, b, rising_mono (by omega) c⟩
    rcases List.mem_append.mp hy with z | z
    · exact old y (List.mem_append_left _ z)
    · rcases List.mem_cons.mp z with z | z
      · subst z
        obtain ⟨a, b, c⟩ := G.each x (by simp)
        refine ⟨a, by simp, ?_⟩
        show rising ((k : Int) + 2) ((x.kids ++ [(k : Int) + 1]).map PyData.int) x.up = true
        rw [List.map_append]
        refine rising_snoc (by omega) c ?_
        cases hk : x.kids with
        | nil => exact absurd hk b
        | cons n r =>
          rw [hk] at c
          have c' : (decide (x.up + 1 ≤ n) && decide (n ≤ (k : Int) + 1 - 1) && rising ((k : Int) + 1) (r.map PyData.int) n) = true := c
          simp only [Bool.and_eq_true, decide_eq_true_eq] at c'
          omega
      · exact old y (by simp [z])
  perm := by
    have e : ((k : Int) + 2 - 1).toNat = k + 1 := by omega
    have e' : ((k : Int) + 1 - 1).toNat = k := by omega
    have p := G.perm
    rw [e'] at p
    rw [e, ← range_snoc]
    refine List.Perm.trans ?_ (p.append (List.Perm.refl [((k : Int) + 1)]))
    rw [List.flatMap_append, List.flatMap_append, List.flatMap_cons, List.flatMap_cons, List.append_assoc, List.append_assoc, List.append_assoc]
    exact (List.Perm.refl _).append ((List.Perm.refl _).append List.perm_append_comm)
theorem GAt.put {H0 H : Hp} {g : Addr} {pre post : List Grp} {x : Grp} {k : Int} (G : GAt H0 H g (pre ++ x :: post)) : GAt H0 (upd H x.l (.lst (x.kids.map V.int ++ [.int k]))) g (pre ++ ⟨x.t, x.up, x.l, x.kids ++ [k]⟩ :: post) := by
  have hx : x ∈ pre ++ x :: post := by simp
  obtain ⟨a, b, c⟩ := G.lst x hx
  have nd := G.nd
  rw [List.map_append, List.map_cons] at nd
  obtain ⟨_, n2, n3⟩ := List.nodup_append.mp nd
  have oth : ∀ y, y ∈ pre ∨ y ∈ post → y.l ≠ x.l := fun y hy e => by
    rcases hy with hy | hy
    · exact n3 y.l (List.mem_map.mpr ⟨y, hy, rfl⟩) x.l (by simp) e
    · exact (List.nodup_cons.mp n2).1 (by rw [← e]; exact List.mem_map.mpr ⟨y, hy, rfl⟩)
  have mem : ∀ y ∈ pre ++ (⟨x.t, x.up, x.l, x.kids ++ [k]⟩ : Grp) :: post, (y ∈ pre ∨ y ∈ post) ∨ y = ⟨x.t, x.up, x.l, x.kids ++ [k]⟩ := fun y hy => by
    rcases List.mem_append.mp hy with z | z
    · exact .inl (.inl z)
    · rcases List.mem_cons.mp z with z | z
      · exact .inr z
      · exact .inl (.inr z)
  have old : ∀ y, y ∈ pre ∨ y ∈ post → y ∈ pre ++ x :: post := fun y hy => by
    rcases hy with z | z <;> simp [z]
  refine ⟨?_, G.new, fun y hy => ?_, fun y hy => ?_, ?_⟩
  · rw [upd_ne c, G.at_, List.map_append, List.map_append, List.map_cons, List.map_cons]
  · rcases mem y hy with z | rfl
    · rw [upd_ne (ne_of (G.tup y (old y z)) a (by intro q; cases q))]
      exact G.tup y (old y z)
    · show upd H x.l _ x.t = _
      rw [upd_ne (ne_of (G.tup x hx) a (by intro q; cases q))]
      exact G.tup x hx
  · rcases mem y hy with z | rfl
    · obtain ⟨a', b', c'⟩ := G.lst y (old y z)
      refine ⟨?_, b', c'⟩
      rw [upd_ne (oth y z)]
      exact a'
    · refine ⟨?_, b, c⟩
      show upd H x.l _ x.l = _
      rw [upd_same, List.map_append]
      rfl
  · have e : (pre ++ (⟨x.t, x.up, x.l, x.kids ++ [k]⟩ : Grp) :: post).map (·.l) = (pre ++ x :: post).map (·.l) := by
      rw [List.map_append, List.map_append, List.map_cons, List.map_cons]
    rw [e]
    exact G.nd
/-- the bough of a group -/
def bghD (u lo hi : Int) (kids : List Int) : PyData := .tuple [.int u, .int lo, .int hi, .tuple (kids.map PyData.int)]
theorem bgh_ok {m u lo hi : Int} {kids : List Int} (u0 : 0 ≤ u) (ne : kids ≠ []) (r : rising m (kids.map PyData.int) u = true) (l0 : 0 ≤ lo) (l1 : lo ≤ hi) (h0 : 1 ≤ hi) (h1 : hi ≤ kids.length) : isBough m (bghD u lo hi kids) = true := by
  have u1 : u ≤ m - 1 := by
    cases hk : kids with
    | nil => exact absurd hk ne
    | cons n t =>
      rw [hk] at r
      have c' : (decide (u + 1 ≤ n) && decide (n ≤ m - 1) && rising m (t.map PyData.int) n) = true := r
      simp only [Bool.and_eq_true, decide_eq_true_eq] at c'
      omega
  show (within (.int u) 0 (m - 1) && (tupFull (.tuple (kids.map PyData.int)) && (rising m (kids.map PyData.int) u && (within (.int hi) 1 ((kids.map PyData.int).length : Nat) && within (.int lo) 0 hi)))) = true
  have e1 : within (.int u) 0 (m - 1) = true := by
    show (decide (0 ≤ u) && decide (u ≤ m - 1)) = true
    rw [decide_eq_true u0, decide_eq_true u1]
    rfl
  have e2 : tupFull (.tuple (kids.map PyData.int)) = true := by
    refine decide_eq_true ?_
    rw [List.length_map]
    exact List.length_pos_iff.mpr ne
  have e3 : within (.int hi) 1 ((kids.map PyData.int).length : Nat) = true := by
    show (decide (1 ≤ hi) && decide (hi ≤ ((kids.map PyData.int).length : Nat))) = true
    rw [List.length_map, decide_eq_true h0, decide_eq_true h1]
    rfl
  have e4 : within (.int lo) 0 hi = true := by
    show (decide (0 ≤ lo) && decide (lo ≤ hi)) = true
    rw [decide_eq_true l0, decide_eq_true l1]
    rfl
  rw [e1, e2, r, e3, e4]
  rfl
theorem flat_ints1 (kids : List Int) : (kids.map PyData.int).all (flatD 1) = true := by
  rw [List.all_eq_true]
  intro x hx
  obtain ⟨i, _, rfl⟩ := List.mem_map.mp hx
  rfl
theorem bgh_flat (u lo hi : Int) (kids : List Int) (h : kids.length ≤ 1000) : flatD 3 (bghD u lo hi kids) = true := by
  show (true && (true && (true && (true && ((decide ((kids.map PyData.int).length ≤ 1000) && (kids.map PyData.int).all (flatD 1)) && true))))) = true
  rw [flat_ints1, List.length_map, decide_eq_true h]
  rfl
theorem bgh_kids (u lo hi : Int) (kids : List Int) : kidsOf (bghD u lo hi kids) = kids := by
  show (kids.map PyData.int).map toI = kids
  rw [List.map_map]
  have : (toI ∘ PyData.int) = id := rfl
  rw [this, List.map_id]

theorem cut_rot {α : Type} (f : α → V) (xs : List α) (t : Nat) (h : t ≤ xs.length) : cutV (xs.map f) (some (t : Int)) none ++ cutV (xs.map f) none (some (t : Int)) = (xs.drop t ++ xs.take t).map f := by
  unfold cutV
  rw [HT.sIx_nat, HT.sIx_nat, HT.sIx_none, HT.sIx_none, List.length_map, Nat.min_eq_left h, List.drop_zero, List.map_append, List.map_drop, List.map_take, Nat.sub_zero]
  congr 1
  rw [List.take_of_length_le]
  rw [List.length_drop, List.length_map]
  exact Nat.le_refl _
end Ow

/-! ### Ties and sets: the mathematics -/
namespace Wd
inductive Tie where
  | bough (u : Nat) (lo hi : Int) (ks : List Nat)
  | needs (a b : Nat)
  | bans (a b : Nat)
  | most (top : Int) (ps : List (Nat × Int))
def cnt (ks : List Nat) (s : Nat) : Nat := (ks.filter fun k => s.testBit k).length
def sumP (ps : List (Nat × Int)) (f : Nat × Int → Bool) : Int := ((ps.filter f).map (·.2)).sum
def Tie.keep : Tie → Nat → Bool
  | .bough u lo hi ks, s => if s.testBit u = true then decide (lo ≤ (cnt ks s : Int)) && decide ((cnt ks s : Int) ≤ hi) else decide (cnt ks s = 0)
  | .needs a b, s => !s.testBit a || s.testBit b
  | .bans a b, s => !s.testBit a || !s.testBit b
  | .most top ps, s => decide (sumP ps (fun p => s.testBit p.1) ≤ top)
structure Tie.BoughOkW (m u : Nat) (lo hi : Int) (ks : List Nat) : Prop where
  um : u < m
  ks0 : ks ≠ []
  up : ∀ k ∈ ks, u < k ∧ k < m
  ris : ks.Pairwise (· < ·)
  few : ks.length ≤ m
  lo0 : 0 ≤ lo
  lohi : lo ≤ hi
structure Tie.BoughOk (m u : Nat) (lo hi : Int) (ks : List Nat) : Prop extends Tie.BoughOkW m u lo hi ks where
  hi1 : 1 ≤ hi
  hik : hi ≤ ks.length
theorem Tie.BoughOkW.nd {m u : Nat} {lo hi : Int} {ks : List Nat} (h : Tie.BoughOkW m u lo hi ks) : ks.Nodup := h.ris.imp fun a => Nat.ne_of_lt a
def Tie.Ok (m : Nat) : Tie → Prop
  | .bough u lo hi ks => Tie.BoughOkW m u lo hi ks
  | .needs a b => a < m ∧ b < m ∧ a ≠ b
  | .bans a b => a < m ∧ b < m ∧ a ≠ b
  | .most _ ps => ps ≠ [] ∧ (∀ p ∈ ps, p.1 < m) ∧ (ps.map (·.1)).Pairwise (· < ·) ∧ ps.length ≤ m
/-- a set lies in a stand -/
def InS (y n s : Nat) : Prop := (∀ k, y.testBit k = true → s.testBit k = true) ∧ ∀ k, n.testBit k = true → s.testBit k = false
def leastSum (ps : List (Nat × Int)) (y n : Nat) : Int := sumP ps fun p => y.testBit p.1 || (decide (p.2 < 0) && !n.testBit p.1)
def Tie.sb : Tie → Nat → Nat → Bool
  | .needs a b, y, n => y.testBit a && n.testBit b
  | .bans a b, y, n => y.testBit a && y.testBit b
  | .most top ps, y, n => decide (top < leastSum ps y n)
  | .bough u lo hi ks, y, n => !(!n.testBit u && (decide ((cnt ks y : Int) ≤ hi) && decide (lo ≤ (ks.length : Int) - cnt ks n))) && !(!y.testBit u && decide (cnt ks y = 0))
theorem sumP_cons (p : Nat × Int) (r : List (Nat × Int)) (f : Nat × Int → Bool) : sumP (p :: r) f = (if f p = true then p.2 else 0) + sumP r f := by
  unfold sumP
  by_cases h : f p = true
  · rw [List.filter_cons_of_pos h, if_pos h]; simp
  · rw [List.filter_cons_of_neg h, if_neg h]; simp
theorem sumP_le {f g : Nat × Int → Bool} : ∀ {ps : List (Nat × Int)}, (∀ p ∈ ps, (if f p = true then p.2 else 0) ≤ (if g p = true then p.2 else 0)) → sumP ps f ≤ sumP ps g
  | [], _ => Int.le_refl _
  | p :: r, h => by
    rw [sumP_cons, sumP_cons]
    have h1 := h p List.mem_cons_self
    have h2 := sumP_le (ps := r) fun q hq => h q (List.mem_cons_of_mem _ hq)
    omega
theorem sumP_eq {f g : Nat × Int → Bool} {ps : List (Nat × Int)} (h : ∀ p ∈ ps, f p = g p) : sumP ps f = sumP ps g := by
  unfold sumP
  rw [List.filter_congr h]
theorem cnt_cons (k : Nat) (r : List Nat) (s : Nat) : cnt (k :: r) s = (if s.testBit k = true then 1 else 0) + cnt r s := by
  unfold cnt
  by_cases h : s.testBit k = true
  · rw [List.filter_cons_of_pos (p := fun k => s.testBit k) h, if_pos h, List.length_cons]; omega
  · rw [List.filter_cons_of_neg (p := fun k => s.testBit k) h, if_neg h]; omega
theorem cnt_congr {ks : List Nat} {s t : Nat} (h : ∀ k ∈ ks, s.testBit k = t.testBit k) : cnt ks s = cnt ks t := by
  unfold cnt
  rw [List.filter_congr h]
theorem cnt_mono {s t : Nat} : ∀ {ks : List Nat}, (∀ k ∈ ks, s.testBit k = true → t.testBit k = true) → cnt ks s ≤ cnt ks t
  | [], _ => Nat.le_refl _
  | k :: r, h => by
    rw [cnt_cons, cnt_cons]
    have h2 := cnt_mono (ks := r) fun q hq => h q (List.mem_cons_of_mem _ hq)
    have h1 := h k List.mem_cons_self
    by_cases c : s.testBit k = true
    · rw [if_pos c, if_pos (h1 c)]; omega
    · rw [if_neg c]; omega
/-- those of yes and those of no are no more than all -/
theorem cnt_two {s n : Nat} : ∀ {ks : List Nat}, (∀ k ∈ ks, n.testBit k = true → s.testBit k = false) → cnt ks s + cnt ks n ≤ ks.length
  | [], _ => Nat.le_refl _
  | k :: r, h => by
    rw [cnt_cons, cnt_cons, List.length_cons]
    have h2 := cnt_two (ks := r) fun q hq => h q (List.mem_cons_of_mem _ hq)
    have h1 := h k List.mem_cons_self
    by_cases c : n.testBit k = true
    · rw [h1 c, if_pos c]; simp; omega
    · rw [if_neg c]; split <;> omega
/-- a set by a predicate -/
def maskL : List Nat → Nat
  | [] => 0
  | k :: r => maskL r ||| 2 ^ k
theorem maskL_bit (j : Nat) : ∀ l : List Nat, (maskL l).testBit j = decide (j ∈ l)
  | [] => by simp [maskL]
  | k :: r => by
    rw [maskL, Nat.testBit_or, maskL_bit j r, Nat.testBit_two_pow]
    by_cases h : k = j
    · subst h; simp
    · have h' : j ≠ k := fun z => h z.symm
      simp [h, h']
theorem nodup_fst {ps : List (Nat × Int)} (h : (ps.map (·.1)).Nodup) {p q : Nat × Int} (hp : p ∈ ps) (hq : q ∈ ps) (e : p.1 = q.1) : p = q := by
  induction ps with
  | nil => cases hp
  | cons x r ih =>
    rw [List.map_cons, List.nodup_cons] at h
    rcases List.mem_cons.mp hp with e1 | hp
    · rcases List.mem_cons.mp hq with e2 | hq
      · rw [e1, e2]
      · exact absurd (show x.1 ∈ r.map (·.1) from List.mem_map.mpr ⟨q, hq, by rw [← e1, e]⟩) h.1
    · rcases List.mem_cons.mp hq with e2 | hq
      · exact absurd (show x.1 ∈ r.map (·.1) from List.mem_map.mpr ⟨p, hp, by rw [← e2, e]⟩) h.1
      · exact ih h.2 hp hq
theorem keep_congr {m : Nat} {t : Tie} (ok : t.Ok m) {s s' : Nat} (h : ∀ k, k < m → s.testBit k = s'.testBit k) : t.keep s = t.keep s' := by
  cases t with
  | bough u lo hi ks =>
    have e : cnt ks s = cnt ks s' := cnt_congr fun k hk => h k (ok.up k hk).2
    simp only [Tie.keep]
    rw [e, h u ok.um]
  | needs a b => simp only [Tie.keep]; rw [h a ok.1, h b ok.2.1]
  | bans a b => simp only [Tie.keep]; rw [h a ok.1, h b ok.2.1]
  | most top ps =>
    simp only [Tie.keep]
    rw [sumP_eq fun p hp => h p.1 (ok.2.1 p hp)]
/-- y with some more options -/
theorem inS_more {y n : Nat} {l : List Nat} (d : ∀ k, y.testBit k = true → n.testBit k = false) (h : ∀ k ∈ l, n.testBit k = false) : InS y n (y ||| maskL l) := by
  refine ⟨fun k hk => ?_, fun k hk => ?_⟩
  · rw [Nat.testBit_or, hk, Bool.true_or]
  · rw [Nat.testBit_or, maskL_bit]
    have h1 : y.testBit k = false := by
      cases e : y.testBit k with
      | false => rfl
      | true => rw [d k e] at hk; cases hk
    have h2 : ¬ k ∈ l := fun z => by rw [h k z] at hk; cases hk
    rw [h1, decide_eq_false h2]; rfl
theorem bit_more (y : Nat) (l : List Nat) (k : Nat) : (y ||| maskL l).testBit k = (y.testBit k || decide (k ∈ l)) := by
  rw [Nat.testBit_or, maskL_bit]
theorem cnt_add {y : Nat} : ∀ {ks : List Nat}, ks.Nodup → ∀ c : Nat, cnt ks y ≤ c → ∀ n : Nat, (∀ k, y.testBit k = true → n.testBit k = false) → c + cnt ks n ≤ ks.length →
    ∃ l : List Nat, (∀ k ∈ l, k ∈ ks ∧ n.testBit k = false) ∧ cnt ks (y ||| maskL l) = c
  | [], _, c, h1, n, _, h2 => ⟨[], (fun _ z => nomatch z), by simp [cnt] at h2 ⊢; omega⟩
  | k :: r, nd, c, h1, n, d, h2 => by
    obtain ⟨nk, nr⟩ := List.nodup_cons.mp nd
    rw [cnt_cons] at h1 h2
    rw [List.length_cons] at h2
    by_cases hy : y.testBit k = true
    · rw [if_pos hy] at h1
      have hn := d k hy
      rw [hn] at h2
      obtain ⟨l, hl, e⟩ := cnt_add nr (c - 1) (by omega) n d (by simp at h2; omega)
      refine ⟨l, fun j hj => ⟨List.mem_cons_of_mem _ (hl j hj).1, (hl j hj).2⟩, ?_⟩
      rw [cnt_cons, e, bit_more, hy, Bool.true_or, if_pos rfl]
      omega
    · rw [if_neg hy] at h1
      by_cases hn : n.testBit k = true
      · rw [if_pos hn] at h2
        obtain ⟨l, hl, e⟩ := cnt_add nr c (by omega) n d (by omega)
        refine ⟨l, fun j hj => ⟨List.mem_cons_of_mem _ (hl j hj).1, (hl j hj).2⟩, ?_⟩
        have : ¬ k ∈ l := fun z => nk (hl k z).1
        rw [cnt_cons, e, bit_more, Bool.eq_false_iff.mpr hy, decide_eq_false this]
        simp
      · rw [if_neg hn] at h2
        by_cases full : c + cnt r n ≤ r.length
        · obtain ⟨l, hl, e⟩ := cnt_add nr c (by omega) n d full
          refine ⟨l, fun j hj => ⟨List.mem_cons_of_mem _ (hl j hj).1, (hl j hj).2⟩, ?_⟩
          have : ¬ k ∈ l := fun z => nk (hl k z).1
          rw [cnt_cons, e, bit_more, Bool.eq_false_iff.mpr hy, decide_eq_false this]
          simp
        · have hc : cnt r y + cnt r n ≤ r.length := cnt_two fun j _ hj => by
            cases e : y.testBit j with
            | false => rfl
            | true => rw [d j e] at hj; cases hj
          obtain ⟨l, hl, e⟩ := cnt_add nr (c - 1) (by omega) n d (by omega)
          refine ⟨k :: l, fun j hj => ?_, ?_⟩
          · rcases List.mem_cons.mp hj with rfl | z
            · exact ⟨List.mem_cons_self, Bool.eq_false_iff.mpr hn⟩
            · exact ⟨List.mem_cons_of_mem _ (hl j z).1, (hl j z).2⟩
          · have e2 : cnt r (y ||| maskL (k :: l)) = cnt r (y ||| maskL l) := cnt_congr fun j hj => by
              have : j ≠ k := fun z => nk (z ▸ hj)
              rw [bit_more, bit_more]
              simp [this]
            rw [cnt_cons, e2, e, bit_more, decide_eq_true List.mem_cons_self, Bool.or_true, if_pos rfl]
            omega
/-- for sure broken, told by all sets in the stand -/
theorem sb_iff {m : Nat} {t : Tie} (ok : t.Ok m) {y n : Nat} (d : ∀ k, y.testBit k = true → n.testBit k = false) : t.sb y n = true ↔ ∀ s, InS y n s → t.keep s = false := by
  have dn : ∀ k, n.testBit k = true → y.testBit k = false := fun k hk => by
    cases e : y.testBit k with
    | false => rfl
    | true => rw [d k e] at hk; cases hk
  cases t with
  | needs a b =>
    constructor
    · intro h s hs
      have h' : (y.testBit a && n.testBit b) = true := h
      rw [Bool.and_eq_true] at h'
      show (!s.testBit a || s.testBit b) = false
      rw [hs.1 a h'.1, hs.2 b h'.2]; rfl
    · intro h
      show (y.testBit a && n.testBit b) = true
      cases e1 : y.testBit a with
      | false =>
        have hh := h y ⟨fun _ z => z, dn⟩
        have h2 : (!y.testBit a || y.testBit b) = false := hh
        rw [e1] at h2; cases h2
      | true =>
        cases e2 : n.testBit b with
        | true => rfl
        | false =>
          have h2 : (!(y ||| maskL [b]).testBit a || (y ||| maskL [b]).testBit b) = false := h _ (inS_more d fun k hk => by rw [List.mem_singleton.mp hk]; exact e2)
          rw [bit_more y [b] b, decide_eq_true (List.mem_singleton.mpr rfl), Bool.or_true, Bool.or_true] at h2
          cases h2
  | bans a b =>
    constructor
    · intro h s hs
      have h' : (y.testBit a && y.testBit b) = true := h
      rw [Bool.and_eq_true] at h'
      show (!s.testBit a || !s.testBit b) = false
      rw [hs.1 a h'.1, hs.1 b h'.2]; rfl
    · intro h
      have h2 : (!y.testBit a || !y.testBit b) = false := h y ⟨fun _ z => z, dn⟩
      show (y.testBit a && y.testBit b) = true
      cases e1 : y.testBit a <;> cases e2 : y.testBit b <;> rw [e1, e2] at h2 <;> simp_all
  | most top ps =>
    constructor
    · intro h s hs
      have h' : top < leastSum ps y n := of_decide_eq_true h
      refine decide_eq_false fun z => ?_
      have le : leastSum ps y n ≤ sumP ps (fun p => s.testBit p.1) := sumP_le fun p _ => by
        cases e1 : y.testBit p.1 with
        | true => rw [hs.1 _ e1]; simp
        | false =>
          cases e2 : n.testBit p.1 with
          | true => rw [hs.2 _ e2]; simp
          | false =>
            by_cases c : p.2 < 0
            · simp [c]; split <;> omega
            · simp [c]; split <;> omega
      omega
    · intro h
      refine decide_eq_true ?_
      let l := (ps.filter fun p => decide (p.2 < 0) && !n.testBit p.1).map (·.1)
      have hl : ∀ k ∈ l, n.testBit k = false := fun k hk => by
        obtain ⟨p, hp, rfl⟩ := List.mem_map.mp hk
        have := (List.mem_filter.mp hp).2
        simp at this
        exact this.2
      have h2 : decide (sumP ps (fun p => (y ||| maskL l).testBit p.1) ≤ top) = false := h _ (inS_more d hl)
      have e : sumP ps (fun p => (y ||| maskL l).testBit p.1) = leastSum ps y n := sumP_eq fun p hp => by
        show (y ||| maskL l).testBit p.1 = (y.testBit p.1 || (decide (p.2 < 0) && !n.testBit p.1))
        rw [bit_more]
        congr 1
        by_cases c : (decide (p.2 < 0) && !n.testBit p.1) = true
        · rw [c]
          exact decide_eq_true (List.mem_map.mpr ⟨p, List.mem_filter.mpr ⟨hp, c⟩, rfl⟩)
        · rw [Bool.eq_false_iff.mpr c]
          refine decide_eq_false fun z => ?_
          obtain ⟨q, hq, e⟩ := List.mem_map.mp z
          have hq' := List.mem_filter.mp hq
          -- the options of the pairs are unlike
          have : q = p := nodup_fst (ok.2.2.1.imp fun a => Nat.ne_of_lt a) hq'.1 hp e
          rw [this] at hq'
          exact c hq'.2
      rw [e] at h2
      have := of_decide_eq_false h2
      omega
  | bough u lo hi ks =>
    have c2 : cnt ks y + cnt ks n ≤ ks.length := cnt_two fun j _ hj => dn j hj
    have uk : ¬ u ∈ ks := fun z => Nat.lt_irrefl _ (ok.up u z).1
    constructor
    · intro h s hs
      have h' : (!(!n.testBit u && (decide ((cnt ks y : Int) ≤ hi) && decide (lo ≤ (ks.length : Int) - cnt ks n))) && !(!y.testBit u && decide (cnt ks y = 0))) = true := h
      have g1 : cnt ks y ≤ cnt ks s := cnt_mono fun k _ hk => hs.1 k hk
      have g2 : cnt ks s + cnt ks n ≤ ks.length := cnt_two fun k _ hk => hs.2 k hk
      show (if s.testBit u = true then decide (lo ≤ (cnt ks s : Int)) && decide ((cnt ks s : Int) ≤ hi) else decide (cnt ks s = 0)) = false
      rw [Bool.and_eq_true] at h'
      by_cases su : s.testBit u = true
      · rw [if_pos su]
        have nu : n.testBit u = false := by
          cases e : n.testBit u with
          | false => rfl
          | true => rw [hs.2 u e] at su; cases su
        have h1 := h'.1
        rw [nu] at h1
        simp at h1
        by_cases z : (cnt ks y : Int) ≤ hi
        · rw [decide_eq_false (show ¬ lo ≤ (cnt ks s : Int) by omega), Bool.false_and]
        · rw [decide_eq_false (show ¬ (cnt ks s : Int) ≤ hi by omega), Bool.and_false]
      · rw [if_neg su]
        have yu : y.testBit u = false := by
          cases e : y.testBit u with
          | false => rfl
          | true => exact absurd (hs.1 u e) su
        have h2 := h'.2
        rw [yu] at h2
        simp at h2
        exact decide_eq_false (by omega)
    · intro h
      show (!(!n.testBit u && (decide ((cnt ks y : Int) ≤ hi) && decide (lo ≤ (ks.length : Int) - cnt ks n))) && !(!y.testBit u && decide (cnt ks y = 0))) = true
      rw [Bool.and_eq_true]
      constructor
      · cases e : (!n.testBit u && (decide ((cnt ks y : Int) ≤ hi) && decide (lo ≤ (ks.length : Int) - cnt ks n))) with
        | false => rfl
        | true =>
          exfalso
          simp only [Bool.and_eq_true, decide_eq_true_eq, Bool.not_eq_true'] at e
          obtain ⟨nu, e1, e2⟩ := e
          have hl0 := ok.lo0
          have hlh := ok.lohi
          obtain ⟨l, hl, ec⟩ := cnt_add (Tie.BoughOkW.nd ok) (max (cnt ks y) lo.toNat) (Nat.le_max_left _ _) n d (by omega)
          have hk := h (y ||| maskL (u :: l)) (inS_more d fun k hk => by
            rcases List.mem_cons.mp hk with rfl | z
            · exact nu
            · exact (hl k z).2)
          have hb : (y ||| maskL (u :: l)).testBit u = true := by rw [bit_more, decide_eq_true List.mem_cons_self, Bool.or_true]
          have ec2 : cnt ks (y ||| maskL (u :: l)) = max (cnt ks y) lo.toNat := by
            rw [← ec]
            refine cnt_congr fun j hj => ?_
            have : j ≠ u := fun z => uk (z ▸ hj)
            rw [bit_more, bit_more]
            simp [this]
          simp only [Tie.keep, hb, if_true, ec2] at hk
          rw [decide_eq_true (by omega), decide_eq_true (by omega)] at hk
          cases hk
      · cases e : (!y.testBit u && decide (cnt ks y = 0)) with
        | false => rfl
        | true =>
          exfalso
          simp only [Bool.and_eq_true, decide_eq_true_eq, Bool.not_eq_true'] at e
          have hk := h y ⟨fun _ z => z, dn⟩
          simp [Tie.keep, e.1, e.2] at hk
end Wd

set_option maxRecDepth 100000
set_option maxHeartbeats 4000000
/-! ### H. Ties as data -/
namespace Wd
open PySem L2
def pairD (p : Nat × Int) : PyData := .tuple [.int (p.1 : Int), .int p.2]
def Tie.toD : Tie → PyData
  | .bough u lo hi ks => .tuple [.int (u : Int), .int lo, .int hi, .tuple (ks.map fun k : Nat => PyData.int (k : Int))]
  | .needs a b => .tuple [.str ("needs" : Str), .int (a : Int), .int (b : Int)]
  | .bans a b => .tuple [.str ("bans" : Str), .int (a : Int), .int (b : Int)]
  | .most top ps => .tuple [.str ("most" : Str), .int top, .tuple (ps.map pairD)]
theorem rising_nats {m : Nat} : ∀ {ks : List PyData} {last : Int}, -1 ≤ last → last < m → rising m ks last = true →
    ∃ ns : List Nat, ks = ns.map (fun k : Nat => PyData.int (k : Int)) ∧ ns.Pairwise (· < ·) ∧ (∀ k ∈ ns, last < (k : Int) ∧ k < m) ∧ (ns.length : Int) + last + 1 ≤ m
  | [], last, h0, h1, _ => ⟨[], rfl, List.Pairwise.nil, (fun _ z => nomatch z), by simp; omega⟩
  | .int i :: ks, last, h0, h1, h => by
    have z : (decide (last + 1 ≤ i) && decide (i ≤ (m : Int) - 1) && rising m ks i) = true := h
    simp only [Bool.and_eq_true, decide_eq_true_eq] at z
    obtain ⟨ns, e, pw, ab, ln⟩ := rising_nats (by omega) (by omega) z.2
    obtain ⟨j, rfl⟩ : ∃ j : Nat, i = (j : Int) := ⟨i.toNat, by omega⟩
    refine ⟨j :: ns, by rw [e]; rfl, List.Pairwise.cons (fun k hk => ?_) pw, fun k hk => ?_, ?_⟩
    · have := (ab k hk).1; omega
    · rcases List.mem_cons.mp hk with rfl | hk
      · omega
      · have := ab k hk; omega
    · rw [List.length_cons]; omega
  | .none :: _, _, _, _, h => by cases h
  | .bool _ :: _, _, _, _, h => by cases h
  | .str _ :: _, _, _, _, h => by cases h
  | .list _ :: _, _, _, _, h => by cases h
  | .tuple _ :: _, _, _, _, h => by cases h
  | .dict _ :: _, _, _, _, h => by cases h
theorem tie_of_bough {m : Nat} {d : PyData} (h : isBough m d = true) : ∃ u lo hi ks, d = (Tie.bough u lo hi ks).toD ∧ Tie.BoughOk m u lo hi ks := by
  unfold isBough at h
  split at h
  next u l hd k =>
    simp only [Bool.and_eq_true] at h
    obtain ⟨hu, hk, hr, hh, hl⟩ := h
    obtain ⟨ui, rfl, u0, u1⟩ := within_int hu
    obtain ⟨kd, rfl, k0⟩ := tupFull_tup hk
    obtain ⟨hi, rfl, h0, h1⟩ := within_int (show within hd 1 kd.length = true from hh)
    obtain ⟨lo, rfl, l0, l1⟩ := within_int (show within l 0 hi = true from hl)
    obtain ⟨un, rfl⟩ : ∃ j : Nat, ui = (j : Int) := ⟨ui.toNat, by omega⟩
    obtain ⟨ns, rfl, pw, ab, ln⟩ := rising_nats (by omega) (by omega) (show rising m kd un = true from hr)
    rw [List.length_map] at k0 h1
    exact ⟨un, lo, hi, ns, rfl, ⟨⟨by omega, fun z => by rw [z] at k0; simp at k0, fun k hk => by have := ab k hk; omega, pw, by omega, l0, l1⟩, h0, h1⟩⟩
  next => cases h
theorem pairs_nats {m : Nat} : ∀ {ds : List PyData} {ns : List Nat}, ds.all pairOk = true → ds.map fstD = ns.map (fun k : Nat => PyData.int (k : Int)) → ∃ ps : List (Nat × Int), ds = ps.map pairD ∧ ps.map (·.1) = ns
  | [], [], _, _ => ⟨[], rfl, rfl⟩
  | [], _ :: _, _, e => by cases e
  | _ :: _, [], _, e => by cases e
  | d :: ds, n :: ns, h, e => by
    rw [List.all_cons, Bool.and_eq_true] at h
    rw [List.map_cons, List.map_cons] at e
    injection e with e1 e2
    obtain ⟨ps, rfl, rfl⟩ := pairs_nats (m := m) h.2 e2
    have h1 := h.1
    unfold pairOk at h1
    split at h1
    next x y =>
      obtain ⟨i, rfl⟩ := isW_int h1
      refine ⟨(n, i) :: ps, ?_, rfl⟩
      have e3 : x = PyData.int (n : Int) := e1
      rw [e3]
      rfl
    next => cases h1
theorem tie_of_cross {m : Nat} {d : PyData} (h : isTie m d = true) : ∃ t : Tie, d = t.toD ∧ t.Ok m ∧ ∀ u lo hi ks, t ≠ .bough u lo hi ks := by
  unfold isTie at h
  split at h
  next k x y =>
    unfold tieD at h
    split at h
    next s =>
      unfold tieK at h
      split at h
      next hs =>
        rw [Bool.and_eq_true] at h
        obtain ⟨top, rfl⟩ := isW_int h.1
        have h2 := h.2
        unfold arePairs at h2
        split at h2
        next ds =>
          simp only [Bool.and_eq_true, decide_eq_true_eq] at h2
          obtain ⟨⟨d0, dp⟩, dr⟩ := h2
          obtain ⟨ns, e, pw, ab, ln⟩ := rising_nats (by omega) (by omega) dr
          obtain ⟨ps, rfl, rfl⟩ := pairs_nats (m := m) dp e
          rw [List.length_map] at d0 ln
          refine ⟨.most top ps, by rw [hs]; rfl, ⟨fun z => by rw [z] at d0; simp at d0, fun p hp => (ab p.1 (List.mem_map.mpr ⟨p, hp, rfl⟩)).2, pw, by omega⟩, by intro _ _ _ _ z; cases z⟩
        next => cases h2
      next hs =>
        split at h
        next hn =>
          simp only [Bool.and_eq_true] at h
          obtain ⟨ha, hb, hne⟩ := h
          obtain ⟨a, rfl, a0, a1⟩ := within_int ha
          obtain ⟨b, rfl, b0, b1⟩ := within_int hb
          have ne : ¬ a = b := by
            have z : (!decide (a = b)) = true := hne
            simpa using z
          obtain ⟨an, rfl⟩ : ∃ j : Nat, a = (j : Int) := ⟨a.toNat, by omega⟩
          obtain ⟨bn, rfl⟩ : ∃ j : Nat, b = (j : Int) := ⟨b.toNat, by omega⟩
          rcases hn with rfl | rfl
          · exact ⟨.needs an bn, rfl, ⟨by omega, by omega, by omega⟩, by intro _ _ _ _ z; cases z⟩
          · exact ⟨.bans an bn, rfl, ⟨by omega, by omega, by omega⟩, by intro _ _ _ _ z; cases z⟩
        next => cases h
    next => cases h
  next => cases h
/-! what stands in the heap for a tie -/
theorem natsD (ks : List Nat) : (ks.map fun k : Nat => PyData.int (k : Int)) = (ks.map fun k : Nat => (k : Int)).map PyData.int := by rw [List.map_map]; rfl
theorem natsV (ks : List Nat) : (ks.map fun k : Nat => (k : Int)).map V.int = ks.map fun k : Nat => V.int (k : Int) := by rw [List.map_map]; rfl
theorem at_bough {H : Hp} {u : Nat} {lo hi : Int} {ks : List Nat} {v : V} (h : Dn H (Tie.bough u lo hi ks).toD v) : ∃ p pk, v = .ref p ∧ H p = some (.tup [.int (u : Int), .int lo, .int hi, .ref pk]) ∧ H pk = some (.tup (ks.map fun k : Nat => V.int (k : Int))) := by
  obtain ⟨p, xs, rfl, hp, xu, r1, rfl, hu, xl, r2, rfl, hlo, xh, r3, rfl, hh, xk, r4, rfl, hk, hnil⟩ := dn_tup h
  cases (show r4 = [] from hnil)
  cases dn_int hu
  cases dn_int hlo
  cases dn_int hh
  obtain ⟨pk, ys, rfl, hpk, hks⟩ := dn_tup hk
  rw [natsD] at hks
  rw [dnl_ints hks, natsV] at hpk
  exact ⟨p, pk, rfl, hp, hpk⟩
theorem at_word {H : Hp} {w : Str} {a b : Int} {v : V} (h : Dn H (.tuple [.str w, .int a, .int b]) v) : ∃ p, v = .ref p ∧ H p = some (.tup [.str w, .int a, .int b]) := by
  obtain ⟨p, xs, rfl, hp, xu, r1, rfl, hu, xl, r2, rfl, hlo, xh, r3, rfl, hh, hnil⟩ := dn_tup h
  cases (show r3 = [] from hnil)
  cases (show xu = .str w from hu)
  cases dn_int hlo
  cases dn_int hh
  exact ⟨p, rfl, hp⟩
theorem at_most {H : Hp} {top : Int} {ps : List (Nat × Int)} {v : V} (h : Dn H (Tie.most top ps).toD v) : ∃ p q xs, v = .ref p ∧ H p = some (.tup [.str ("most" : Str), .int top, .ref q]) ∧ H q = some (.tup xs) ∧ DnL H (ps.map pairD) xs := by
  obtain ⟨p, xs, rfl, hp, xu, r1, rfl, hu, xl, r2, rfl, hlo, xh, r3, rfl, hh, hnil⟩ := dn_tup h
  cases (show r3 = [] from hnil)
  cases (show xu = .str ("most" : Str) from hu)
  cases dn_int hlo
  obtain ⟨q, ys, rfl, hq, hks⟩ := dn_tup hh
  exact ⟨p, q, ys, rfl, hp, hq, hks⟩
theorem at_pair {H : Hp} {ps : List (Nat × Int)} {xs : List V} (h : DnL H (ps.map pairD) xs) {i : Nat} {x : V} (hx : xs[i]? = some x) : ∃ p r, ps[i]? = some p ∧ x = .ref r ∧ H r = some (.tup [.int (p.1 : Int), .int p.2]) := by
  obtain ⟨d, hd, hx'⟩ := h.get hx
  rw [List.getElem?_map] at hd
  obtain ⟨p, hp, rfl⟩ := Option.map_eq_some_iff.mp hd
  obtain ⟨r, ys, rfl, hr, xa, r1, rfl, ha, xb, r2, rfl, hb, hnil⟩ := dn_tup (show Dn H (.tuple [.int (p.1 : Int), .int p.2]) x from hx')
  cases (show r2 = [] from hnil)
  cases dn_int ha
  cases dn_int hb
  exact ⟨p, r, hp, rfl, hr⟩
/-! sets as ints -/
def hasV (n k : Int) : Bool := decide (0 ≤ k) && decide (n / 2 ^ k.toNat % 2 = 1)
theorem hasV_nat (s u : Nat) : hasV (s : Int) (u : Int) = s.testBit u := by
  unfold hasV
  rw [decide_eq_true (by omega), Bool.true_and, Nat.testBit_eq_decide_div_mod_eq, Int.toNat_natCast]
  have e : ((s : Int) / 2 ^ u % 2 = 1) ↔ (s / 2 ^ u % 2 = 1) := by
    have e3 : (2 : Int) ^ u = ((2 ^ u : Nat) : Int) := by rw [Int.natCast_pow]; rfl
    rw [e3]
    omega
  by_cases z : s / 2 ^ u % 2 = 1
  · rw [decide_eq_true z, decide_eq_true (e.mpr z)]
  · rw [decide_eq_false z, decide_eq_false (fun y => z (e.mp y))]
theorem bitI (n : Int) (k : Nat) : Builtin.bitAnd (n / 2 ^ k) 1 = n / 2 ^ k % 2 := PySem.W.kbt_mask (n / 2 ^ k) 1
/-- some >> k & 1 -/
theorem shr_bit (s k : Nat) : Builtin.bitAnd ((s : Int) / 2 ^ ((k : Nat) : Int).toNat) 1 = if s.testBit k = true then 1 else 0 := by
  rw [bitI, Int.toNat_natCast, Nat.testBit_eq_decide_div_mod_eq]
  have e3 : (2 : Int) ^ k = ((2 ^ k : Nat) : Int) := by rw [Int.natCast_pow]; rfl
  rw [e3]
  by_cases z : s / 2 ^ k % 2 = 1
  · rw [decide_eq_true z, if_pos rfl]
    omega
  · rw [decide_eq_false z, if_neg (by decide)]
    omega
theorem dec_shr1 (s k : Nat) : decide (V.int (Builtin.bitAnd ((s : Int) / 2 ^ ((k : Nat) : Int).toNat) 1) = V.int 1) = s.testBit k := by
  rw [shr_bit]
  cases s.testBit k <;> rfl
theorem dec_shr0 (s k : Nat) : decide (V.int (Builtin.bitAnd ((s : Int) / 2 ^ ((k : Nat) : Int).toNat) 1) = V.int 0) = !s.testBit k := by
  rw [shr_bit]
  cases s.testBit k <;> rfl
end Wd

set_option maxRecDepth 100000
set_option maxHeartbeats 4000000
namespace L2
open PySem PySem.Spec PyProof.Rows
/-- the rest of a body, by a name -/
theorem cutS {X : Cx} {st : List Stmt} {t : TS} (h : PSs X st t) : ∃ t', PSs X st t' ∧ ∀ D σ H, t D σ H → t' D σ H := ⟨t, h, fun _ _ _ x => x⟩
section
variable {X : Cx} {o e : Expr} {es : List Expr} {to : TE} {t : TA} {name : Str} {apos cpos : Pos} {T id : String} {r : V → List V → Hp → VK → Prop}
/-- methods, with the fragment by its own name -/
theorem pe_bmK {K : PySem.W.Frag} (pa : PlainAttrs T) (slot : Slot T name id) (hty : typeOf (.builtin id) = pure (.type "method_descriptor")) (hm : MtR X id r) (ho : PE X o to) (ha : PA X (e :: es) t) (hK : X.K = K := by rfl)
    (hbase : attributeBase o name X.env (eval o X.env) = eval o X.env := by rfl)
    (hfew : ((backTo cpos (starEach (e :: es) X.env)).all (fun x => !x.1) && (backToKw cpos (keywordEach [] X.env)).all (fun x => x.1.isSome) && decide ((e :: es).length + ([] : List Keyword).length + (if ([] : List Keyword).isEmpty then 0 else 1) < 30)) = true := by rfl)
    (hline : (apos.endLine == cpos.line) = true := by rfl) (hs : starEach (e :: es) X.env = (false, eval e X.env) :: starEach es X.env := by rfl) (hplain : (backTo cpos (starEach es X.env)).any (·.1) = false := by rfl) :
    PE X (.Call (.Attribute o name apos) (e :: es) [] cpos) (tBM K T r to t) := hK ▸ pe_bm pa slot hty hm ho ha hbase hfew hline hs hplain
end
end L2

set_option maxRecDepth 100000
set_option maxHeartbeats 4000000
namespace L2
open PySem PySem.Spec PyProof.Rows
theorem Room.lv {A : Around} {j k : Nat} (hr : Room k A) (h : j ≤ k := by first | decide | omega) : Room j A := hr.mono h
/-- a def of the text: what stands at its name, and how its parameters bind -/
structure Df (K : PySem.W.Frag) (mg : Str → Option Value) (x : Str) (st : Stmt) (f : Addr) (fd : FuncData) (ps : List Str) : Prop extends Fun K x x st f fd where
  g : mg x = some (.ref f)
  B : Binds K fd ps []
theorem pe_callD {X : Cx} {k : Nat} {f : Addr} {fd : FuncData} {ps : List Str} {sp : Sp} {x : Str} {p pos : Pos} {e : Expr} {es : List Expr} {t : TA} {st : Stmt} (F : FnOk X.prog X.w X.K X.mg X.base CX0 k f fd ps sp) (hr : Room k X.A) (hg : Gl X x) (D : Df X.K X.mg x st f fd ps)
    (ha : PA X (e :: es) t) (hdb : (x == ("__debug__" : Str)) = false := by decide) (he : starEach (e :: es) X.env = (false, eval e X.env) :: starEach es X.env := by rfl) (hpl : (backTo pos (starEach es X.env)).any (·.1) = false := by rfl) :
    PE X (.Call (.Name x p) (e :: es) [] pos) (tCall sp [] E0 t) := pe_call F hr hg D.g D.kp D.B .nil pass0 ha hdb he hpl
theorem scm {N P : List Str} {sc : Scope} (a : sc.kind = .function) (b : sc.isCoroutine = false) (c : sc.isGenerator = false) (e : N.take P.length = P) (h : (decide N.Nodup && (decide (∀ x ∈ P, sc.names.lookup x = some .local ∨ sc.names.lookup x = some .cell) && decide (∀ y ∈ sc.names, y.2 ≠ .free))) = true) : FnScope N P sc := by
  rw [Bool.and_eq_true, Bool.and_eq_true] at h
  exact ⟨a, b, c, of_decide_eq_true h.1, e, of_decide_eq_true h.2.1, of_decide_eq_true h.2.2⟩
/-- as it stands in the fragment -/
def Dk (K : PySem.W.Frag) (x : Str) (st : Stmt) (f : Addr) (fd : FuncData) : Prop := PySem.W.nsIn K mainGlobals x = some (some (.ref f)) ∧ Fun K x x st f fd
section
variable {K : PySem.W.Frag} {x q : Str} {st : Stmt} {f C : Addr} {oc : Value} {od an : Option Addr} {osl : Array (Option Value)} {kV doc pm cdv ct : Value}
theorem dk (a : PySem.W.nsIn K mainGlobals x = some (some (.ref f))) (l : K.lookup f = some ⟨oc, od, .func (PySem.W.fnOf x x (defArgs st) (defBody st) (defScope st) .none kV doc pm an cdv ct), osl⟩) (c : PySem.W.codeIn K cdv x = true) (k : PySem.W.keepIn K (.ref f) = true) :
    Dk K x st f (PySem.W.fnOf x x (defArgs st) (defBody st) (defScope st) .none kV doc pm an cdv ct) := ⟨a, fun_mk l c k⟩
/-- how arguments bind, told for any function of this text -/
abbrev Bd (x q : Str) (st : Stmt) (us : List Value) (ps : List Str) : Prop := ∀ (kV doc pm : Value) (an : Option Addr) (cdv ct : Value), bindArgs (PySem.W.fnOf x q (defArgs st) (defBody st) (defScope st) .none kV doc pm an cdv ct) ⟨us, []⟩ = pure (ps.zip us)
theorem Dk.df {h : Heap} {mg : Str → Option Value} {fd : FuncData} {ps : List Str} (X : K.In h) (G : h.Ns mainGlobals mg) (D : Dk K x st f fd) (b : ∀ us, us.length = ps.length → Bd x x st us ps) : Df K mg x st f fd ps :=
  ⟨D.2, PySem.W.mg_of X G D.1, D.2.binds fun kV doc pm an cdv ct us hl => b us hl kV doc pm an cdv ct⟩
theorem bd1 {p : List Str} (h : ∀ a, Bd x q st [a] p) : ∀ us : List Value, us.length = 1 → Bd x q st us p | [a], _ => h a
theorem bd2 {p : List Str} (h : ∀ a b, Bd x q st [a, b] p) : ∀ us : List Value, us.length = 2 → Bd x q st us p | [a, b], _ => h a b
theorem bd3 {p : List Str} (h : ∀ a b c, Bd x q st [a, b, c] p) : ∀ us : List Value, us.length = 3 → Bd x q st us p | [a, b, c], _ => h a b c
theorem bd4 {p : List Str} (h : ∀ a b c d, Bd x q st [a, b, c, d] p) : ∀ us : List Value, us.length = 4 → Bd x q st us p | [a, b, c, d], _ => h a b c d
theorem bd5 {p : List Str} (h : ∀ a b c d e, Bd x q st [a, b, c, d, e] p) : ∀ us : List Value, us.length = 5 → Bd x q st us p | [a, b, c, d, e], _ => h a b c d e
theorem law_b {fd : FuncData} {y : Str} (F : Fun K x q st f fd) (h : ∀ v, Bd x q st [v] [y]) (s : Shared) (v : Value) : BindsTo s fd ⟨[v], []⟩ [(y, v)] := by
  obtain ⟨oc, od, kV, doc, pm, an, cdv, ct, osl, rfl, lk, hcd⟩ := F.ex
  exact .of_eq (h v kV doc pm an cdv ct)
end
end L2

set_option maxRecDepth 100000
set_option maxHeartbeats 4000000
namespace L2
open PySem PySem.Spec PyProof.Rows
section
variable {X : Cx}
/-- a tuple of targets, with the text's heap named (for blocks) -/
theorem pgT {K : PySem.W.Frag} {pos : Pos} {es : List Expr} {k : Nat} {t : TGs} {n : Nat} (hc : X.calm = true) (h : PGs X es t) (hn : (assignEach es X.env).length = n := by rfl) (hst : (assignEach es X.env).findIdx? (·.1) = none := by rfl) (hK : X.K = K := by rfl) : PG X (.Tuple es k pos) (gTup K n t) := hK ▸ pg_tup hc h hn hst
/-- range(b) as a value -/
theorem call_rng1 : CallR X (.type "range") (fun xs H Q => ∃ j : Int, xs = [.int j] ∧ ∀ p, H p = none → Q (.ref p) (upd H p (.rng 0 j))) := by
  intro pins s σ H xs us Q I r h
  obtain ⟨j, rfl, q⟩ := h
  obtain ⟨u, rfl, ⟨t, rfl⟩⟩ := vals1 r
  refine call_range_1 ⟨.ref s.heap.objs.size, _, I.laid (fun b o e => Heap.get?_push_of_some _ e) (Nat.le_refl _) (show ObjOk X.prog X.w _ _ _ (.rng 0 j) from ⟨_, _, _, Heap.get?_push_size _ rfl⟩), rfl, q _ (I.hok.fresh (Nat.le_refl _))⟩
end
end L2
namespace Wd
open PySem L2
def spLaw (K : PySem.W.Frag) : Sp := fun vs H Q _ => ∃ (p : Addr) (ns : List Int), vs = [.ref p] ∧ SqL K H p (ns.map V.int) ∧ ns.length ≤ 63 ∧ ∀ H', Q (.bl true) H'
theorem dec_cnt0 (k : Nat) : decide (V.int (k : Int) = V.int 0) = decide (k = 0) := by
  rw [dec_int]
  by_cases z : k = 0
  · rw [z]; rfl
  · rw [decide_eq_false z]
    simpa using z
/-- a tie and a stand, told a truth -/
def spTie3 (f : Tie → Nat → Nat → Bool) : Sp := fun vs H Q _ => ∃ (t : Tie) (m y n : Nat) (v : V), vs = [v, .int y, .int n] ∧ Dn H t.toD v ∧ t.Ok m ∧ m ≤ 1000 ∧ ∀ H', Same H H' → Q (.bl (f t y n)) H'
def spTie3B (f : Tie → Nat → Nat → Bool) : Sp := fun vs H Q _ => ∃ (u : Nat) (lo hi : Int) (ks : List Nat) (m y n : Nat) (v : V), vs = [v, .int y, .int n] ∧ Dn H (Tie.bough u lo hi ks).toD v ∧ Tie.BoughOkW m u lo hi ks ∧ m ≤ 1000 ∧ ∀ H', Same H H' → Q (.bl (f (Tie.bough u lo hi ks) y n)) H'
/-- pairs and a stand, told a number -/
def spSum (f : List (Nat × Int) → Nat → Nat → Int) : Sp := fun vs H Q _ => ∃ (q : Addr) (xs : List V) (ps : List (Nat × Int)) (y n : Nat), vs = [.ref q, .int y, .int n] ∧ H q = some (.tup xs) ∧ DnL H (ps.map pairD) xs ∧ ps.length ≤ 1000 ∧ ∀ H', Same H H' → Q (.int (f ps y n)) H'
theorem list_ties {P : Tie → Prop} : ∀ {l : List PyData}, (∀ d ∈ l, ∃ t : Tie, d = t.toD ∧ P t) → ∃ ts : List Tie, l = ts.map Tie.toD ∧ ∀ t ∈ ts, P t
  | [], _ => ⟨[], rfl, (fun _ z => nomatch z)⟩
  | d :: r, h => by
    obtain ⟨t, e, p⟩ := h d List.mem_cons_self
    obtain ⟨ts, e2, p2⟩ := list_ties fun x hx => h x (List.mem_cons_of_mem _ hx)
    refine ⟨t :: ts, by rw [e, e2]; rfl, fun x hx => ?_⟩
    rcases List.mem_cons.mp hx with rfl | z
    · exact p
    · exact p2 x z
theorem bough_tie {m : Nat} {d : PyData} (h : isBough m d = true) : ∃ t : Tie, d = t.toD ∧ t.Ok m := by
  obtain ⟨u, lo, hi, ks, e, ok⟩ := tie_of_bough h
  exact ⟨.bough u lo hi ks, e, ok.toBoughOkW⟩
theorem cross_tie {m : Nat} {d : PyData} (h : isTie m d = true) : ∃ t : Tie, d = t.toD ∧ t.Ok m := by
  obtain ⟨t, e, ok, _⟩ := tie_of_cross h
  exact ⟨t, e, ok⟩
theorem iteD {c A B : Prop} [Decidable c] (hc : c) (h : A) : if decide c = true then A else B := by
  rw [decide_eq_true hc]
  exact iteT h
theorem iteDN {c A B : Prop} [Decidable c] (hc : ¬ c) (h : B) : if decide c = true then A else B := by
  rw [decide_eq_false hc]
  exact iteF h
theorem iteNN {c A B : Prop} [Decidable c] (hc : ¬ c) (h : A) : if (!decide c) = true then A else B := by
  rw [decide_eq_false hc]
  exact iteT h
theorem vs_ne {x y : Str} (h : ¬ x = y) : ¬ V.str x = V.str y := fun z => by injection z with z; exact h z
theorem bans_needs : ¬ V.str ("bans" : Str) = V.str ("needs" : Str) := vs_ne (by decide +kernel)
theorem most_needs : ¬ V.str ("most" : Str) = V.str ("needs" : Str) := vs_ne (by decide +kernel)
theorem most_bans : ¬ V.str ("most" : Str) = V.str ("bans" : Str) := vs_ne (by decide +kernel)
theorem int_str {i : Int} {x : Str} : ¬ V.int i = V.str x := fun z => by cases z
end Wd

set_option maxRecDepth 100000
set_option maxHeartbeats 4000000
/-! ### I. Woods by their ties -/
namespace Wd
open PySem L2 Ow
structure WoodT (H : Hp) (wd : Addr) (m : Nat) (ts : List Tie) : Prop where
  ex : ∃ xs ys, WoodAt H wd m xs ys ∧ DnL H (ts.map Tie.toD) (xs ++ ys)
  ok : ∀ t ∈ ts, t.Ok m
  few : ts.length ≤ 900
  m9 : m ≤ 900
theorem WoodAt.same {H H' : Hp} {wd : Addr} {m : Int} {xs ys : List V} (s : Same H H') (h : WoodAt H wd m xs ys) : WoodAt H' wd m xs ys := by
  obtain ⟨tb, tc, h1, h2, h3⟩ := h.ex
  exact ⟨tb, tc, s _ _ h1, s _ _ h2, s _ _ h3⟩
theorem WoodT.same {H H' : Hp} {wd : Addr} {m : Nat} {ts : List Tie} (s : Same H H') (h : WoodT H wd m ts) : WoodT H' wd m ts := by
  obtain ⟨xs, ys, h1, h2⟩ := h.ex
  exact ⟨⟨xs, ys, WoodAt.same s h1, DnL.same s _ _ h2⟩, h.ok, h.few, h.m9⟩
def optN : Option Nat → V
  | none => .non
  | some i => .int (i : Int)
def wareB (ts : List Tie) (n : Nat) : Bool := n.testBit 0 && ts.all fun t => t.keep n
theorem optN_non (o : Option Nat) : decide (optN o = V.non) = decide (o = none) := by
  cases o <;> rfl
/-- all numbers of ties -/
def spEvery : Sp := fun vs H Q _ => ∃ (wd : Addr) (m : Nat) (ts : List Tie), vs = [.ref wd] ∧ WoodT H wd m ts ∧ ∀ (l : Addr) (H' : Hp), Same H H' → H l = none → H' l = some (.lst ((List.range ts.length).map fun i : Nat => V.int (i : Int))) → Q (.ref l) H'
end Wd

/-! ### Bits: sums and differences of sets -/
namespace Wd
theorem add_bits : ∀ (k a b : Nat), (∀ j, a.testBit j = true → b.testBit j = false) → (a + b).testBit k = (a.testBit k || b.testBit k)
  | k, a, b, h => by
    have h0 := h 0
    rw [Nat.testBit_zero, Nat.testBit_zero] at h0
    have p : a % 2 + b % 2 ≤ 1 := by
      by_cases z : a % 2 = 1
      · have := h0 (decide_eq_true z)
        have := of_decide_eq_false this
        omega
      · omega
    cases k with
    | zero =>
      rw [Nat.testBit_zero, Nat.testBit_zero, Nat.testBit_zero]
      by_cases z : a % 2 = 1
      · rw [decide_eq_true z, decide_eq_true (by omega), Bool.true_or]
      · rw [decide_eq_false z, Bool.false_or]
        by_cases y : b % 2 = 1
        · rw [decide_eq_true y, decide_eq_true (by omega)]
        · rw [decide_eq_false y, decide_eq_false (by omega)]
    | succ k =>
      rw [Nat.testBit_add_one, Nat.testBit_add_one, Nat.testBit_add_one]
      have e : (a + b) / 2 = a / 2 + b / 2 := by omega
      rw [e]
      refine add_bits k (a / 2) (b / 2) fun j hj => ?_
      have := h (j + 1)
      rw [Nat.testBit_add_one, Nat.testBit_add_one] at this
      exact this hj
theorem add_or {a b : Nat} (h : ∀ j, a.testBit j = true → b.testBit j = false) : a + b = a ||| b :=
  Nat.eq_of_testBit_eq fun k => by rw [add_bits k a b h, Nat.testBit_or]
theorem sub_bits : ∀ (k y a : Nat), (∀ j, a.testBit j = true → y.testBit j = true) → (y - a).testBit k = (y.testBit k && !a.testBit k)
  | k, y, a, h => by
    have le : a ≤ y := by
      have e : a = a &&& y := Nat.eq_of_testBit_eq fun j => by
        rw [Nat.testBit_and]
        cases e : a.testBit j with
        | false => rfl
        | true => rw [h j e]; rfl
      rw [e]
      exact Nat.and_le_right
    have h0 := h 0
    rw [Nat.testBit_zero, Nat.testBit_zero] at h0
    have p : a % 2 ≤ y % 2 := by
      by_cases z : a % 2 = 1
      · have := of_decide_eq_true (h0 (decide_eq_true z))
        omega
      · omega
    cases k with
    | zero =>
      rw [Nat.testBit_zero, Nat.testBit_zero, Nat.testBit_zero]
      by_cases z : a % 2 = 1
      · rw [decide_eq_true z, decide_eq_false (by omega)]; simp
      · rw [decide_eq_false z]
        by_cases x : y % 2 = 1
        · rw [decide_eq_true x, decide_eq_true (by omega)]; rfl
        · rw [decide_eq_false x, decide_eq_false (by omega)]; rfl
    | succ k =>
      rw [Nat.testBit_add_one, Nat.testBit_add_one, Nat.testBit_add_one]
      have e : (y - a) / 2 = y / 2 - a / 2 := by omega
      rw [e]
      refine sub_bits k (y / 2) (a / 2) fun j hj => ?_
      have := h (j + 1)
      rw [Nat.testBit_add_one, Nat.testBit_add_one] at this
      exact this hj
theorem or_as_sum (a b : Nat) : a ||| b = a + (b - (a &&& b)) := by
  have hb : ∀ j, (b - (a &&& b)).testBit j = (b.testBit j && !(a &&& b).testBit j) := fun j => sub_bits j b (a &&& b) fun i hi => by
    rw [Nat.testBit_and, Bool.and_eq_true] at hi
    exact hi.2
  rw [add_or fun j hj => by rw [hb, Nat.testBit_and, hj]; cases b.testBit j <;> rfl]
  refine Nat.eq_of_testBit_eq fun j => ?_
  rw [Nat.testBit_or, Nat.testBit_or, hb, Nat.testBit_and]
  cases a.testBit j <;> cases b.testBit j <;> rfl
theorem bit_lt {s n k : Nat} (h : s < 2 ^ n) (hk : s.testBit k = true) : k < n := by
  by_cases z : k < n
  · exact z
  · have := Nat.testBit_lt_two_pow (Nat.lt_of_lt_of_le h (Nat.pow_le_pow_right (by decide) (Nat.le_of_not_lt z)))
    rw [this] at hk
    cases hk
theorem filter_range_succ (p : Nat → Bool) (i : Nat) : (List.range (i + 1)).filter p = (List.range i).filter p ++ (if p i = true then [i] else []) := by
  rw [List.range_succ, List.filter_append]
  congr 1
  by_cases h : p i = true <;> simp [h]
/-! stands made finer -/
theorem bit_put (y k j : Nat) : (y ||| 2 ^ k).testBit j = (y.testBit j || decide (k = j)) := by rw [Nat.testBit_or, Nat.testBit_two_pow]
theorem inS_split {y n k s : Nat} : InS y n s ↔ InS (y ||| 2 ^ k) n s ∨ InS y (n ||| 2 ^ k) s := by
  constructor
  · rintro ⟨h1, h2⟩
    cases e : s.testBit k with
    | true =>
      refine .inl ⟨fun j hj => ?_, h2⟩
      rw [bit_put, Bool.or_eq_true, decide_eq_true_eq] at hj
      rcases hj with z | rfl
      · exact h1 j z
      · exact e
    | false =>
      refine .inr ⟨h1, fun j hj => ?_⟩
      rw [bit_put, Bool.or_eq_true, decide_eq_true_eq] at hj
      rcases hj with z | rfl
      · exact h2 j z
      · exact e
  · rintro (⟨h1, h2⟩ | ⟨h1, h2⟩)
    · exact ⟨fun j hj => h1 j (by rw [bit_put, hj, Bool.true_or]), h2⟩
    · exact ⟨h1, fun j hj => h2 j (by rw [bit_put, hj, Bool.true_or])⟩
theorem dj_one {y n k : Nat} (d : ∀ j, y.testBit j = true → n.testBit j = false) (hn : n.testBit k = false) : ∀ j, (y ||| 2 ^ k).testBit j = true → n.testBit j = false := fun j hj => by
  rw [bit_put, Bool.or_eq_true, decide_eq_true_eq] at hj
  rcases hj with z | rfl
  · exact d j z
  · exact hn
theorem dj_other {y n k : Nat} (d : ∀ j, y.testBit j = true → n.testBit j = false) (hy : y.testBit k = false) : ∀ j, y.testBit j = true → (n ||| 2 ^ k).testBit j = false := fun j hj => by
  rw [bit_put, d j hj, Bool.false_or]
  exact decide_eq_false fun z => by rw [← z, hy] at hj; cases hj
theorem inS_self {y n : Nat} (d : ∀ j, y.testBit j = true → n.testBit j = false) : InS y n y := ⟨fun _ z => z, fun k hk => by
  cases e : y.testBit k with
  | false => rfl
  | true => rw [d k e] at hk; cases hk⟩
theorem inS_full {m y n s : Nat} (full : ∀ k, k < m → (y ||| n).testBit k = true) (hs : InS y n s) (d : ∀ j, y.testBit j = true → n.testBit j = false) : ∀ k, k < m → s.testBit k = y.testBit k := fun k hk => by
  have h := full k hk
  rw [Nat.testBit_or, Bool.or_eq_true] at h
  rcases h with z | z
  · rw [z, hs.1 k z]
  · rw [hs.2 k z, (inS_self d).2 k z]
theorem sb_full {m : Nat} {t : Tie} (ok : t.Ok m) {y n : Nat} (d : ∀ j, y.testBit j = true → n.testBit j = false) (full : ∀ k, k < m → (y ||| n).testBit k = true) : t.sb y n = !t.keep y := by
  rw [Bool.eq_iff_iff, sb_iff ok d, Bool.not_eq_true']
  constructor
  · intro h
    exact h y (inS_self d)
  · intro h s hs
    rw [keep_congr ok (inS_full full hs d)]
    exact h
end Wd

set_option maxRecDepth 100000
set_option maxHeartbeats 4000000
/-! ### J. More forms of loops; bits of ints -/
namespace L2
open PySem
theorem op_eq_ints {X : Cx} (hu : X.A.units + 64 < cLine) : OpR X (compareOp .Eq) (fun x y H Q => ∃ (a b : Addr) (ns ms : List Int), x = .ref a ∧ y = .ref b ∧ SqL X.K H a (ns.map V.int) ∧ SqL X.K H b (ms.map V.int) ∧ Q (.bl (decide (ns = ms))) H) := by
  intro pins s σ H x y v u Q I rx ry h
  obtain ⟨a, b, ns, ms, rfl, rfl, ha, hb, q⟩ := h
  cases rx
  cases ry
  obtain ⟨xs, rv, p, _⟩ := I.list ha
  obtain ⟨ys, rv', p', _⟩ := I.list hb
  exact PySem.W.ke_eq_ints p.isList p'.isList (intsAre_of rv) (intsAre_of rv') hu ⟨.bl _, H, I, rfl, q⟩
theorem lc_range0 {k : Nat} {σ0 : St} {H : Hp} {g : TG} {tc : TT} {te : TE} {Q : VK} (Pv : Nat → List V → St → Hp → Prop) (h0 : Pv 0 [] σ0 H) (hz : ∀ i ys σ H, i ≤ k → Pv i ys σ H → ys.length ≤ sizeLine)
    (hs : ∀ i ys σ H, i < k → Pv i ys σ H → g (.int (i : Int)) σ H fun σ3 H3 => tc σ3 H3 fun b H4 => if b = true then te σ3 H4 fun v H5 => Pv (i + 1) (ys ++ [v]) σ3 H5 else Pv (i + 1) ys σ3 H4)
    (hd : ∀ ys σ H, Pv k ys σ H → ∀ p, H p = none → Q (.ref p) (upd H p (.lst ys))) :
    lcGo (Itr 0 k) g tc te σ0 H Q :=
  lc_range (lo := 0) Pv h0 hz (fun i ys σ H hi p => by rw [Int.zero_add]; exact hs i ys σ H hi p) hd
theorem for_range0 {n : Nat} {g : TG} {tb : TS} {D : Ends} {σ : St} {H : Hp} (Pv : Nat → St → Hp → Prop) (h0 : Pv 0 σ H)
    (hs : ∀ i σ H, i < n → Pv i σ H → g (.int (i : Int)) σ H fun σ2 H2 => tb { D with nx := Pv (i + 1), ct := Pv (i + 1), bk := D.nx } σ2 H2) (hd : ∀ σ H, Pv n σ H → D.nx σ H) :
    ∃ W : Nat → Nat → St → Hp → Prop, (∃ m, W 0 m σ H) ∧ ∀ i m σ H, W i m σ H →
      ((Itr 0 n).stop i H ∧ D.nx σ H) ∨ ((Itr 0 n).go i H ∧ ∃ N : St → Hp → Prop, (∀ σ' H', N σ' H' → ∃ m', m' < m ∧ W (i + 1) m' σ' H') ∧ ∀ x H', (Itr 0 n).yld i H x H' → g x σ H' fun σ2 H2 => tb { D with nx := N, ct := N, bk := D.nx } σ2 H2) :=
  for_range (lo := 0) Pv h0 (fun i σ H hi p => by rw [Int.zero_add]; exact hs i σ H hi p) hd
end L2
namespace Wd
open PySem L2 Ow
theorem lor_nat (a b : Nat) : Builtin.bitOr (a : Int) (b : Int) = ((a ||| b : Nat) : Int) := by
  have le : a &&& b ≤ b := Nat.and_le_right
  rw [PyProof.Rows.bitOr_and, PyProof.Rows.bitAnd_pp (by omega) (by omega), Int.toNat_natCast, Int.toNat_natCast, or_as_sum]
  omega
theorem shl1 (k : Nat) : 1 * (2 : Int) ^ ((k : Nat) : Int).toNat = ((2 ^ k : Nat) : Int) := by
  rw [Int.one_mul, Int.toNat_natCast, Int.natCast_pow]
  rfl
theorem pow_pos2 (k : Nat) : 0 < 2 ^ k := Nat.pow_pos (by decide)
end Wd

set_option maxRecDepth 100000
set_option maxHeartbeats 4000000
/-! ### K. Ranges with a step -/
namespace L2
open PySem PySem.Spec PyProof.Rows
/-- // by a positive divisor of up to 9,000 bits -/
theorem op_fdivB {X : Cx} : OpR X (binaryOp .FloorDiv) (rI (fun _ j => 0 < j ∧ j.natAbs.log2 < 9000) fun i j => .int (i / j)) := opI fun i j _ _ _ _ _ hc q => by
  have h1 : (0 : Int) < j := hc.1
  exact floordiv_int (by omega) (by rw [Int.fdiv_eq_ediv_of_nonneg i (by omega)]; exact q) (.inl (PyProof.noPylong_of_log2 hc.2))
section
variable {X : Cx} {tg : Expr}
end
end L2
namespace Wd
open PySem L2
end Wd

set_option maxRecDepth 100000
set_option maxHeartbeats 4000000
/-! ### L. A pen that turns: a list of the script and a place -/
namespace Wd
open PySem L2 Ow
/-- all but the object at one address stays -/
def KpX (pen : Addr) (H H' : Hp) (b : Addr) : HO → Prop
  | .tbl _ => (∃ ps, H' b = some (.tbl ps)) ∧ (TabOk H b → (∃ ys, H pen = some (.lst ys)) → TabOk H' b ∧ ∃ ys, H' pen = some (.lst ys))
  | o => H' b = some o
/-- all but the pen is as it was; tables of code may have grown -/
def SameX (pen : Addr) (H H' : Hp) : Prop := ∀ b o, b ≠ pen → H b = some o → KpX pen H H' b o
theorem KpX.some {pen : Addr} {H H' : Hp} {b : Addr} {o : HO} (k : KpX pen H H' b o) : ∃ u, H' b = some u := by
  cases o
  case tbl ps => exact ⟨_, k.1.choose_spec⟩
  all_goals exact ⟨_, k⟩
theorem SameX.refl (pen : Addr) (H : Hp) : SameX pen H H := fun _ o _ h => by
  cases o
  case tbl ps => exact ⟨⟨_, h⟩, fun a b => ⟨a, b⟩⟩
  all_goals exact h
theorem SameX.trans {pen : Addr} {H H1 H2 : Hp} (a : SameX pen H H1) (b : SameX pen H1 H2) : SameX pen H H2 := fun c o n h => by
  have z := a c o n h
  cases o
  case tbl ps =>
    obtain ⟨⟨qs, hq⟩, k⟩ := z
    obtain ⟨q2, k2⟩ := b c _ n hq
    exact ⟨q2, fun t y => k2 (k t y).1 (k t y).2⟩
  all_goals exact b c _ n z
theorem Same.x {pen : Addr} {H H' : Hp} (s : Same H H') : SameX pen H H' := fun b o _ h => by
  have z := s b o h
  cases o
  case tbl ps => exact ⟨z.1, fun t ⟨ys, y⟩ => ⟨z.2 t, ys, s pen _ y⟩⟩
  all_goals exact z
theorem sameX_pen {pen : Addr} {H : Hp} (o : HO) (ho : ∃ ys, o = .lst ys := by exact ⟨_, rfl⟩) : SameX pen H (upd H pen o) := fun b u n h => by
  cases u
  case tbl ps =>
    refine ⟨⟨ps, by rw [upd_ne n]; exact h⟩, ?_⟩
    rintro ⟨qs, hq, tr, hp⟩ ⟨ys, hy⟩
    obtain ⟨zs, rfl⟩ := ho
    refine ⟨⟨qs, by rw [upd_ne n]; exact hq, tr, fun pos => ?_⟩, ⟨zs, upd_same⟩⟩
    rcases hp pos with z | ⟨c, z1, z2⟩
    · exact .inl z
    · refine .inr ⟨c, z1, ?_⟩
      rw [upd_ne fun z => by rw [z, hy] at z2; cases z2]
      exact z2
  all_goals (show upd H pen o b = _; rw [upd_ne n]; exact h)
/-- a list that is new is written -/
theorem Same.put {H H1 : Hp} {p : Addr} {xs : List V} {o : HO} (s : Same H H1) (n : H p = none) (e : H1 p = some (.lst xs)) : Same H (upd H1 p o) := fun b u hb => by
  have ne : b ≠ p := ne_of_none hb n
  have z := s b u hb
  cases u
  case tbl ps =>
    refine ⟨⟨z.1.choose, by rw [upd_ne ne]; exact z.1.choose_spec⟩, fun t => ?_⟩
    obtain ⟨qs, hq, tr, hp⟩ := z.2 t
    refine ⟨qs, by rw [upd_ne ne]; exact hq, tr, fun pos => ?_⟩
    rcases hp pos with y | ⟨c, y1, y2⟩
    · exact .inl y
    · refine .inr ⟨c, y1, ?_⟩
      rw [upd_ne fun z => by rw [z, e] at y2; cases y2]
      exact y2
  all_goals (show upd H1 p o b = _; rw [upd_ne ne]; exact z)
theorem SameX.put {pen : Addr} {H H1 : Hp} {p : Addr} {xs : List V} {o : HO} (s : SameX pen H H1) (n : H p = none) (np : p ≠ pen) (e : H1 p = some (.lst xs)) : SameX pen H (upd H1 p o) := fun b u nb hb => by
  have ne : b ≠ p := ne_of_none hb n
  have z := s b u nb hb
  cases u
  case tbl ps =>
    refine ⟨⟨z.1.choose, by rw [upd_ne ne]; exact z.1.choose_spec⟩, fun t y => ?_⟩
    obtain ⟨⟨qs, hq, tr, hp⟩, ys, hy⟩ := z.2 t y
    refine ⟨⟨qs, by rw [upd_ne ne]; exact hq, tr, fun pos => ?_⟩, ys, by rw [upd_ne (Ne.symm np)]; exact hy⟩
    rcases hp pos with y | ⟨c, y1, y2⟩
    · exact .inl y
    · refine .inr ⟨c, y1, ?_⟩
      rw [upd_ne fun z => by rw [z, e] at y2; cases y2]
      exact y2
  all_goals (show upd H1 p o b = _; rw [upd_ne ne]; exact z)
theorem SameX.tab {pen P : Addr} {H H' : Hp} {ys : List V} (s : SameX pen H H') (hp : H pen = some (.lst ys)) (t : TabOk H P) : TabOk H' P := by
  obtain ⟨ps, h, _⟩ := id t
  exact ((s P _ (fun z => by rw [z, hp] at h; cases h) h).2 t ⟨ys, hp⟩).1
theorem SameX.free {pen l : Addr} {H H' : Hp} (s : SameX pen H H') (hp : ∃ o, H' pen = some o) (h : H' l = none) : H l = none := by
  cases q : H l with
  | none => rfl
  | some o =>
    obtain ⟨o', e⟩ := hp
    have n : l ≠ pen := fun z => by rw [z, e] at h; cases h
    obtain ⟨u, z⟩ := (s l o n q).some
    rw [z] at h
    cases h
structure Pen (K : PySem.W.Frag) (H : Hp) (pen sp : Addr) (ns : List Int) (k : Int) : Prop where
  at_ : H pen = some (.lst [.ref sp, .int k])
  len : ns.length ≤ 63
  scr : ∀ H', SameX pen H H' → SqL K H' sp (ns.map V.int)
theorem Pen.to {K : PySem.W.Frag} {H H' : Hp} {pen sp : Addr} {ns : List Int} {k k' : Int} (p : Pen K H pen sp ns k) (s : SameX pen H H') (e : H' pen = some (.lst [.ref sp, .int k'])) : Pen K H' pen sp ns k' :=
  ⟨e, p.len, fun H2 s2 => p.scr H2 (s.trans s2)⟩
theorem DnL.pen {H : Hp} {p : Addr} {xs ys : List V} (h : H p = some (.lst xs)) {n : Nat} {ds : List PyData} {vs : List V} (f : ds.all (flatD n) = true) (q : DnL H ds vs) : DnL (upd H p (.lst ys)) ds vs := DnL.keepT (Dn.keepT (keep_lst h) n) ds vs f q
/-- tuples of H stay in H' -/
def TupS (H H' : Hp) : Prop := ∀ b xs, H b = some (.tup xs) → H' b = some (.tup xs)
theorem SameX.tup {pen : Addr} {H H' : Hp} {ys : List V} (e : H pen = some (.lst ys)) (s : SameX pen H H') : TupS H H' := fun b xs h => s b _ (fun z => by rw [z, e] at h; cases h) h
theorem DnL.tupS {H H' : Hp} (t : TupS H H') {n : Nat} {ds : List PyData} {vs : List V} (f : ds.all (flatD n) = true) (q : DnL H ds vs) : DnL H' ds vs := DnL.keepT (Dn.keepT t n) ds vs f q
def spCellP (K : PySem.W.Frag) : Sp := fun vs H Q _ => ∃ (sp : Addr) (ns : List Int) (k : Int), vs = [.ref sp, .int k] ∧ SqL K H sp (ns.map V.int) ∧ ns.length ≤ 63 ∧ 0 ≤ k ∧ k ≤ 1000000 ∧ ∀ c : Int, Q (.int c) H
def spNext (K : PySem.W.Frag) : Sp := fun vs H Q _ => ∃ (pen sp : Addr) (ns : List Int) (most k : Int), vs = [.ref pen, .int most] ∧ Pen K H pen sp ns k ∧ 0 ≤ k ∧ k ≤ 1000000 ∧ 0 < most ∧ ∀ c : Int, 0 ≤ c → c < most → Q (.int c) (L2.upd H pen (.lst [.ref sp, .int (k + 1)]))
theorem emod_le' {a b : Int} (ha : 0 ≤ a) (hb : 0 < b) : a % b ≤ a := by
  obtain ⟨n, rfl⟩ := Int.eq_ofNat_of_zero_le ha
  obtain ⟨m, rfl⟩ := Int.eq_ofNat_of_zero_le (Int.le_of_lt hb)
  rw [← Int.natCast_emod]
  exact Int.ofNat_le.mpr (Nat.mod_le n m)
theorem cut_rotV (xs : List V) (t : Nat) (h : t ≤ xs.length) : cutV xs (some (t : Int)) none ++ cutV xs none (some (t : Int)) = xs.drop t ++ xs.take t := by
  have := cut_rot (fun x : V => x) xs t h
  simpa using this
theorem DnL.drop {H : Hp} : ∀ {ds : List PyData} {xs : List V} (t : Nat), DnL H ds xs → DnL H (ds.drop t) (xs.drop t)
  | _, _, 0, h => h
  | [], xs, t + 1, h => by rw [(show xs = [] from h)]; exact rfl
  | d :: ds, _, t + 1, ⟨x, r, e, q, z⟩ => by rw [e]; exact DnL.drop t z
theorem DnL.take {H : Hp} : ∀ {ds : List PyData} {xs : List V} (t : Nat), DnL H ds xs → DnL H (ds.take t) (xs.take t)
  | _, _, 0, h => by rw [List.take_zero, List.take_zero]; exact rfl
  | [], xs, t + 1, h => by rw [(show xs = [] from h)]; exact rfl
  | d :: ds, _, t + 1, ⟨x, r, e, q, z⟩ => by rw [e]; exact ⟨x, _, rfl, q, DnL.take t z⟩
theorem rot_mem {α : Type} {l : List α} {t : Nat} {x : α} (h : x ∈ l.drop t ++ l.take t) : x ∈ l := by
  rcases List.mem_append.mp h with z | z
  · exact List.mem_of_mem_drop z
  · exact List.mem_of_mem_take z
theorem rot_perm {α : Type} (l : List α) (t : Nat) : (l.drop t ++ l.take t).Perm l := by
  have e : l = l.take t ++ l.drop t := (List.take_append_drop t l).symm
  exact List.Perm.trans List.perm_append_comm (by rw [← e])
theorem GoodB.rot {m : Int} {bs : List PyData} (G : GoodB m bs) (t : Nat) : GoodB m (bs.drop t ++ bs.take t) :=
  ⟨fun b hb => G.each b (rot_mem hb), (List.Perm.flatMap_right _ (rot_perm bs t)).trans G.kids⟩
def spKidsP (K : PySem.W.Frag) : Sp := fun vs H Q _ => ∃ (pen sp : Addr) (ns : List Int) (m : Nat) (k : Int), vs = [.ref pen, .int m] ∧ Pen K H pen sp ns k ∧ 0 ≤ k ∧ k ≤ 900000 ∧ 1 ≤ m ∧ m ≤ 9 ∧
  ∀ (g : Addr) (gs : List Grp) (k' : Int) (H' : Hp), SameX pen H H' → H' pen = some (.lst [.ref sp, .int k']) → k ≤ k' → k' ≤ k + 30 → GAt H H' g gs → GOk (m : Int) gs → Q (.ref g) H'
def spBoughP (K : PySem.W.Frag) : Sp := fun vs H Q _ => ∃ (pen sp : Addr) (ns : List Int) (l : Addr) (u : Int) (kids : List Int) (m : Int) (k : Int), vs = [.ref pen, .int u, .ref l] ∧ Pen K H pen sp ns k ∧ 0 ≤ k ∧ k ≤ 900000 ∧ H l = some (.lst (kids.map V.int)) ∧ l ≠ pen ∧ kids.length ≤ 9 ∧ 0 ≤ u ∧ kids ≠ [] ∧ rising m (kids.map PyData.int) u = true ∧
  ∀ (d : PyData) (v : V) (k' : Int) (H' : Hp), SameX pen H H' → H' pen = some (.lst [.ref sp, .int k']) → k ≤ k' → k' ≤ k + 3 → Dn H' d v → isBough m d = true → flatD 3 d = true → kidsOf d = kids → Q v H'
def spCrossP (K : PySem.W.Frag) : Sp := fun vs H Q _ => ∃ (pen sp : Addr) (ns : List Int) (m : Nat) (k : Int), vs = [.ref pen, .int m] ∧ Pen K H pen sp ns k ∧ 0 ≤ k ∧ k ≤ 900000 ∧ 1 ≤ m ∧ m ≤ 9 ∧
  ∀ (d : PyData) (v : V) (k' : Int) (H' : Hp), SameX pen H H' → H' pen = some (.lst [.ref sp, .int k']) → k ≤ k' → k' ≤ k + 6 → Dn H' d v → isTie m d = true → flatD 3 d = true → Q v H'
/-- a wood laid as data -/
structure WoodX (H : Hp) (wd : Addr) (m : Nat) (bs cs : List PyData) : Prop where
  ex : ∃ xs ys, WoodAt H wd m xs ys ∧ DnL H bs xs ∧ DnL H cs ys
  gb : GoodB m bs
  gc : ∀ c ∈ cs, isTie m c = true
  b8 : bs.length ≤ 9
  c8 : cs.length ≤ 20
  fb : bs.all (flatD 3) = true
  fc : cs.all (flatD 3) = true
  m1 : 1 ≤ m
  m9 : m ≤ 9
theorem WoodX.tupS {H H' : Hp} {wd : Addr} {m : Nat} {bs cs : List PyData} (t : TupS H H') (h : WoodX H wd m bs cs) : WoodX H' wd m bs cs := by
  obtain ⟨xs, ys, ⟨tb, tc, h1, h2, h3⟩, db, dc⟩ := h.ex
  exact ⟨⟨xs, ys, ⟨tb, tc, t _ _ h1, t _ _ h2, t _ _ h3⟩, DnL.tupS t h.fb db, DnL.tupS t h.fc dc⟩, h.gb, h.gc, h.b8, h.c8, h.fb, h.fc, h.m1, h.m9⟩
theorem WoodX.ties {H : Hp} {wd : Addr} {m : Nat} {bs cs : List PyData} (h : WoodX H wd m bs cs) : ∃ ts : List Tie, bs ++ cs = ts.map Tie.toD ∧ (∀ t ∈ ts, t.Ok m) ∧ ts.length ≤ 29 ∧ ∀ H', TupS H H' → WoodT H' wd m ts := by
  obtain ⟨ts, ets, okt⟩ := list_ties (P := fun t => t.Ok m) (l := bs ++ cs) fun x hx => by
    rcases List.mem_append.mp hx with z | z
    · exact bough_tie (h.gb.each x z)
    · exact cross_tie (h.gc x z)
  have lt : ts.length = bs.length + cs.length := by rw [← List.length_append, ets, List.length_map]
  have b8 := h.b8
  have c8 := h.c8
  have m9 := h.m9
  refine ⟨ts, ets, okt, by omega, fun H' t => ?_⟩
  obtain ⟨xs, ys, WA, db, dc⟩ := (h.tupS t).ex
  exact ⟨⟨xs, ys, WA, by rw [← ets]; exact db.append dc⟩, okt, by omega, by omega⟩
def spWoodP (K : PySem.W.Frag) : Sp := fun vs H Q _ => ∃ (pen sp : Addr) (ns : List Int) (m : Nat) (most k : Int), vs = [.ref pen, .int m, .int most] ∧ Pen K H pen sp ns k ∧ 0 ≤ k ∧ k ≤ 800000 ∧ 1 ≤ m ∧ m ≤ 9 ∧ 0 ≤ most ∧ most ≤ 8 ∧
  ∀ (wd : Addr) (bs cs : List PyData) (k' : Int) (H' : Hp), SameX pen H H' → H' pen = some (.lst [.ref sp, .int k']) → k ≤ k' → k' ≤ k + 300 → WoodX H' wd m bs cs → (cs.length : Int) ≤ most → Q (.ref wd) H'
theorem _root_.Ow.GAt.add2 {H0 H : Hp} {g l t : Addr} {gs : List Grp} {u k : Int} (G : GAt H0 H g gs) (hf : H0 l = none) (hl : H l = none) (ht : upd H l (.lst [.int k]) t = none) :
    GAt H0 (upd (upd (upd H l (.lst [.int k])) t (.tup [.int u, .ref l])) g (.lst ((gs.map fun x => V.ref x.t) ++ [.ref t]))) g (gs ++ [⟨t, u, l, [k]⟩]) := by
  have ngl : g ≠ l := ne_of_none G.at_ hl
  have s1 := same_new hl (.lst [.int k])
  have s2 := s1.trans (same_new ht (.tup [.int u, .ref l]))
  have ntl : t ≠ l := fun z => by rw [z, upd_same] at ht; cases ht
  have ngt : g ≠ t := ne_of_none (s1 _ _ G.at_) ht
  refine ⟨?_, G.new, fun x hx => ?_, fun x hx => ?_, ?_⟩
  · rw [upd_same, List.map_append]
    rfl
  · rcases List.mem_append.mp hx with z | z
    · rw [upd_ne (ne_of (G.tup x z) G.at_ (by intro q; cases q))]
      exact s2 _ _ (G.tup x z)
    · rw [List.mem_singleton.mp z]
      show L2.upd _ g _ t = _
      rw [upd_ne (Ne.symm ngt), upd_same]
  · rcases List.mem_append.mp hx with z | z
    · obtain ⟨a, b, c⟩ := G.lst x z
      refine ⟨?_, b, c⟩
      rw [upd_ne (Ne.symm c)]
      exact s2 _ _ a
    · rw [List.mem_singleton.mp z]
      refine ⟨?_, hf, ngl⟩
      show L2.upd _ g _ l = _
      rw [upd_ne (Ne.symm ngl), upd_ne (Ne.symm ntl), upd_same]
      rfl
  · rw [List.map_append]
    refine List.nodup_append.mpr ⟨G.nd, by simp, fun x hx y hy => ?_⟩
    obtain ⟨z, hz, rfl⟩ := List.mem_map.mp hx
    have e : y = l := by simpa using hy
    rw [e]
    exact ne_of_none (G.lst z hz).1 hl
/-- the groups stay when the pen turns -/
theorem _root_.Ow.GAt.pen {H0 H : Hp} {g pen : Addr} {gs : List Grp} {xs ys : List V} (G : GAt H0 H g gs) (h0 : ∃ o, H0 pen = some o) (h : H pen = some (.lst xs)) : GAt H0 (L2.upd H pen (.lst ys)) g gs := by
  obtain ⟨o, e0⟩ := h0
  refine ⟨?_, G.new, fun x hx => ?_, fun x hx => ?_, G.nd⟩
  · rw [upd_ne (fun z => by rw [← z, G.new] at e0; cases e0)]
    exact G.at_
  · rw [upd_ne (ne_of (G.tup x hx) h (by intro q; cases q))]
    exact G.tup x hx
  · obtain ⟨a, b, c⟩ := G.lst x hx
    refine ⟨?_, b, c⟩
    rw [upd_ne (fun z => by rw [← z, b] at e0; cases e0)]
    exact a
end Wd

/-! ### Trees of cases and first sets: the mathematics -/
namespace Wd
def keepAt (ts : List Tie) (i s : Nat) : Bool := match ts[i]? with
  | some t => t.keep s
  | none => true
def sbAt (ts : List Tie) (i y n : Nat) : Bool := match ts[i]? with
  | some t => t.sb y n
  | none => false
def firstSB (ts : List Tie) (il : List Nat) (y n : Nat) : Option Nat := il.find? fun i => sbAt ts i y n
def openL (m y n : Nat) : List Nat := (List.range m).filter fun k => !(y ||| n).testBit k
theorem mem_open {m y n k : Nat} : k ∈ openL m y n ↔ k < m ∧ y.testBit k = false ∧ n.testBit k = false := by
  unfold openL
  rw [List.mem_filter, List.mem_range, Bool.not_eq_true', Nat.testBit_or, Bool.or_eq_false_iff]
theorem open_one (m y n k : Nat) : openL m (y ||| 2 ^ k) n = (openL m y n).filter fun j => !decide (k = j) := by
  unfold openL
  rw [List.filter_filter]
  refine List.filter_congr fun j _ => ?_
  rw [Nat.testBit_or, bit_put, Nat.testBit_or]
  cases y.testBit j <;> cases n.testBit j <;> cases decide (k = j) <;> rfl
theorem open_other (m y n k : Nat) : openL m y (n ||| 2 ^ k) = (openL m y n).filter fun j => !decide (k = j) := by
  unfold openL
  rw [List.filter_filter]
  refine List.filter_congr fun j _ => ?_
  rw [Nat.testBit_or, bit_put, Nat.testBit_or]
  cases y.testBit j <;> cases n.testBit j <;> cases decide (k = j) <;> rfl
theorem filter_less {l : List Nat} {k : Nat} (h : k ∈ l) : (l.filter fun j => !decide (k = j)).length < l.length := by
  refine Nat.lt_of_le_of_ne (List.length_filter_le _ _) fun e => ?_
  have := List.length_filter_eq_length_iff.mp e k h
  simp at this
theorem open_less1 {m y n k : Nat} (h : k ∈ openL m y n) : (openL m (y ||| 2 ^ k) n).length < (openL m y n).length := by
  rw [open_one]; exact filter_less h
theorem open_less2 {m y n k : Nat} (h : k ∈ openL m y n) : (openL m y (n ||| 2 ^ k)).length < (openL m y n).length := by
  rw [open_other]; exact filter_less h
theorem open_few (m y n : Nat) : (openL m y n).length ≤ m := by
  refine Nat.le_trans (List.length_filter_le _ _) ?_
  rw [List.length_range]
  exact Nat.le_refl _
theorem put_lt {m y k : Nat} (h : y < 2 ^ m) (hk : k < m) : y ||| 2 ^ k < 2 ^ m := by
  refine Nat.lt_pow_two_of_testBit _ fun i hi => ?_
  rw [bit_put, Nat.testBit_lt_two_pow (Nat.lt_of_lt_of_le h (Nat.pow_le_pow_right (by decide) hi)), Bool.false_or]
  exact decide_eq_false (by omega)
theorem lt_of_bits {x y : Nat} (k : Nat) (hx : x.testBit k = false) (hy : y.testBit k = true) (h : ∀ j, k < j → x.testBit j = y.testBit j) : x < y := by
  have e : x / 2 ^ (k + 1) = y / 2 ^ (k + 1) := Nat.eq_of_testBit_eq fun j => by
    rw [← Nat.testBit_add, ← Nat.testBit_add]
    exact h _ (by omega)
  have r1 : x % 2 ^ (k + 1) < 2 ^ k := Nat.lt_pow_two_of_testBit _ fun i hi => by
    rw [Nat.testBit_mod_two_pow]
    by_cases z : i = k
    · rw [z, hx, Bool.and_false]
    · rw [decide_eq_false (by omega), Bool.false_and]
  have r2 : 2 ^ k ≤ y % 2 ^ (k + 1) := Nat.ge_two_pow_of_testBit (by
    rw [Nat.testBit_mod_two_pow, hy, decide_eq_true (by omega)]; rfl)
  have d1 := Nat.div_add_mod x (2 ^ (k + 1))
  have d2 := Nat.div_add_mod y (2 ^ (k + 1))
  rw [e] at d1
  omega
theorem eq_of_bits {m a b : Nat} (ha : a < 2 ^ m) (hb : b < 2 ^ m) (h : ∀ k, k < m → a.testBit k = b.testBit k) : a = b := by
  refine Nat.eq_of_testBit_eq fun k => ?_
  by_cases z : k < m
  · exact h k z
  · have : 2 ^ m ≤ 2 ^ k := Nat.pow_le_pow_right (by decide) (by omega)
    rw [Nat.testBit_lt_two_pow (by omega), Nat.testBit_lt_two_pow (by omega)]
def allKeep (ts : List Tie) (il : List Nat) (s : Nat) : Bool := il.all fun i => keepAt ts i s
structure Stand (m y n : Nat) : Prop where
  dj : ∀ k, y.testBit k = true → n.testBit k = false
  ym : y < 2 ^ m
  nm : n < 2 ^ m
theorem Stand.one {m y n k : Nat} (S : Stand m y n) (h : k ∈ openL m y n) : Stand m (y ||| 2 ^ k) n := by
  obtain ⟨km, ky, kn⟩ := mem_open.mp h
  exact ⟨dj_one S.dj kn, put_lt S.ym km, S.nm⟩
theorem Stand.other {m y n k : Nat} (S : Stand m y n) (h : k ∈ openL m y n) : Stand m y (n ||| 2 ^ k) := by
  obtain ⟨km, ky, kn⟩ := mem_open.mp h
  exact ⟨dj_other S.dj ky, S.ym, put_lt S.nm km⟩
theorem sbAt_keep {m : Nat} {ts : List Tie} (ok : ∀ t ∈ ts, t.Ok m) {i y n s : Nat} (dj : ∀ k, y.testBit k = true → n.testBit k = false) (h : sbAt ts i y n = true) (hs : InS y n s) : keepAt ts i s = false := by
  unfold sbAt at h
  unfold keepAt
  cases e : ts[i]? with
  | none => rw [e] at h; cases h
  | some t =>
    rw [e] at h
    exact (sb_iff (ok t (List.mem_of_getElem? e)) dj).mp h s hs
theorem keep_full {m : Nat} {ts : List Tie} (ok : ∀ t ∈ ts, t.Ok m) {i y n : Nat} (dj : ∀ k, y.testBit k = true → n.testBit k = false) (full : openL m y n = []) (h : sbAt ts i y n = false) : keepAt ts i y = true := by
  have hf : ∀ k, k < m → (y ||| n).testBit k = true := fun k hk => by
    cases e : (y ||| n).testBit k with
    | true => rfl
    | false =>
      rw [Nat.testBit_or, Bool.or_eq_false_iff] at e
      have := mem_open.mpr ⟨hk, e.1, e.2⟩
      rw [full] at this
      cases this
  unfold sbAt at h
  unfold keepAt
  cases e : ts[i]? with
  | none => rfl
  | some t =>
    rw [e] at h
    have h' : t.sb y n = false := h
    rw [sb_full (ok t (List.mem_of_getElem? e)) dj hf] at h'
    show t.keep y = true
    simpa using h'
theorem stand_full {m y n s : Nat} (S : Stand m y n) (full : openL m y n = []) (hs : InS y n s) (sm : s < 2 ^ m) : s = y := by
  refine eq_of_bits sm S.ym fun k hk => ?_
  refine inS_full (m := m) (fun j hj => ?_) hs S.dj k hk
  cases e : (y ||| n).testBit j with
  | true => rfl
  | false =>
    rw [Nat.testBit_or, Bool.or_eq_false_iff] at e
    have := mem_open.mpr ⟨hj, e.1, e.2⟩
    rw [full] at this
    cases this
/-! first sets -/
def keepF (ts : List Tie) (il : List Nat) (m : Nat) : Nat → Nat → Nat → Option Nat
  | f, y, n => if (firstSB ts il y n).isSome = true then none else match (openL m y n).getLast?, f with
    | none, _ => some y
    | some _, 0 => none
    | some k, f + 1 => match keepF ts il m f y (n ||| 2 ^ k) with
      | some s => some s
      | none => keepF ts il m f (y ||| 2 ^ k) n
/-- the first set in a stand that keeps the named ties -/
def FirstK (ts : List Tie) (il : List Nat) (m y n : Nat) : Option Nat → Prop
  | some s => s < 2 ^ m ∧ InS y n s ∧ allKeep ts il s = true ∧ ∀ s', s' < 2 ^ m → InS y n s' → allKeep ts il s' = true → s ≤ s'
  | none => ∀ s', s' < 2 ^ m → InS y n s' → allKeep ts il s' = false
theorem firstSB_some {ts : List Tie} {il : List Nat} {y n i : Nat} (h : firstSB ts il y n = some i) : i ∈ il ∧ sbAt ts i y n = true :=
  ⟨List.mem_of_find?_eq_some h, List.find?_some (p := fun i => sbAt ts i y n) h⟩
theorem firstSB_none {ts : List Tie} {il : List Nat} {y n : Nat} (h : firstSB ts il y n = none) : ∀ i ∈ il, sbAt ts i y n = false := fun i hi => by
  have := List.find?_eq_none.mp h i hi
  simpa using this
theorem open_last {m y n k : Nat} (h : (openL m y n).getLast? = some k) : k ∈ openL m y n ∧ ∀ j ∈ openL m y n, j ≤ k := by
  have hp : (openL m y n).Pairwise (· < ·) := List.pairwise_lt_range.filter _
  refine ⟨List.mem_of_getLast? h, fun j hj => ?_⟩
  obtain ⟨l, e⟩ := List.getLast?_eq_some_iff.mp h
  rw [e] at hp hj
  rcases List.mem_append.mp hj with z | z
  · exact Nat.le_of_lt ((List.pairwise_append.mp hp).2.2 j z k (List.mem_singleton.mpr rfl))
  · exact Nat.le_of_eq (List.mem_singleton.mp z)
theorem keepF_first {m : Nat} {ts : List Tie} {il : List Nat} (ok : ∀ t ∈ ts, t.Ok m) : ∀ (f y n : Nat), (openL m y n).length ≤ f → Stand m y n → FirstK ts il m y n (keepF ts il m f y n)
  | f, y, n, hf, S => by
    unfold keepF
    cases hb : firstSB ts il y n with
    | some i =>
      obtain ⟨hi, hsb⟩ := firstSB_some hb
      intro s' sm hs
      cases e : allKeep ts il s' with
      | false => rfl
      | true =>
        have := (List.all_eq_true.mp e) i hi
        rw [sbAt_keep ok S.dj hsb hs] at this
        cases this
    | none =>
      have hn := firstSB_none hb
      simp only [Option.isSome_none, Bool.false_eq_true, if_false]
      cases hl : (openL m y n).getLast? with
      | none =>
        have full : openL m y n = [] := List.getLast?_eq_none_iff.mp hl
        refine ⟨S.ym, inS_self S.dj, List.all_eq_true.mpr fun i hi => keep_full ok S.dj full (hn i hi), fun s' sm hs _ => ?_⟩
        rw [stand_full S full hs sm]
        exact Nat.le_refl _
      | some k =>
        obtain ⟨hk, hmax⟩ := open_last hl
        cases f with
        | zero => rw [List.eq_nil_of_length_eq_zero (Nat.le_zero.mp hf)] at hk; cases hk
        | succ f =>
          have l1 := open_less1 hk
          have l2 := open_less2 hk
          have i1 := keepF_first (il := il) ok f y (n ||| 2 ^ k) (by omega) (S.other hk)
          have i2 := keepF_first (il := il) ok f (y ||| 2 ^ k) n (by omega) (S.one hk)
          dsimp only
          cases h1 : keepF ts il m f y (n ||| 2 ^ k) with
          | some s =>
            rw [h1] at i1
            obtain ⟨a1, a2, a3, a4⟩ := i1
            refine ⟨a1, inS_split.mpr (.inr a2), a3, fun s' sm hs hk' => ?_⟩
            rcases (inS_split (k := k)).mp hs with z | z
            · have kt : s'.testBit k = true := z.1 k (by rw [bit_put, decide_eq_true rfl, Bool.or_true])
              have kf : s.testBit k = false := a2.2 k (by rw [bit_put, decide_eq_true rfl, Bool.or_true])
              refine Nat.le_of_lt (lt_of_bits k kf kt fun j hj => ?_)
              by_cases jm : j < m
              · have hno : ¬ j ∈ openL m y n := fun z => by have := hmax j z; omega
                have hyn : y.testBit j = true ∨ n.testBit j = true := by
                  cases ey : y.testBit j with
                  | true => exact .inl rfl
                  | false =>
                    cases en : n.testBit j with
                    | true => exact .inr rfl
                    | false => exact absurd (mem_open.mpr ⟨jm, ey, en⟩) hno
                have hs0 := inS_split.mpr (.inr a2)
                rcases hyn with e | e
                · rw [hs0.1 j e, hs.1 j e]
                · rw [hs0.2 j e, hs.2 j e]
              · have : 2 ^ m ≤ 2 ^ j := Nat.pow_le_pow_right (by decide) (by omega)
                rw [Nat.testBit_lt_two_pow (by omega), Nat.testBit_lt_two_pow (by omega)]
            · exact a4 s' sm z hk'
          | none =>
            rw [h1] at i1
            show FirstK ts il m y n (keepF ts il m f (y ||| 2 ^ k) n)
            cases h2 : keepF ts il m f (y ||| 2 ^ k) n with
            | some s =>
              rw [h2] at i2
              obtain ⟨a1, a2, a3, a4⟩ := i2
              refine ⟨a1, inS_split.mpr (.inl a2), a3, fun s' sm hs hk' => ?_⟩
              rcases (inS_split (k := k)).mp hs with z | z
              · exact a4 s' sm z hk'
              · rw [i1 s' sm z] at hk'
                cases hk'
            | none =>
              rw [h2] at i2
              intro s' sm hs
              rcases (inS_split (k := k)).mp hs with z | z
              · exact i2 s' sm z
              · exact i1 s' sm z
theorem FirstK.unique {ts : List Tie} {il : List Nat} {m y n : Nat} {a b : Option Nat} (ha : FirstK ts il m y n a) (hb : FirstK ts il m y n b) : a = b := by
  cases a with
  | none =>
    cases b with
    | none => rfl
    | some s => have := ha s hb.1 hb.2.1; rw [hb.2.2.1] at this; cases this
  | some s =>
    cases b with
    | none => have := hb s ha.1 ha.2.1; rw [ha.2.2.1] at this; cases this
    | some s' =>
      have h1 := ha.2.2.2 s' hb.1 hb.2.1 hb.2.2.1
      have h2 := hb.2.2.2 s ha.1 ha.2.1 ha.2.2.1
      rw [Nat.le_antisymm h1 h2]
theorem keepF_split {ts : List Tie} {il : List Nat} {m f y n k : Nat} (hb : firstSB ts il y n = none) (ho : (openL m y n).getLast? = some k) : keepF ts il m (f + 1) y n = (match keepF ts il m f y (n ||| 2 ^ k) with | some s => some s | none => keepF ts il m f (y ||| 2 ^ k) n) := by
  conv => lhs; unfold keepF
  simp only [hb, ho, Option.isSome_none, Bool.false_eq_true, if_false]
theorem keepF_full {ts : List Tie} {il : List Nat} {m f y n : Nat} (hb : firstSB ts il y n = none) (ho : openL m y n = []) : keepF ts il m f y n = some y := by
  unfold keepF
  simp [hb, ho]
theorem keepF_broken {ts : List Tie} {il : List Nat} {m f y n i : Nat} (hb : firstSB ts il y n = some i) : keepF ts il m f y n = none := by
  unfold keepF
  simp [hb]
/-! trees of cases -/
inductive CT where
  | broken (t : Nat)
  | ware
  | split (k : Nat) (one other : CT)
def casesF (ts : List Tie) (il : List Nat) (m : Nat) : Nat → Nat → Nat → CT
  | f, y, n => match firstSB ts il y n with
    | some t => .broken t
    | none => match openL m y n, f with
      | [], _ => .ware
      | _ :: _, 0 => .ware
      | k :: _, f + 1 => .split k (casesF ts il m f (y ||| 2 ^ k) n) (casesF ts il m f y (n ||| 2 ^ k))
theorem casesF_split {ts : List Tie} {il r : List Nat} {m f y n k : Nat} (hb : firstSB ts il y n = none) (ho : openL m y n = k :: r) : casesF ts il m (f + 1) y n = .split k (casesF ts il m f (y ||| 2 ^ k) n) (casesF ts il m f y (n ||| 2 ^ k)) := by
  conv => lhs; unfold casesF
  simp only [hb, ho]
theorem casesF_full {ts : List Tie} {il : List Nat} {m f y n : Nat} (hb : firstSB ts il y n = none) (ho : openL m y n = []) : casesF ts il m f y n = .ware := by
  unfold casesF
  simp [hb, ho]
theorem casesF_broken {ts : List Tie} {il : List Nat} {m f y n i : Nat} (hb : firstSB ts il y n = some i) : casesF ts il m f y n = .broken i := by
  unfold casesF
  simp [hb]
def CT.leaves : CT → Nat → List Nat
  | .broken _, _ => []
  | .ware, y => [y]
  | .split k a b, y => a.leaves (y ||| 2 ^ k) ++ b.leaves y
def CT.depth : CT → Nat
  | .broken _ => 0
  | .ware => 0
  | .split _ a b => max a.depth b.depth + 1
/-- its options are no great numbers -/
def CT.small : CT → Prop
  | .broken _ => True
  | .ware => True
  | .split k a b => k ≤ 1000 ∧ a.small ∧ b.small
theorem casesF_small {ts : List Tie} {il : List Nat} {m : Nat} (hm : m ≤ 1000) : ∀ (f y n : Nat), (casesF ts il m f y n).small
  | f, y, n => by
    unfold casesF
    cases firstSB ts il y n with
    | some t => trivial
    | none =>
      dsimp only
      cases hl : openL m y n with
      | nil => trivial
      | cons k r =>
        cases f with
        | zero => trivial
        | succ f =>
          have hk : k ∈ openL m y n := by rw [hl]; exact List.mem_cons_self
          have := (mem_open.mp hk).1
          exact ⟨by omega, casesF_small hm f (y ||| 2 ^ k) n, casesF_small hm f y (n ||| 2 ^ k)⟩
theorem leaves_few : ∀ (t : CT) (y : Nat), (t.leaves y).length ≤ 2 ^ t.depth
  | .broken _, _ => Nat.zero_le _
  | .ware, _ => Nat.le_refl _
  | .split k a b, y => by
    rw [CT.leaves, List.length_append, CT.depth, Nat.pow_succ]
    have h1 := leaves_few a (y ||| 2 ^ k)
    have h2 := leaves_few b y
    have h3 : 2 ^ a.depth ≤ 2 ^ (max a.depth b.depth) := Nat.pow_le_pow_right (by decide) (Nat.le_max_left _ _)
    have h4 : 2 ^ b.depth ≤ 2 ^ (max a.depth b.depth) := Nat.pow_le_pow_right (by decide) (Nat.le_max_right _ _)
    omega
theorem casesF_depth {ts : List Tie} {il : List Nat} {m : Nat} : ∀ (f y n : Nat), (casesF ts il m f y n).depth ≤ f
  | f, y, n => by
    unfold casesF
    cases firstSB ts il y n with
    | some t => exact Nat.zero_le _
    | none =>
      dsimp only
      cases openL m y n with
      | nil => exact Nat.zero_le _
      | cons k r =>
        cases f with
        | zero => exact Nat.zero_le _
        | succ f =>
          show max _ _ + 1 ≤ f + 1
          have h1 := casesF_depth (ts := ts) (il := il) (m := m) f (y ||| 2 ^ k) n
          have h2 := casesF_depth (ts := ts) (il := il) (m := m) f y (n ||| 2 ^ k)
          omega
/-- the sets at the ware leaves are just those in the stand that keep the named ties -/
theorem leaves_iff {m : Nat} {ts : List Tie} {il : List Nat} (ok : ∀ t ∈ ts, t.Ok m) : ∀ (f y n : Nat), (openL m y n).length ≤ f → Stand m y n → ∀ s, s ∈ (casesF ts il m f y n).leaves y ↔ (s < 2 ^ m ∧ InS y n s ∧ allKeep ts il s = true)
  | f, y, n, hf, S, s => by
    unfold casesF
    cases hb : firstSB ts il y n with
    | some i =>
      obtain ⟨hi, hsb⟩ := firstSB_some hb
      constructor
      · intro h; cases h
      · rintro ⟨sm, hs, hk⟩
        have := (List.all_eq_true.mp hk) i hi
        rw [sbAt_keep ok S.dj hsb hs] at this
        cases this
    | none =>
      have hn := firstSB_none hb
      dsimp only
      cases hl : openL m y n with
      | nil =>
        show s ∈ [y] ↔ _
        rw [List.mem_singleton]
        constructor
        · rintro rfl
          exact ⟨S.ym, inS_self S.dj, List.all_eq_true.mpr fun i hi => keep_full ok S.dj hl (hn i hi)⟩
        · rintro ⟨sm, hs, _⟩
          exact stand_full S hl hs sm
      | cons k r =>
        have hk : k ∈ openL m y n := by rw [hl]; exact List.mem_cons_self
        cases f with
        | zero => rw [hl] at hf; simp at hf
        | succ f =>
          have l1 := open_less1 hk
          have l2 := open_less2 hk
          show s ∈ (casesF ts il m f (y ||| 2 ^ k) n).leaves (y ||| 2 ^ k) ++ (casesF ts il m f y (n ||| 2 ^ k)).leaves y ↔ _
          rw [List.mem_append, leaves_iff ok f (y ||| 2 ^ k) n (by omega) (S.one hk), leaves_iff ok f y (n ||| 2 ^ k) (by omega) (S.other hk)]
          constructor
          · rintro (⟨a, b, c⟩ | ⟨a, b, c⟩)
            · exact ⟨a, inS_split.mpr (.inl b), c⟩
            · exact ⟨a, inS_split.mpr (.inr b), c⟩
          · rintro ⟨a, b, c⟩
            rcases (inS_split (k := k)).mp b with b | b
            · exact .inl ⟨a, b, c⟩
            · exact .inr ⟨a, b, c⟩
end Wd

set_option maxRecDepth 100000
set_option maxHeartbeats 4000000
/-! ### M. Tuples joined, woods by named ties, trees as data -/
namespace L2
open PySem PySem.Spec PyProof.Rows
section
variable {X : Cx}
end
end L2
namespace Wd
open PySem L2 Ow
def CT.toD : CT → PyData
  | .broken t => .tuple [.str ("broken" : Str), .int (t : Int)]
  | .ware => .tuple [.str ("ware" : Str)]
  | .split k a b => .tuple [.str ("split" : Str), .int (k : Int), a.toD, b.toD]
theorem at_broken {H : Hp} {t : Nat} {v : V} (h : Dn H (CT.broken t).toD v) : ∃ p, v = .ref p ∧ H p = some (.tup [.str ("broken" : Str), .int (t : Int)]) := by
  obtain ⟨p, xs, rfl, hp, xu, r1, rfl, hu, xl, r2, rfl, hlo, hnil⟩ := dn_tup h
  cases (show r2 = [] from hnil)
  cases (show xu = .str ("broken" : Str) from hu)
  cases dn_int hlo
  exact ⟨p, rfl, hp⟩
theorem at_ware {H : Hp} {v : V} (h : Dn H CT.ware.toD v) : ∃ p, v = .ref p ∧ H p = some (.tup [.str ("ware" : Str)]) := by
  obtain ⟨p, xs, rfl, hp, xu, r1, rfl, hu, hnil⟩ := dn_tup h
  cases (show r1 = [] from hnil)
  cases (show xu = .str ("ware" : Str) from hu)
  exact ⟨p, rfl, hp⟩
theorem at_split {H : Hp} {k : Nat} {a b : CT} {v : V} (h : Dn H (CT.split k a b).toD v) : ∃ p va vb, v = .ref p ∧ H p = some (.tup [.str ("split" : Str), .int (k : Int), va, vb]) ∧ Dn H a.toD va ∧ Dn H b.toD vb := by
  obtain ⟨p, xs, rfl, hp, xu, r1, rfl, hu, xl, r2, rfl, hlo, va, r3, rfl, ha, vb, r4, rfl, hb, hnil⟩ := dn_tup h
  cases (show r4 = [] from hnil)
  cases (show xu = .str ("split" : Str) from hu)
  cases dn_int hlo
  exact ⟨p, va, vb, rfl, hp, ha, hb⟩
theorem broken_ware : ¬ V.str ("broken" : Str) = V.str ("ware" : Str) := vs_ne (by decide +kernel)
theorem broken_split : ¬ V.str ("broken" : Str) = V.str ("split" : Str) := vs_ne (by decide +kernel)
theorem split_ware : ¬ V.str ("split" : Str) = V.str ("ware" : Str) := vs_ne (by decide +kernel)
abbrev natsL (l : List Nat) : List V := l.map fun k : Nat => V.int (k : Int)
theorem at_last (l : List Nat) (k : Nat) : atI (natsL (l ++ [k])) (-1) = some (.int (k : Int)) := by
  unfold atI ixN
  have e : (natsL (l ++ [k])).length = l.length + 1 := by rw [List.length_map, List.length_append, List.length_singleton]
  rw [e, if_neg (by decide), if_pos (by omega)]
  show (natsL (l ++ [k]))[((-1 : Int) + ((l.length + 1 : Nat) : Int)).toNat]? = _
  have e2 : ((-1 : Int) + ((l.length + 1 : Nat) : Int)).toNat = l.length := by omega
  rw [e2, natsL, List.getElem?_map, List.getElem?_append_right (Nat.le_refl _), Nat.sub_self]
  rfl
def spWithO : Sp := fun vs H Q _ => ∃ n k : Nat, vs = [.int n, .int k] ∧ k ≤ 1000 ∧ Q (.int ((n ||| 2 ^ k : Nat) : Int)) H
def spOpen : Sp := fun vs H Q _ => ∃ m y n : Nat, vs = [.int m, .int y, .int n] ∧ m ≤ 900 ∧ ∀ (l : Addr) (H' : Hp), Same H H' → H l = none → H' l = some (.lst (natsL (openL m y n))) → Q (.ref l) H'
def spFirstSB : Sp := fun vs H Q _ => ∃ (wd : Addr) (m : Nat) (ts : List Tie) (tl : Addr) (il : List Nat) (y n : Nat), vs = [.ref wd, .ref tl, .int y, .int n] ∧ WoodT H wd m ts ∧ H tl = some (.lst (natsL il)) ∧ (∀ i ∈ il, i < ts.length) ∧ ∀ H', Same H H' → Q (optN (firstSB ts il y n)) H'
def spCasesF (f : Nat) : Sp := fun vs H Q _ => ∃ (wd : Addr) (m : Nat) (ts : List Tie) (tl : Addr) (il : List Nat) (y n : Nat), vs = [.ref wd, .ref tl, .int y, .int n] ∧ WoodT H wd m ts ∧ H tl = some (.lst (natsL il)) ∧ (∀ i ∈ il, i < ts.length) ∧ (openL m y n).length ≤ f ∧ ∀ (v : V) (H' : Hp), Same H H' → Dn H' (casesF ts il m f y n).toD v → Q v H'
def spKeepF (f : Nat) : Sp := fun vs H Q _ => ∃ (wd : Addr) (m : Nat) (ts : List Tie) (tl : Addr) (il : List Nat) (y n : Nat), vs = [.ref wd, .ref tl, .int y, .int n] ∧ WoodT H wd m ts ∧ H tl = some (.lst (natsL il)) ∧ (∀ i ∈ il, i < ts.length) ∧ (openL m y n).length ≤ f ∧ ∀ H', Same H H' → Q (optN (keepF ts il m f y n)) H'
/-- the named ties of all of them -/
def allT (ts : List Tie) : List Nat := List.range ts.length
theorem allKeep_all (ts : List Tie) (s : Nat) : allKeep ts (allT ts) s = ts.all fun t => t.keep s := by
  unfold allKeep allT
  rw [Bool.eq_iff_iff, List.all_eq_true, List.all_eq_true]
  constructor
  · intro h t ht
    obtain ⟨i, hi, rfl⟩ := List.getElem_of_mem ht
    have := h i (List.mem_range.mpr hi)
    unfold keepAt at this
    rw [List.getElem?_eq_getElem hi] at this
    exact this
  · intro h i hi
    unfold keepAt
    rw [List.getElem?_eq_getElem (List.mem_range.mp hi)]
    exact h _ (List.getElem_mem _)
def spCases : Sp := fun vs H Q _ => ∃ (wd : Addr) (m : Nat) (ts : List Tie) (y n : Nat), vs = [.ref wd, .int y, .int n] ∧ WoodT H wd m ts ∧ m ≤ 9 ∧ ∀ (v : V) (H' : Hp), Same H H' → Dn H' (casesF ts (allT ts) m 9 y n).toD v → Q v H'
def spLeaves (f : Nat) : Sp := fun vs H Q _ => ∃ (y : Nat) (t : CT) (v : V), vs = [.int y, v] ∧ Dn H t.toD v ∧ t.depth ≤ f ∧ f ≤ 9 ∧ CT.small t ∧ ∀ (l : Addr) (H' : Hp), Same H H' → H l = none → H' l = some (.lst (natsL (t.leaves y))) → Q (.ref l) H'
def spFirstW : Sp := fun vs H Q _ => ∃ (wd : Addr) (m : Nat) (ts : List Tie) (y n : Nat), vs = [.ref wd, .int y, .int n] ∧ WoodT H wd m ts ∧ m ≤ 9 ∧ 1 ≤ m ∧ Stand m y n ∧ ∀ H' o, Same H H' → (match o with | none => ∀ s, s < 2 ^ m → InS y n s → wareB ts s = false | some s => s < 2 ^ m ∧ InS y n s ∧ wareB ts s = true ∧ ∀ s', s' < 2 ^ m → InS y n s' → wareB ts s' = true → s ≤ s') → Q (optN o) H'
end Wd

set_option maxRecDepth 100000
set_option maxHeartbeats 4000000
namespace L2
open PySem PySem.Spec PyProof.Rows
/-- over a list or a tuple that stays as it is -/
theorem lc_seq {K : PySem.W.Frag} {a : Addr} {xs : List V} {σ0 : St} {H : Hp} {g : TG} {tc : TT} {te : TE} {Q : VK} (hq : H a = some (.tup xs) ∨ H a = some (.lst xs)) (Pv : Nat → List V → St → Hp → Prop) (h0 : Pv 0 [] σ0 H) (hz : ∀ i ys σ H, i ≤ xs.length → Pv i ys σ H → ys.length ≤ sizeLine)
    (hl : ∀ i ys σ H2, i ≤ xs.length → Pv i ys σ H2 → H2 a = H a)
    (hs : ∀ i x ys σ H, xs[i]? = some x → Pv i ys σ H → g x σ H fun σ3 H3 => tc σ3 H3 fun b H4 => if b = true then te σ3 H4 fun v H5 => Pv (i + 1) (ys ++ [v]) σ3 H5 else Pv (i + 1) ys σ3 H4)
    (hd : ∀ ys σ H, Pv xs.length ys σ H → ∀ p, H p = none → Q (.ref p) (upd H p (.lst ys))) :
    ((∃ xs, SqL K H a xs) ∧ lcGo (Itl K a) g tc te σ0 H Q) ∨ ((∃ xs, SqT K H a xs) ∧ lcGo (Itt K a) g tc te σ0 H Q) := by
  rcases hq with h | h
  · exact .inr ⟨⟨_, Wd.sqT h⟩, lc_tup Pv h0 hz (fun i ys σ H2 hi pv => Wd.sqT ((hl i ys σ H2 hi pv).trans h)) hs hd⟩
  · exact .inl ⟨⟨_, SqL.of h⟩, lc_list Pv h0 hz (fun i ys σ H2 hi pv => SqL.of ((hl i ys σ H2 hi pv).trans h)) hs hd⟩
end L2
namespace Wd
open PySem L2 Ow
def spSumA (f : List (Nat × Int) → Nat → Nat → Int) : Sp := fun vs H Q _ => ∃ (q : Addr) (xs : List V) (ps : List (Nat × Int)) (y n : Nat), vs = [.ref q, .int y, .int n] ∧ (H q = some (.tup xs) ∨ H q = some (.lst xs)) ∧ DnL H (ps.map pairD) xs ∧ ps.length ≤ 1000 ∧ ∀ H', Same H H' → Q (.int (f ps y n)) H'
theorem spSumA_of {f : List (Nat × Int) → Nat → Nat → Int} {vs : List V} {H : Hp} {Q : VK} {E : XK} (h : spSum f vs H Q E) : spSumA f vs H Q E := by
  obtain ⟨q, xs, ps, y, n, e, hq, r⟩ := h
  exact ⟨q, xs, ps, y, n, e, .inl hq, r⟩
end Wd

set_option maxRecDepth 100000
set_option maxHeartbeats 4000000
/-! ### N. min of a list, a list against [] -/
namespace L2
open PySem PySem.Spec PyProof.Rows
section
variable {X : Cx}
/-- a list against an empty one -/
theorem op_eq_nil (hu : X.A.units + 64 < cLine) : OpR X (compareOp .Eq) (fun x y H Q => ∃ (a b : Addr) (xs : List V), x = .ref a ∧ y = .ref b ∧ H a = some (.lst xs) ∧ H b = some (.lst []) ∧ Q (.bl (decide (xs = []))) H) := by
  intro pins s σ H x y v u Q I rx ry h
  obtain ⟨a, b, xs, rfl, rfl, ha, hb, q⟩ := h
  by_cases hx : xs = []
  · subst hx
    refine op_eq_ints hu pins s σ H _ _ v u Q I rx ry ⟨a, b, [], [], rfl, rfl, SqL.of ha, SqL.of hb, ?_⟩
    exact q
  · cases rx
    cases ry
    obtain ⟨its, n, r1, e1, _⟩ := I.lst ha
    obtain ⟨its2, n2, r2, e2, _⟩ := I.lst hb
    cases r2
    have hl := r1.length
    rw [decide_eq_false hx] at q
    refine PySem.P.eq_list_lengths e1 e2 ?_ (by omega) ⟨.bl false, H, I, rfl, q⟩
    cases its with
    | nil => cases r1; exact absurd rfl hx
    | cons c r => simp
end
end L2
namespace Wd
open PySem L2 Ow
theorem scr_of {K : PySem.W.Frag} {H : Hp} {pen a : Addr} {xs : List V} {o : HO} (h : SqL K H a xs) (hp : H pen = none) : ∀ H', SameX pen (L2.upd H pen o) H' → SqL K H' a xs := fun H' s => by
  have keep : ∀ u, H a = some u → KpX pen (L2.upd H pen o) H' a u := fun u e => s a u (ne_of_none e hp) (by rw [upd_ne (ne_of_none e hp)]; exact e)
  rcases h with (h | ⟨u, h⟩) | h
  · exact .inl (.inl (keep _ h))
  · exact .inl (.inr ⟨u, keep _ h⟩)
  · exact .inr h
theorem pen_new {K : PySem.W.Frag} {H : Hp} {pen sp : Addr} {ns : List Int} (h : SqL K H sp (ns.map V.int)) (hl : ns.length ≤ 63) (hp : H pen = none) : Pen K (L2.upd H pen (.lst [.ref sp, .int 0])) pen sp ns 0 := ⟨upd_same, hl, scr_of h hp⟩
/-- the first ware of a stand, as one of several ways tells it -/
def FirstWare (ts : List Tie) (m y n : Nat) : Option Nat → Prop
  | none => ∀ s, s < 2 ^ m → InS y n s → wareB ts s = false
  | some s => s < 2 ^ m ∧ InS y n s ∧ wareB ts s = true ∧ ∀ s', s' < 2 ^ m → InS y n s' → wareB ts s' = true → s ≤ s'
end Wd

set_option maxRecDepth 100000
set_option maxHeartbeats 4000000
/-! ### Comprehensions with cells of their own: an inner one reads their names -/
namespace L2
open PySem PySem.Spec PyProof.Rows
def retE : Option Stmt → Expr
  | some (Stmt.Return (some e) _) => e
  | _ => .Constant .none 0 ⟨0, 0, 0, 0⟩
section
variable {X : Cx} {tg iter elt : Expr} {cs : List Expr} {sc sc0 : Scope} {pos : Pos} {wi : TI} {g : TG} {tc : TT} {te : TE} {XN N' : List Str} {n : Nat} {kp : List Nat}

theorem piL {K : PySem.W.Frag} {l : Expr} {tl : TE} (hl : PE X l tl) (h : X.K = K := by rfl) : PI X tg l (iList K tl) := h ▸ pi_list hl
theorem piT {K : PySem.W.Frag} {l : Expr} {tl : TE} (hl : PE X l tl) (h : X.K = K := by rfl) : PI X tg l (iTup K tl) := h ▸ pi_tup hl
end
end L2

set_option maxRecDepth 100000
set_option maxHeartbeats 4000000
/-! ### O. What each tie's sets are, told in lists; bars -/
namespace Wd
open PySem L2 Ow
/-- whether the named ties bar a stand -/
def barB (ts : List Tie) (il : List Nat) (m y n : Nat) : Bool := decide (keepF ts il m 9 y n = none)
def spBars : Sp := fun vs H Q _ => ∃ (wd : Addr) (m : Nat) (ts : List Tie) (tl : Addr) (il : List Nat) (y n : Nat), vs = [.ref wd, .ref tl, .int y, .int n] ∧ WoodT H wd m ts ∧ m ≤ 9 ∧ H tl = some (.lst (natsL il)) ∧ (∀ i ∈ il, i < ts.length) ∧ ∀ H', Same H H' → Q (.bl (barB ts il m y n)) H'
end Wd

set_option maxRecDepth 100000
set_option maxHeartbeats 4000000
/-! ### P. Ties left out; ties broken in every set of a stand, told by lists; trees of cases told so -/
namespace Wd
open PySem L2 Ow
def spWithoutT : Sp := fun vs H Q _ => ∃ (l : Addr) (il : List Nat) (t : Nat), vs = [.ref l, .int t] ∧ H l = some (.lst (natsL il)) ∧ il.length ≤ 1000 ∧ ∀ (p : Addr) (H' : Hp), Same H H' → H p = none → H' p = some (.lst (natsL (il.filter fun i => !decide (i = t)))) → Q (.ref p) H'
/-- a bar made least: ties left out one after another, where what is left still bars -/
abbrev without (il : List Nat) (t : Nat) : List Nat := il.filter fun i => !decide (i = t)
def leastStep (ts : List Tie) (m y n : Nat) (left : List Nat) (t : Nat) : List Nat := if barB ts (without left t) m y n = true then without left t else left
def leastL (ts : List Tie) (m y n : Nat) : List Nat := (allT ts).foldl (leastStep ts m y n) (allT ts)
theorem leastStep_sub {ts : List Tie} {m y n : Nat} {left : List Nat} {t : Nat} : (leastStep ts m y n left t).Sublist left := by
  unfold leastStep
  split
  · exact List.filter_sublist
  · exact List.Sublist.refl _
theorem least_sub {ts : List Tie} {m y n : Nat} : ∀ (l left : List Nat), (l.foldl (leastStep ts m y n) left).Sublist left
  | [], left => List.Sublist.refl _
  | t :: l, left => (least_sub l (leastStep ts m y n left t)).trans leastStep_sub
structure Others (H : Hp) (ol : Addr) (ts : List Tie) (m y n : Nat) (left : List Nat) : Prop where
  ex : ∃ xs, H ol = some (.lst xs) ∧ xs.length = left.length ∧ ∀ (j t : Nat), left[j]? = some t → ∃ q, xs[j]? = some (.ref q) ∧ H q = some (.tup [.int (t : Int), optN (keepF ts (without left t) m 9 y n)])
/-- what least_bar answers -/
def FoundL (H : Hp) (fv : V) (ts : List Tie) (m y n : Nat) : Prop := (barB ts (allT ts) m y n = false ∧ fv = .non) ∨ (barB ts (allT ts) m y n = true ∧ ∃ (p lf ol : Addr) (v : V), fv = .ref p ∧ H p = some (.tup [.ref lf, v, .ref ol]) ∧ H lf = some (.lst (natsL (leastL ts m y n))) ∧ Dn H (casesF ts (leastL ts m y n) m 9 y n).toD v ∧ Others H ol ts m y n (leastL ts m y n))
theorem inV_nats (k : Nat) (op : List Nat) : inV (.int (k : Int)) (natsL op) = decide (k ∈ op) := by
  induction op with
  | nil => rfl
  | cons a r ih =>
    have e : inV (.int (k : Int)) (natsL (a :: r)) = (eqV (.int (a : Int)) (.int (k : Int)) || inV (.int (k : Int)) (natsL r)) := rfl
    rw [e, ih]
    have e2 : eqV (.int (a : Int)) (.int (k : Int)) = decide (k = a) := by
      show ((a : Int) == (k : Int)) = _
      by_cases z : k = a
      · subst z; simp
      · rw [decide_eq_false z]
        simpa using fun h => z (by omega)
    rw [e2]
    simp [List.mem_cons, Bool.decide_or]
theorem flat_nats (op : List Nat) : (natsL op).all flatV = true := by
  rw [List.all_eq_true]
  intro x hx
  obtain ⟨i, _, rfl⟩ := List.mem_map.mp hx
  rfl
end Wd

set_option maxRecDepth 100000
set_option maxHeartbeats 4000000
namespace L2
open PySem PySem.Spec PyProof.Rows

/-! ### lambdas -/
/-- what stands at a lambda's address -/
def lamP (f : Addr) (qual : Str) (params : Arguments) (body : Expr) (scope : Scope) (cl : List (Str × Addr)) (c : Addr) : Heap → Prop :=
  fun h => ∃ (pm ctv : Value), h.get? f = some (PySem.W.kla_obj "<lambda>" qual params body scope cl pm c ctv)
/-- what a def that makes lambdas wants of the base: its code object with the table at P, the module of the built-ins -/
structure LamB (mg : Str → Option Value) (base : Heap) (c P : Addr) : Prop where
  code : PySem.W.CodeHd base c P
  blt : ∃ bm ob, mg "__builtins__" = some (.ref bm) ∧ bm ≠ builtinsNs ∧ base.get? bm = some ob ∧ ob.cls = .type "module" ∧ ob.dict = some builtinsNs ∧ ob.data = .plain
theorem ext_ok {P : Program} {w : World} {H : Hp} {h : Heap} {a : Addr} {φ : Heap → Prop} (hH : H a = some (.ext φ)) (ok : HOk P w H h) : φ h := (ok a _ hH).1
section
variable {X : Cx} {params : Arguments} {body : Expr} {scope : Scope} {pos : Pos} {c P : Addr}
theorem pe_lam (hc : X.env.code = .ref c) (B : LamB X.mg X.base c P) (hdef : defaultsOf params X.env = ([], [])) (hfr : ∀ y ∈ scope.names, y.2 = .free → ∃ c, X.env.cells.lookup y.1 = some c) :
    PE X (.Lambda params body scope pos) (fun σ H Q => TabOk H P ∧ ∀ (f c' : Addr) (H1 : Hp), H f = none → Same H H1 →
      H1 f = some (.ext (lamP f (X.env.qual ++ "<lambda>") params body scope (clOf scope X.env) c')) → H1 c' = some (.ext (codeP c')) → Q (.ref f) H1) := by
  intro pins s σ H Q I hq
  obtain ⟨⟨ps, hP, tr, hps⟩, q⟩ := hq
  refine PySem.W.kla_eval hdef ?_
  have hP' : s.heap.get? P = some (PySem.W.tabObj ps) := I.hok P _ hP
  have hg : s.heap.Ns mainGlobals X.mg := I.mod.glob.keeps I.bk
  have C : PySem.W.CodeHd s.heap c P := B.code.keeps I.bk
  have hgP : mainGlobals ≠ P := fun z => by
    obtain ⟨o, es, ep, e, hd, _⟩ := hg
    rw [z, hP'] at e; cases e; cases hd
  have hb : s.heap.BuiltinsAt X.mg P := by
    obtain ⟨bm, ob, b1, b2, b3, b4, b5, b6⟩ := B.blt
    have b3' := I.bk _ _ b3
    refine ⟨bm, ob, b1, b2, fun z => ?_, fun z => ?_, b3', b4, b5, b6⟩
    · obtain ⟨o, es, ep, e, hd, _⟩ := hg
      rw [z, e] at b3'; cases b3'; rw [hd] at b6; cases b6
    · rw [z, hP'] at b3'; cases b3'; cases b4
  have hcl : closureFor scope X.env = pure (clOf scope X.env) := clOf_eq hfr
  rcases hps pos with hnf | ⟨c', hf, hc'⟩
  · refine PySem.W.kla_makeFunction hcl I.ok.glob hg hc C hP' tr hnf hgP hb fun c' ctv h' tk hx hge hlt hrec htb => ?_
    have szP : P < s.heap.objs.size := Heap.lt_size hP'
    have hcn : H c' = none := I.hok.fresh hge
    have hfn : H h'.objs.size = none := I.hok.fresh (Nat.le_trans hge (Nat.le_of_lt hlt))
    have cf : c' ≠ h'.objs.size := Nat.ne_of_lt hlt
    have cP : c' ≠ P := Nat.ne_of_gt (Nat.lt_of_lt_of_le szP hge)
    have fP : h'.objs.size ≠ P := Nat.ne_of_gt (Nat.lt_of_lt_of_le szP (Nat.le_trans hge (Nat.le_of_lt hlt)))
    have keep : ∀ b o, b ≠ P → s.heap.get? b = some o → (h'.push (PySem.W.kla_obj "<lambda>" (X.env.qual ++ "<lambda>") params body scope (clOf scope X.env) ((X.mg "__name__").getD .none) c' ctv)).get? b = some o := fun b o hb e => Heap.get?_push_of_some _ (hx b o hb e)
    obtain ⟨c2, oc, vs, t, e2, hoc, hd, hv⟩ := hrec
    cases e2
    -- the new abstract heap
    let H1 : Hp := upd (upd (upd H P (.tbl (ps ++ #[rawInt pos.line, rawInt pos.col, .ref c']))) c' (.ext (codeP c'))) h'.objs.size (.ext (lamP h'.objs.size (X.env.qual ++ "<lambda>") params body scope (clOf scope X.env) c'))
    have H1f : H1 h'.objs.size = some (.ext (lamP h'.objs.size (X.env.qual ++ "<lambda>") params body scope (clOf scope X.env) c')) := upd_same
    have H1c : H1 c' = some (.ext (codeP c')) := by show upd _ _ _ c' = _; rw [upd_ne cf, upd_same]
    have H1P : H1 P = some (.tbl (ps ++ #[rawInt pos.line, rawInt pos.col, .ref c'])) := by show upd _ _ _ P = _; rw [upd_ne (Ne.symm fP), upd_ne (Ne.symm cP), upd_same]
    have H1o : ∀ b, b ≠ h'.objs.size → b ≠ c' → b ≠ P → H1 b = H b := fun b n1 n2 n3 => by show upd _ _ _ b = _; rw [upd_ne n1, upd_ne n2, upd_ne n3]
    have old : ∀ b u, H b = some u → b ≠ h'.objs.size ∧ b ≠ c' := fun b u e => ⟨ne_of_none e hfn, ne_of_none e hcn⟩
    have oldE : ∀ b, H b = some (.ext (codeP b)) → H1 b = some (.ext (codeP b)) := fun b e => by rw [H1o b (old b _ e).1 (old b _ e).2 (fun z => by rw [z, hP] at e; cases e)]; exact e
    have tabs : TabOk H1 P := ⟨_, H1P, by rw [Array.toList_append]; exact TriplesOk_snoc _ _ _ _ tr, fun p' => by
      rw [Array.toList_append]
      rcases codeAmong_grow (pos := p') (pos' := pos) (c := .ref c') ps.toList tr with z | z
      · rcases hps p' with y | ⟨d, y1, y2⟩
        · exact .inl (z.trans y)
        · exact .inr ⟨d, z.trans y1, oldE d y2⟩
      · exact .inr ⟨c', z, H1c⟩⟩
    have same : Same H H1 := fun b o e => by
      by_cases hbP : b = P
      · subst hbP
        rw [hP] at e
        cases e
        exact ⟨⟨_, H1P⟩, fun _ => tabs⟩
      · exact Kp.of e (by rw [H1o b (old b _ e).1 (old b _ e).2 hbP]; exact e) oldE
    have un : Un X.fs [] H H1 s.heap (h'.push (PySem.W.kla_obj "<lambda>" (X.env.qual ++ "<lambda>") params body scope (clOf scope X.env) ((X.mg "__name__").getD .none) c' ctv)) := by
      have np : ∀ b, H b = none → b ≠ P := fun b n z => by rw [z, hP] at n; cases n
      refine ⟨fun b o e n _ _ => keep b o (np b n) e, fun b o e n _ _ => ⟨o.slots, keep b o (np b n) e⟩, fun b o e n _ => ?_, fun b o e _ => ?_, fun b xs e => ?_, fun b o u e => ?_, fun b qs e => ?_⟩
      · have l := Heap.lt_size e
        rw [H1o b (Nat.ne_of_lt (Nat.lt_trans (Nat.lt_of_lt_of_le l hge) hlt)) (Nat.ne_of_lt (Nat.lt_of_lt_of_le l hge)) (np b n)]
        exact n
      · by_cases hbP : b = P
        · subst hbP
          exact ⟨_, Heap.get?_push_of_some _ htb⟩
        · exact ⟨o, keep b o hbP e⟩
      · rw [H1o b (old b _ e).1 (old b _ e).2 (fun z => by rw [z, hP] at e; cases e)]
        exact e
      · rw [H1o b (old b _ e).1 (old b _ e).2 (fun z => by rw [z, hP] at e; cases e)]
        exact e
      · by_cases hbP : b = P
        · subst hbP
          rw [hP] at e
          cases e
          exact ⟨_, H1P⟩
        · exact ⟨#[], by rw [H1o b (old b _ e).1 (old b _ e).2 hbP, e]; simp⟩
    have hok : HOk X.prog X.w H1 (h'.push (PySem.W.kla_obj "<lambda>" (X.env.qual ++ "<lambda>") params body scope (clOf scope X.env) ((X.mg "__name__").getD .none) c' ctv)) := fun b u e => by
      by_cases h1 : b = h'.objs.size
      · subst h1
        rw [H1f] at e
        cases e
        exact ⟨⟨_, _, Heap.get?_push_size _ rfl⟩, ⟨_, Heap.get?_push_size _ rfl⟩, fun h1 h2 ⟨pm, cv, z⟩ k => ⟨pm, cv, k _ z⟩⟩
      · by_cases h2 : b = c'
        · subst h2
          rw [H1c] at e
          cases e
          exact ⟨⟨oc, vs, _, t, Heap.get?_push_of_some _ hoc, hd, hv⟩, ⟨_, Heap.get?_push_of_some _ hoc⟩, fun h1 h2 ⟨o, v, qq, tt, z1, z2, z3⟩ k => ⟨o, v, qq, tt, k _ z1, z2, z3⟩⟩
        · by_cases h3 : b = P
          · subst h3
            rw [H1P] at e
            cases e
            exact Heap.get?_push_of_some _ htb
          · rw [H1o b h1 h2 h3] at e
            refine (I.hok b u e).stay (fun b' o' hb' e' => ?_) (fun b' e' => ?_) fun b' xs e' => ?_
            · refine keep b' o' ?_ e'
              rcases hb' with z | z
              · rw [z]; exact h3
              · intro z2; rw [z2, hP] at z; cases z
            · rw [H1o b' (old b' _ e').1 (old b' _ e').2 (fun z => by rw [z, hP] at e'; cases e')]; exact e'
            · rw [H1o b' (old b' _ e').1 (old b' _ e').2 (fun z => by rw [z, hP] at e'; cases e')]; exact e'
    exact ⟨.ref h'.objs.size, H1, I.un un hok, rfl, q _ c' H1 hfn same H1f H1c⟩
  · refine PySem.W.kla_makeFunctionHit hcl I.ok.glob hg hc C hP' tr hf hb fun ctv h' tk hk hsz => ?_
    have hfn : H h'.objs.size = none := I.hok.fresh hsz
    have keep : ∀ b o, s.heap.get? b = some o → (h'.push { cls := .type "function", data := .func (PySem.W.kla_fn "<lambda>" (X.env.qual ++ "<lambda>") params body scope (clOf scope X.env) ((X.mg "__name__").getD .none) (.ref c') ctv) }).get? b = some o := fun b o e => Heap.get?_push_of_some _ (hk b o e)
    have same : Same H (upd H h'.objs.size (.ext (lamP h'.objs.size (X.env.qual ++ "<lambda>") params body scope (clOf scope X.env) c'))) := same_of fun b u e => by rw [upd_ne (ne_of_none e hfn)]; exact e
    refine ⟨.ref h'.objs.size, _, I.un (Un.laid keep hsz hfn) (I.hok.laid keep hsz ?_), rfl, q _ c' _ hfn same upd_same (same c' _ hc')⟩
    exact ⟨⟨_, _, Heap.get?_push_size _ rfl⟩, ⟨_, Heap.get?_push_size _ rfl⟩, fun h1 h2 ⟨pm, cv, z⟩ k => ⟨pm, cv, k _ z⟩⟩
end
/-! ### a call with a base that holds all that is untracked now -/
/-- all that is untracked and no frame -/
def baseNow (h : Heap) (H : Hp) (st : List Env) : Heap := PySem.W.hideAll h (trk h H ++ frs st)
section
variable {X : Cx} {pins : List (Addr × Obj)} {σ : St} {H : Hp} {s : Shared}
theorem of_baseNow {h : Heap} {H : Hp} {st : List Env} {b : Addr} {o : Obj} (e : (baseNow h H st).get? b = some o) : h.get? b = some o ∧ H b = none ∧ b ∉ frs st := by
  have e' : h.get? b = some o := PySem.W.of_hideAll _ e
  refine ⟨e', ?_, fun z => ?_⟩
  · cases q : H b with
    | none => rfl
    | some x =>
      have hm : b ∈ trk h H := List.mem_filter.mpr ⟨List.mem_range.mpr (Heap.lt_size e'), by simp [q]⟩
      have z : (baseNow h H st).get? b = none := PySem.W.hideAll_none _ (List.mem_append_left _ hm)
      rw [z] at e; cases e
  · have y : (baseNow h H st).get? b = none := PySem.W.hideAll_none _ (List.mem_append_right _ z)
    rw [y] at e; cases e
theorem baseNow_get {h : Heap} {H : Hp} {st : List Env} {b : Addr} {o : Obj} (e : h.get? b = some o) (n : H b = none) (hf : b ∉ frs st) : (baseNow h H st).get? b = some o :=
  PySem.W.hideAll_get _ e fun hm => by
    rcases List.mem_append.mp hm with z | z
    · have q : (H b).isSome = true := (List.mem_filter.mp z).2
      rw [n] at q; simp at q
    · exact hf z
theorem Inv.noStk (I : Inv X pins σ H s) {b : Addr} {o : Obj} (e : X.base.get? b = some o) : b ∉ frs X.stack := fun hb => by
  have := (I.stack.mem hb).1
  rw [e] at this; cases this
theorem Inv.now (I : Inv X pins σ H s) : Env0 X.prog X.w X.K X.mg (baseNow s.heap H X.stack) X.A X.stack s H := by
  have up : ∀ b o, X.base.get? b = some o → (baseNow s.heap H X.stack).get? b = some o := fun b o e => baseNow_get (I.bs b o e).1 (I.bs b o e).2 (I.noStk e)
  obtain ⟨mb, h1, h2⟩ := I.mod.blt
  refine ⟨I.ok.frames, ⟨I.mod.kin.keeps up, I.mod.glob.keeps up, ⟨mb, h1.keeps up, h2⟩, I.mod.nolimit.keeps up⟩, fun b o e => ⟨(of_baseNow e).1, (of_baseNow e).2.1⟩, Nat.le_of_eq (PySem.W.hideAll_size _ _), ?_, I.stkFree, I.hok, I.bare⟩
  have go : ∀ l : List Env, (∀ b ∈ frs l, b ∈ frs X.stack) → s.heap.FunFrames X.base l → s.heap.FunFrames (baseNow s.heap H X.stack) l := by
    intro l
    induction l with
    | nil => intro _ _; trivial
    | cons env r ih =>
      intro hs hl
      obtain ⟨hk, ⟨L, o, hf, hn, ho, hd⟩, hr⟩ := hl
      have hL : L ∈ frs X.stack := hs L (by unfold frs; rw [List.filterMap_cons, hf]; exact List.mem_cons_self)
      refine ⟨hk, ⟨L, o, hf, ?_, ho, hd⟩, ih (fun b hb => hs b (by unfold frs; rw [List.filterMap_cons, hf]; exact List.mem_cons_of_mem _ hb)) hr⟩
      exact PySem.W.hideAll_none _ (List.mem_append_right _ hL)
  exact go X.stack (fun _ h => h) I.stack
/-- a cell of the def that runs is in that base -/
theorem Inv.nowCell (I : Inv X pins σ H s) {x : Str} {c : Addr} {v : Option Value} (hf : X.fn x = true) (hc : X.env.cells.lookup x = some c) (h : s.heap.IsCell c v) : (baseNow s.heap H X.stack).IsCell c v := by
  obtain ⟨o, ho, hd⟩ := h
  refine ⟨o, baseNow_get ho (I.freeC x c hc) fun z => ?_, hd⟩
  rcases List.mem_cons.mp (I.stkSub c z) with e | e
  · exact I.cne x c hc e
  · obtain ⟨_, ob, e2, _⟩ := I.ok.funs.mem e
    exact absurd (Nat.lt_of_lt_of_le (Heap.lt_size e2) (I.ok.cab x c hf hc)) (Nat.lt_irrefl _)
end
section
variable {X : Cx} {k : Nat} {f : Addr} {fd : FuncData} {ps : List Str} {x : Str} {p pos : Pos} {e : Expr} {es : List Expr} {t : TA}
/-- the values of the def's cells, in a base -/
def CellsIn (X : Cx) (σ : St) (base : Heap) : Prop := ∀ (i : Nat) (y : Str) (v : V), X.N[i]? = some y → σ[i]? = some (some v) → X.env.kindOf y = some .cell → ∃ c u, X.env.cells.lookup y = some c ∧ RelV v u ∧ base.IsCell c (some u)
/-- f(..), where the callee's promise may hang on what is untracked now -/
theorem pe_callW (hr : Room k X.A) (hg : Gl X x) (hm : X.mg x = some (.ref f)) (hk : PySem.W.keepIn X.K (.ref f) = true) (hb : Binds X.K fd ps []) (hfn : ∀ y, X.fn y = true)
    (ha : PA X (e :: es) t) (hdb : (x == ("__debug__" : Str)) = false := by decide) (he : starEach (e :: es) X.env = (false, eval e X.env) :: starEach es X.env := by rfl) (hpl : (backTo pos (starEach es X.env)).any (·.1) = false := by rfl) :
    PE X (.Call (.Name x p) (e :: es) [] pos) (fun σ H Q => t σ H fun vs H1 => ∀ base : Heap, CellsIn X σ base → X.K.In base → base.Ns mainGlobals X.mg → ∃ sp : Sp, FnOk X.prog X.w X.K X.mg base CX0 k f fd ps sp ∧ sp vs H1 Q E0) := by
  intro pins s σ H Q I h
  refine wpAny_Call_Name_kw (ld_glob I hg hm ?_ hdb)
  refine PySem.W.callWith_K (h₀ := X.base) I.ok.mod.kin hk (thn (ha pos pins s σ H _ I h) fun us s1 ⟨vs, H1, I1, r, q⟩ => ⟨I1.kIn, ?_⟩) he hpl
  have e0 := I1.now
  have ci : CellsIn X σ (baseNow s1.heap H1 X.stack) := fun i y v hN hv hk => by
    obtain ⟨m, hn, hl⟩ := I1.loc
    obtain ⟨u, ru, l⟩ := hl i y v hN hv (.inr (.inl hk))
    rcases l with ⟨hk', _⟩ | ⟨_, c, hc, hcell⟩
    · rw [hk] at hk'; cases hk'
    · exact ⟨c, u, hc, ru, I1.nowCell (hfn y) hc hcell⟩
  obtain ⟨sp, F, hs⟩ := q _ ci e0.mod.kin e0.mod.glob
  have hl : us.length = ps.length := by rw [← r.length]; exact F.len _ _ _ _ hs
  have hbb := hb s1 us I1.kIn (by rw [List.append_nil]; exact hl)
  rw [List.append_nil] at hbb
  refine wpAny_call (codeAny_mono (F.run X.A X.stack s1 H1 ⟨us, []⟩ us vs Q E0 hr e0 hbb r hs) fun r s' hq => ?_)
  cases r with
  | error e => exact hq.elim
  | ok fl =>
    cases fl with
    | ret u => exact I1.after hq
    | next => exact False.elim hq
    | brk => exact False.elim hq
    | cont => exact False.elim hq
/-- x(..), x a name of the def that holds a function which was made -/
theorem pe_callV {i : Nat} {φ : Heap → Prop} {sp : Sp} (F : FnOk X.prog X.w X.K X.mg X.base CX0 k f fd ps sp) (hr : Room k X.A) (hN : X.N[i]? = some x) (hv : Vis X.env.scope x) (hb : Binds X.K fd ps [])
    (hφ : ∀ h : Heap, φ h → ∃ o fd', h.get? f = some o ∧ o.data = .func fd') (ha : PA X (e :: es) t)
    (hdb : (x == ("__debug__" : Str)) = false := by decide) (hcd : (x == ("__classdict__" : Str)) = false := by decide) (he : starEach (e :: es) X.env = (false, eval e X.env) :: starEach es X.env := by rfl) (hpl : (backTo pos (starEach es X.env)).any (·.1) = false := by rfl) :
    PE X (.Call (.Name x p) (e :: es) [] pos) (fun σ H Q => σ[i]? = some (some (.ref f)) ∧ t σ H fun vs H1 => H1 f = some (.ext φ) ∧ sp vs H1 Q E0) := by
  intro pins s σ H Q I h
  obtain ⟨hσ, h⟩ := h
  refine wpAny_Call_Name_kw (wpAny_mono (pe_var hN hv hdb hcd pins s σ H (fun v H' => v = .ref f ∧ H' = H) I ⟨_, hσ, rfl, rfl⟩) (fun u s1 hu => ?_) fun _ _ z => z)
  obtain ⟨v, H', I', rv, e1, e2⟩ := hu
  subst e1
  subst e2
  obtain rfl : u = Value.ref f := rv
  have h2 : wpAny (model X.prog X.w) X.A (spliced (backTo pos (starEach (e :: es) X.env))) (fun vs s₁ => (∃ o fd', s₁.heap.get? f = some o ∧ o.data = .func fd') ∧ wpAny (model X.prog X.w) X.A (call (.ref f) ([] ++ vs)) (EP X pins σ Q) X.xe s₁) X.xe s1 := by
    refine thn (ha pos pins s1 σ _ _ I' h) fun us s2 ⟨vs, H1, I1, r, e3, q⟩ => ⟨hφ _ (ext_ok e3 I1.hok), ?_⟩
    have hq := run_fn (ds := []) (dvs := []) (E := E0) F hr hb .nil pass0 I1 r (by rw [List.append_nil]; exact q)
    exact hq
  rw [he] at h2
  show wpAny _ _ (callWith pos (.ref f) [] (backTo pos (starEach (e :: es) X.env)) []) _ _ s1
  rw [he]
  refine PySem.W.callWith_of (by show ((false || (backTo pos (starEach es X.env)).any (·.1)) || false) = false; rw [hpl]; rfl) (P := fun h => ∃ o fd', h.get? f = some o ∧ o.data = .func fd') (fun h ⟨o, fd', e1, e2⟩ => ?_) (Calls.evalArgs_plain h2)
  obtain ⟨oc, od, od', os⟩ := o
  cases e2
  exact ⟨.frame, .inl rfl, (PySem.W.Looks.ld (part := none) e1).andThen .now⟩
end

/-! ### a lambda keeps its promise -/
structure LamScope (ps fr : List Str) (sc : Scope) : Prop where
  kind : sc.kind = .function
  co : sc.isCoroutine = false
  gen : sc.isGenerator = false
  nd : ps.Nodup
  par : ∀ x ∈ ps, sc.names.lookup x = some .local
  fre : ∀ x ∈ fr, sc.names.lookup x = some .free
  nocell : ∀ y ∈ sc.names, y.2 ≠ .cell
theorem rev_lookup_zip {ps : List Str} {us : List Value} {i : Nat} {x : Str} {u : Value} (nd : ps.Nodup) (h1 : ps[i]? = some x) (h2 : us[i]? = some u) : (ps.zip us).reverse.lookup x = some u := by
  have hm : (x, u) ∈ (ps.zip us).reverse := List.mem_reverse.mpr (List.mem_of_getElem? (i := i) (by rw [List.getElem?_zip_eq_some]; exact ⟨h1, h2⟩))
  obtain ⟨c, hc⟩ := lookup_some hm
  have h3 := List.mem_reverse.mp (PySem.mem_of_lookup hc)
  obtain ⟨j, hj⟩ := List.getElem?_of_mem h3
  rw [List.getElem?_zip_eq_some] at hj
  have hij : j = i := by
    obtain ⟨l1, e1⟩ := List.getElem?_eq_some_iff.mp h1
    obtain ⟨l2, e2⟩ := List.getElem?_eq_some_iff.mp hj.1
    rw [List.nodup_iff_pairwise_ne, List.pairwise_iff_getElem] at nd
    rcases Nat.lt_trichotomy j i with z | z | z
    · exact absurd (e2.trans e1.symm) (nd j i l2 l1 z)
    · exact z
    · exact absurd (e1.trans e2.symm) (nd i j l1 l2 z)
  rw [hij, h2] at hj
  rw [hc, hj.2]
/-- a lambda's body, running -/
def cxLam (P : Program) (w : World) (K : PySem.W.Frag) (mg : Str → Option Value) (base : Heap) (N : List Str) (q : Str) (scope : Scope) (f c : Addr) (cl : List (Str × Addr)) (A : Around) (outer : List Env) (s : Shared) (H : Hp) : Cx where
  prog := P
  w := w
  K := K
  mg := mg
  base := base
  A := A.deeper (PySem.W.envX q scope s.heap.objs.size f (.ref c) cl)
  N := N
  s₀ := s
  H₀ := H
  env := PySem.W.envX q scope s.heap.objs.size f (.ref c) cl
  outer := outer
  stack := PySem.W.envX q scope s.heap.objs.size f (.ref c) cl :: outer
  ex := []
  calm := true
  fn := fun _ => false
  pn := []
  xe := fun _ _ => False
theorem callFunQ {prog : Program} {w : World} {A : Around} {R : Result → Shared → Prop} {s : Shared} {a : Addr} {args : Args} {o : Obj} {fd : FuncData} {body : Expr} {q : Str} (hroom : A.depth < recursionLimit)
    (ho : s.heap.get? a = some o)
    (hd' : o.data = .func fd) (hco : fd.scope.isCoroutine = false) (hgen : fd.scope.isGenerator = false) (hbody : fd.body = .expr body) (hcd : ∃ c oc vs t, fd.code = .ref c ∧ s.heap.get? c = some oc ∧ oc.data = .fields vs ∧ vs[1]? = some (.str q t))
    (h : wpAny (model prog w) A.in1 (bindArgs fd args) (fun binds s₁ =>
      wpAny (model prog w) A.in1 (newFunctionEnv fd.scope fd.globals fd.closure binds (q ++ ".<locals>.") (some a) fd.code none fd.builtins)
        (fun env s₂ => s₂.heap.NoLimit ∧ codeAny (model prog w) A (.expr body env) R s₂) (fun e s' => R (.error e) s') s₁) (fun e s' => R (.error e) s') s) :
    codeAny (model prog w) A (.call (.ref a) args) R s := by
  refine codeAny_of_tree ?_
  show wpAny _ A.in1 (callAny (.ref a) args) _ _ s
  simp only [callAny]
  refine wpAny_bind (wpAny_load ho ?_)
  obtain ⟨c, oc, vs, tq, hc, hoc, hdc, hq⟩ := hcd
  simp only [hd', callFunction, hco, hgen, hbody, hc]
  rw [hc] at h
  refine wpAny_bind (m := field (.ref c) 1) (wpAny_field hoc hdc hq (wpAny_bind (wpAny_pure ?_)))
  exact wpAny_bind (wpAny_mono h (fun binds s₁ h₁ => wpAny_bind (wpAny_mono h₁ (fun env s₂ h₂ => wpAny_bind (wpAny_enterFrame h₂.1 hroom
    (wpAny_pure (And.intro rfl h₂.2)))) fun _ _ h' => h')) fun _ _ h' => h')
theorem lam_ok {P : Program} {w : World} {K : PySem.W.Frag} {mg : Str → Option Value} {base : Heap} {f c : Addr} {qual : Str} {params : Arguments} {body : Expr} {scope : Scope} {cl : List (Str × Addr)} {ps fr : List Str} {fv : List V} {k : Nat} {sp : Sp}
    (S : LamScope ps fr scope) (hcl : ∀ x cc, cl.lookup x = some cc → ∃ v, base.IsCell cc v) (inj : ∀ x y cc, cl.lookup x = some cc → cl.lookup y = some cc → x = y) (has : ∀ y ∈ scope.names, y.2 = .free → ∃ cc, cl.lookup y.1 = some cc)
    (hfv : ∀ (i : Nat) (x : Str) (v : V), fr[i]? = some x → fv[i]? = some v → ∃ cc u, cl.lookup x = some cc ∧ RelV v u ∧ base.IsCell cc (some u)) (hlen : fv.length = fr.length)
    (hsame : ∀ pm ctv args, bindArgs (PySem.W.kla_fn "<lambda>" qual params body scope cl pm (.ref c) ctv) args = bindArgs (PySem.W.kla_fn "<lambda>" qual params body scope cl .none (.ref c) .none) args)
    (len : ∀ vs H Q E, sp vs H Q E → vs.length = ps.length)
    (lam : ∀ vs H Q E, sp vs H Q E → H f = some (.ext (lamP f qual params body scope cl c)) ∧ H c = some (.ext (codeP c)))
    (hbody : ∀ (q : Str) (A : Around) (outer : List Env) (s : Shared) (H : Hp) (vs : List V) (Q : VK) (E : XK), Room k (A.deeper (PySem.W.envX q scope s.heap.objs.size f (.ref c) cl)) → sp vs H Q E →
      ∃ t, PE (cxLam P w K mg base (ps ++ fr) q scope f c cl A outer s H) body t ∧ t (vs.map some ++ fv.map some) H Q) :
    FnOk P w K mg base CX0 (k + 1) f (PySem.W.kla_fn "<lambda>" qual params body scope cl .none (.ref c) .none) ps sp := by
  refine ⟨len, fun A outer s H args us vs Q E hr e0 hb r hsp => ?_⟩
  have hl := len _ _ _ _ hsp
  obtain ⟨hf, hc⟩ := lam _ _ _ _ hsp
  obtain ⟨pm, ctv, ho⟩ := ext_ok hf e0.hok
  obtain ⟨oc, vsc, q, t, hoc, hdc, hqc⟩ := ext_ok hc e0.hok
  have lim : s.heap.NoLimit := e0.mod.nolimit.keeps fun b o e => (e0.bs b o e).1
  have toS : ∀ {cc v}, base.IsCell cc v → s.heap.IsCell cc v ∧ H cc = none := fun {cc v} ⟨o, e, d⟩ => ⟨⟨o, (e0.bs _ _ e).1, d⟩, (e0.bs _ _ e).2⟩
  refine callFunQ hr.depth ho rfl S.co S.gen rfl ⟨c, oc, vsc, t, rfl, hoc, hdc, hqc⟩ ?_
  rw [hsame]
  refine hb _ _ _ _ ?_
  have hloc : ∀ y ∈ ps.zip us, scope.names.lookup y.1 = some .local := fun ⟨n, v⟩ hy => S.par n (List.of_mem_zip hy).1
  refine wpAny_newFunctionEnv S.nocell hloc (fun h₁ hns hsb => ?_) S.kind
  have hk₁ : ∀ b o, s.heap.get? b = some o → h₁.get? b = some o := fun b o e => hsb.extBut b o (Nat.ne_of_lt (Heap.lt_size e)) (Heap.get?_push_of_some _ e)
  refine ⟨lim.keeps hk₁, ?_⟩
  obtain ⟨tt, ht, hq⟩ := hbody q A outer s H vs Q E (hr.deeper _) hsp
  have noA : ∀ b : Addr, b ∉ ([] : List Addr) := fun b z => by simp at z
  have kinds : ∀ x, (scope.names.lookup x = some .cell ∨ scope.names.lookup x = some .free) → ∃ cc, cl.lookup x = some cc := fun x hx => by
    rcases hx with z | z
    · exact absurd rfl (S.nocell _ (PySem.mem_of_lookup z))
    · exact has _ (PySem.mem_of_lookup z) rfl
  have I : Inv (cxLam P w K mg base (ps ++ fr) q scope f c cl A outer s H) [] (vs.map some ++ fv.map some) H { s with heap := h₁, toks := s.toks + (ps.zip us).length } := by
    refine ⟨⟨e0.mod, S.kind, rfl, rfl, Nat.le_refl _, inj, kinds, fun x cc z => (by cases z), fun _ => hr.hd, Around.frames_deeper e0.frames, .inr ⟨rfl, rfl⟩, fun b z => absurd z (noA b), e0.bs, e0.bsz, fun b _ _ => noA b, fun b z => absurd z (noA b), e0.funs, e0.frf⟩,
      rfl, e0.bare, Un.kept hk₁, ⟨_, hns, fun i x v h1 h2 h3 => ?_⟩, fun x cc e => ?_, e0.hok.fresh (Nat.le_refl _), fun x cc e => ?_, fun p hp => absurd (show p ∈ ([] : List (Addr × Obj)) from hp) (by simp), e0.hok.kept hk₁, ?_⟩
    · have h1' : (ps ++ fr)[i]? = some x := h1
      by_cases hi : i < ps.length
      · rw [List.getElem?_append_left hi] at h1'
        rw [List.getElem?_append_left (by rw [List.length_map, hl]; exact hi), List.getElem?_map] at h2
        obtain ⟨v', hv, e⟩ := Option.map_eq_some_iff.mp h2
        cases e
        obtain ⟨u, hu, rv⟩ := r.get hv
        exact ⟨u, rv, .inl ⟨S.par x (List.mem_of_getElem? h1'), rev_lookup_zip S.nd h1' hu⟩⟩
      · rw [List.getElem?_append_right (by omega)] at h1'
        rw [List.getElem?_append_right (by rw [List.length_map, hl]; omega), List.getElem?_map, List.length_map, hl] at h2
        obtain ⟨v', hv, e⟩ := Option.map_eq_some_iff.mp h2
        cases e
        obtain ⟨cc, u, e1, ru, ic⟩ := hfv _ _ _ h1' hv
        exact ⟨u, ru, .inr ⟨.inr (S.fre x (List.mem_of_getElem? h1')), cc, e1, (toS ic).1.keeps hk₁⟩⟩
    · obtain ⟨v, ic⟩ := hcl x cc e
      exact ⟨v, (toS ic).1.keeps hk₁⟩
    · obtain ⟨v, ic⟩ := hcl x cc e
      exact (toS ic).2
    · show (vs.map some ++ fv.map some).length = (ps ++ fr).length
      rw [List.length_append, List.length_append, List.length_map, List.length_map, hl, hlen]
  refine PySem.W.kla_codeExpr (wpAny_mono (ht [] _ _ H _ I hq) (fun u s' hs => ?_) fun e s' hs => hs.elim)
  obtain ⟨v, H', J, rv, qq⟩ := hs
  exact ⟨v, H', J.os, J.bare, J.base, J.hok, rv, qq⟩

/-! ### a def that makes lambdas: its code object is known -/
theorem Fun.okC {P : Program} {w : World} {K : PySem.W.Frag} {mg : Str → Option Value} {base : Heap} {x qual : Str} {st : Stmt} {f : Addr} {fd : FuncData} {N ps : List Str} {k : Nat} {sp : Sp} (F : Fun K x qual st f fd) (S : FnScope N ps (defScope st)) (len : ∀ vs H Q E, sp vs H Q E → vs.length = ps.length)
    (hbody : ∀ (cdv : Value) (A : Around) (outer : List Env) (s : Shared) (H : Hp) (vs : List V) (Q : VK) (E : XK), fd.code = cdv → Room k (A.deeper (envOfC qual (defScope st) s.heap.objs.size f cdv)) → sp vs H Q E →
      ∃ t, PSs (cxOf CX0 P w K mg base N qual (defScope st) f cdv A outer s H E).nox (defBody st) t ∧ t { nx := fun _ H' => Q .non H', rt := Q } (start N vs) H) : FnOk P w K mg base CX0 (k + 1) f fd ps sp := by
  obtain ⟨oc, od, kV, doc, pm, an, cdv, ct, osl, rfl, lk, hcd⟩ := F.ex
  refine fn_of lk hcd S len fun A outer s H vs Q E hr hsp => ?_
  obtain ⟨t, h, q⟩ := hbody cdv A outer s H vs Q E rfl hr hsp
  exact ⟨t, h.nox, q⟩
/-! ### the head of a law that comes to lambdas: the tables of their defs are tracked -/
theorem law_callT {P : Program} {w : World} {K : PySem.W.Frag} {mg mb : Str → Option Value} {k : Nat} {fa a : Addr} {fd : FuncData} {x : Str} {sp : Sp} {s₁ : Shared} {vs : List Value} {ns : List Int} {tabs : List (Addr × Addr)}
    (KX : K.In s₁.heap) (hns : s₁.heap.Ns mainGlobals mg) (hb : s₁.heap.Ns builtinsNs mb) (hbb : ∀ x : Str, x ≠ "__name__" → mb x = bootBuiltins x) (hlim : s₁.heap.NoLimit) (hg : s₁.gens = #[])
    (hT : PySem.W.TabsAt tabs s₁.heap) (hK0 : PySem.W.noTabs K = true)
    (hbm : ∃ bm ob, mg "__builtins__" = some (.ref bm) ∧ bm ≠ builtinsNs ∧ s₁.heap.get? bm = some ob ∧ ob.cls = .type "module" ∧ ob.dict = some builtinsNs ∧ ob.data = .plain)
    (ha : s₁.heap.get? a = some { cls := .type "list", data := .seq vs.toArray }) (hi : IntsAre vs ns) (hl : ns.length ≤ sizeLine) (hr : Room k callerA)
    (F : ∀ base : Heap, K.In base → base.Ns mainGlobals mg → (∀ q ∈ tabs, LamB mg base q.1 q.2) → FnOk P w K mg base CX0 k fa fd [x] sp) (hbind : ∀ (s : Shared) (u : Value), BindsTo s fd ⟨[u], []⟩ [(x, u)])
    (hsp : ∀ H : Hp, (∀ q ∈ tabs, TabOk H q.2) → SqL K H a (ns.map V.int) → sp [.ref a] H (fun v _ => v = .bl true) fun _ _ _ => False) :
    codeAny (model P w) callerA (.call (.ref fa) ⟨[.ref a], []⟩) (fun r s' => r = .ok (.ret (.bool true)) ∧ OldK s₁.heap s'.heap ∧ s'.os = s₁.os ∧ AllBare s'.gens) s₁ := by
  have rv := vals_ints hi
  have lenV := hi.length
  have hPa : ∀ q ∈ tabs, q.2 ≠ a := fun q hq z => by
    have e := (hT q hq).2
    rw [z, ha] at e; cases e
  have hKP : ∀ q ∈ tabs, K.lookup q.2 = none := fun q hq => by
    cases e : K.lookup q.2 with
    | none => rfl
    | some o =>
      have e1 := KX _ _ e
      rw [(hT q hq).2] at e1
      cases e1
      have h2 := List.all_eq_true.mp hK0 (q.2, _) (PySem.W.mem_of_lookupK e)
      exact absurd (show false = true from h2) Bool.false_ne_true
  have core : ∀ H : Hp, (∀ b, H b = none ∨ (∃ o xs, H b = some (.frz o (.lst xs)) ∧ b = a ∧ K.lookup a = none) ∨ (H b = some (.tbl #[]) ∧ b ∈ tabs.map (·.2))) → (∀ q ∈ tabs, H q.2 = some (.tbl #[])) → SqL K H a (ns.map V.int) → HOk P w H s₁.heap →
      codeAny (model P w) callerA (.call (.ref fa) ⟨[.ref a], []⟩) (fun r s' => r = .ok (.ret (.bool true)) ∧ OldK s₁.heap s'.heap ∧ s'.os = s₁.os ∧ AllBare s'.gens) s₁ := by
    intro H hO hTb hS hok
    have noP : ∀ {b : Addr} {o : Obj}, s₁.heap.get? b = some o → o ≠ PySem.W.tabObj #[] → b ≠ a → H b = none := fun {b o} e hne hba => by
      rcases hO b with z | ⟨_, _, _, z, _⟩ | ⟨_, z⟩
      · exact z
      · exact absurd z hba
      · obtain ⟨q, hq, rfl⟩ := List.mem_map.mp z
        rw [(hT q hq).2] at e
        exact absurd (Option.some.inj e).symm hne
    have base_of : ∀ {b : Addr} {o : Obj}, s₁.heap.get? b = some o → H b = none → (hidT s₁.heap H).get? b = some o := fun e n => hidT_get e n
    have noA : ∀ {b : Addr} {o : Obj} {es : Array DictEntry} {ep : Nat}, s₁.heap.get? b = some o → o.data = .dict es ep → H b = none := fun {b o es ep} e d => by
      refine noP e (fun z => by rw [z] at d; cases d) fun z => ?_
      subst z
      rw [ha] at e; cases e; cases d
    have nsK : ∀ {b : Addr} {m : Str → Option Value}, s₁.heap.Ns b m → (hidT s₁.heap H).Ns b m := fun {b m} ⟨o, es, ep, e, d, r⟩ => ⟨o, es, ep, base_of e (noA e d), d, r⟩
    have hKb : K.In (hidT s₁.heap H) := fun b o e => base_of (KX b o e) (by
      rcases hO b with z | ⟨_, _, _, z, y⟩ | ⟨_, z⟩
      · exact z
      · rw [z, y] at e; cases e
      · obtain ⟨q, hq, rfl⟩ := List.mem_map.mp z
        rw [hKP q hq] at e; cases e)
    have hM : Mod K mg (hidT s₁.heap H) := ⟨hKb, nsK hns, ⟨mb, nsK hb, hbb⟩, let ⟨mc, h1, h2⟩ := hlim; ⟨mc, nsK h1, h2⟩⟩
    have hL : ∀ q ∈ tabs, LamB mg (hidT s₁.heap H) q.1 q.2 := fun q hq => by
      refine ⟨?_, ?_⟩
      · obtain ⟨o, ws, file, tf, flags, tg, inF, text, tt, e, e1, r⟩ := (hT q hq).1
        refine ⟨o, ws, file, tf, flags, tg, inF, text, tt, base_of e (noP e (fun z => by rw [z] at e1; cases e1) fun z => ?_), e1, r⟩
        rw [z, ha] at e; cases e; exact absurd e1 (by simp)
      · obtain ⟨bm, ob, b1, b2, b3, b4, b5⟩ := hbm
        refine ⟨bm, ob, b1, b2, base_of b3 (noP b3 (fun z => by rw [z] at b4; cases b4) fun z => ?_), b4, b5⟩
        rw [z, ha] at b3; cases b3; exact absurd b4 (by simp)
    have e0 : Env0 P w K mg (hidT s₁.heap H) callerA [] s₁ H := ⟨rfl, hM, fun b o e => of_hidT e, Nat.le_of_eq (hidT_size _ _), trivial, fun b hb => absurd (show b ∈ ([] : List Addr) from hb) (by simp), hok, .of_eq hg⟩
    have tk : ∀ q ∈ tabs, TabOk H q.2 := fun q hq => ⟨#[], hTb q hq, trivial, fun _ => .inl rfl⟩
    refine codeAny_mono ((F _ hKb (nsK hns) hL).run callerA [] s₁ H ⟨[.ref a], []⟩ [.ref a] [.ref a] _ _ hr e0 (hbind s₁ (.ref a)) (.cons rfl .nil) (hsp H tk hS)) fun r s' h => ?_
    cases r with
    | error e => exact h.elim
    | ok fl =>
      cases fl with
      | next => exact False.elim h
      | brk => exact False.elim h
      | cont => exact False.elim h
      | ret u =>
        obtain ⟨v, H', os, bare, un, hok', r', q⟩ := h
        have q' : v = .bl true := q
        subst q'
        obtain rfl : u = Value.bool true := r'
        have cases3 : ∀ b o, s₁.heap.get? b = some o → s'.heap.get? b = some o ∨ (∃ q ∈ tabs, b = q.2 ∧ ∃ ps, s'.heap.get? b = some (PySem.W.tabObj ps)) := fun b o e => by
          rcases hO b with z | ⟨ob, xs, z, _⟩ | ⟨z, y⟩
          · exact .inl (un.keep b o e z (by intro z; exact absurd (show b ∈ ([] : List Addr) from z) (by simp)) (by simp))
          · have z2 := un.frzs b ob _ z
            obtain ⟨e1, _⟩ := hok b _ z
            obtain ⟨e2, _⟩ := hok' b _ z2
            rw [e] at e1; cases e1
            exact .inl e2
          · obtain ⟨q, hq, rfl⟩ := List.mem_map.mp y
            obtain ⟨more, z2⟩ := un.tbls _ _ z
            exact .inr ⟨q, hq, rfl, _, hok' _ _ z2⟩
        refine ⟨rfl, ⟨fun b o e => ?_, fun b o e => ?_⟩, os, bare⟩
        · rcases cases3 b o e with z | ⟨q, hq, rfl, ps, z⟩
          · exact .inl z
          · have e2 := (hT q hq).2
            rw [e] at e2
            cases e2
            exact .inr (.inl ⟨((hT q hq).1.tab (hT q hq).2).isCodeTable, rfl, #[], ps, rfl, by rw [Array.empty_append]; exact z⟩)
        · rcases cases3 b o e with z | ⟨q, hq, rfl, ps, z⟩
          · exact ⟨_, z⟩
          · exact ⟨_, z⟩
  have memT : ∀ b, b ∈ tabs.map (·.2) → s₁.heap.get? b = some (PySem.W.tabObj #[]) := fun b hb => by
    obtain ⟨q, hq, rfl⟩ := List.mem_map.mp hb
    exact (hT q hq).2
  cases hk : K.lookup a with
  | some o =>
    have e := KX a o hk
    rw [ha] at e
    cases e
    refine core (fun b => if b ∈ tabs.map (·.2) then some (.tbl #[]) else none) (fun b => ?_) (fun q hq => if_pos (List.mem_map_of_mem hq)) (.inr ⟨_, vs.toArray, _, hk, rfl, rfl, rfl, by rw [List.size_toArray, lenV]; exact hl, by simpa using rv⟩) (fun b u z => ?_)
    · by_cases hb : b ∈ tabs.map (·.2)
      · exact .inr (.inr ⟨if_pos hb, hb⟩)
      · exact .inl (if_neg hb)
    · by_cases hb : b ∈ tabs.map (·.2)
      · have z' := (if_pos hb).symm.trans z
        cases z'
        exact memT b hb
      · have z' := (if_neg hb).symm.trans z
        cases z'
  | none =>
    refine core (fun b => if b = a then some (.frz { cls := .type "list", data := .seq vs.toArray } (.lst (ns.map V.int))) else if b ∈ tabs.map (·.2) then some (.tbl #[]) else none) (fun b => ?_) (fun q hq => ?_) (.inl (.inr ⟨{ cls := .type "list", data := .seq vs.toArray }, if_pos rfl⟩)) (fun b u z => ?_)
    · by_cases hb : b = a
      · exact .inr (.inl ⟨_, _, if_pos hb, hb, hk⟩)
      · by_cases hb2 : b ∈ tabs.map (·.2)
        · exact .inr (.inr ⟨(if_neg hb).trans (if_pos hb2), hb2⟩)
        · exact .inl ((if_neg hb).trans (if_neg hb2))
    · exact (if_neg (hPa q hq)).trans (if_pos (List.mem_map_of_mem hq))
    · by_cases hb : b = a
      · have z' := (if_pos hb).symm.trans z
        cases z'
        subst hb
        exact ⟨ha, by rw [List.length_map]; exact hl, vs, _, rv, ha⟩
      · have z1 := (if_neg hb).symm.trans z
        by_cases hb2 : b ∈ tabs.map (·.2)
        · have z' := (if_pos hb2).symm.trans z1
          cases z'
          exact memT b hb2
        · have z' := (if_neg hb2).symm.trans z1
          cases z'
/-- the goal that k_head leaves, of a law that comes to lambdas; x the defs that make them -/
theorem walk_ofT {l : PySem.W.OpenLaw} {n k : Nat} {q : Program} {loose : List Str} {XP : (Str → Option Value) → Heap → Prop} {YP : World → Heap → Prop} {d : DefRec} {K : Params → PySem.W.Frag} {sp : World → Sp} {x : Str} {tabs : World → List (Addr × Addr)}
    (hn : l.most = some n) (hn2 : n ≤ sizeLine) (hdf : d.params.defaults = []) (hr : Room k callerA)
    (hY : ∀ (w : World) (h : Heap), YP w h → (K w.params).In h) (hK0 : ∀ w : World, PySem.W.noTabs (K w.params) = true)
    (hT : ∀ (w : World) (h : Heap), YP w h → PySem.W.TabsAt (tabs w) h)
    (F : ∀ (w : World) (mg : Str → Option Value) (fa : Addr) (h : Heap), (K w.params).In h → h.Ns mainGlobals mg → mg d.name = some (.ref fa) →
      ∃ fd : FuncData, (∀ (s : Shared) (u : Value), BindsTo s fd ⟨[u], []⟩ [(x, u)]) ∧
        ∀ base : Heap, (K w.params).In base → base.Ns mainGlobals mg → (∀ p ∈ tabs w, LamB mg base p.1 p.2) → FnOk l.prog w (K w.params) mg base CX0 k fa fd [x] (sp w))
    (hsp : ∀ (w : World) (H : Hp) (a : Addr) (ns : List Int), ns.length ≤ n → (∀ p ∈ tabs w, TabOk H p.2) → SqL (K w.params) H a (ns.map V.int) → sp w [.ref a] H (fun v _ => v = .bl true) fun _ _ _ => False) :
    PySem.W.WalkO q loose XP YP l.row.toRowW d [] (fun f vs => PySem.call f vs) := by
  refine Att.attach_call hn hdf fun w s₀ s₁ mg mb fa o pm cd doc a vs ns G Y ho hd hcd hmg hobj hints hlen hg => ?_
  have KX := hY w _ Y
  obtain ⟨fd, hb, hF⟩ := F w mg fa _ KX G.T.g hmg
  have hTT := hT w _ Y
  exact law_callT KX G.T.g G.T.b G.T.builtins G.T.nolimit hg hTT (hK0 w) G.T.bmain hobj hints (Nat.le_trans hlen hn2) hr hF hb fun H hO hS => hsp w H a ns hlen hO hS
/-- the pieces of a written lambda -/
def lastArg : Expr → Expr
  | .Call _ args _ _ => args.getLastD (.Constant .none 0 ⟨0, 0, 0, 0⟩)
  | e => e
def lamScope : Expr → Scope
  | .Lambda _ _ sc _ => sc
  | _ => { kind := .function, names := [], isGenerator := false, isCoroutine := false }
theorem lookup_one {x y : Str} {c cc : Addr} (h : [(y, c)].lookup x = some cc) : x = y ∧ cc = c := by
  have m := PySem.mem_of_lookup h
  rw [List.mem_singleton] at m
  cases m
  exact ⟨rfl, rfl⟩
end L2

set_option maxRecDepth 100000
set_option maxHeartbeats 4000000
namespace Wd
open PySem L2 Ow
/-! ### trees told with leaves of a function -/
/-- a promise at a heap where a table of code is tracked -/
def spT (P0 : Addr) (sp : Sp) : Sp := fun vs H Q E => TabOk H P0 ∧ sp vs H Q E
def toldD (ts : List Tie) (il : List Nat) (m : Nat) (leaf : Nat → Nat → Option PyData) : Nat → Nat → Nat → PyData
  | f, y, n => match firstSB ts il y n with
    | some t => .tuple [.str ("broken" : Str), .int (t : Int)]
    | none => match leaf y n with
      | some d => d
      | none => match openL m y n, f with
        | k :: _, f + 1 => .tuple [.str ("split" : Str), .int (k : Int), toldD ts il m leaf f (y ||| 2 ^ k) n, toldD ts il m leaf f y (n ||| 2 ^ k)]
        | _, _ => .tuple []
section
variable {ts : List Tie} {il : List Nat} {m f y n : Nat} {leaf : Nat → Nat → Option PyData}
theorem toldD_broken {i : Nat} (hb : firstSB ts il y n = some i) : toldD ts il m leaf f y n = .tuple [.str ("broken" : Str), .int (i : Int)] := by
  unfold toldD
  simp [hb]
theorem toldD_leaf {d : PyData} (hb : firstSB ts il y n = none) (hl : leaf y n = some d) : toldD ts il m leaf f y n = d := by
  unfold toldD
  simp [hb, hl]
theorem toldD_split {k : Nat} {r : List Nat} (hb : firstSB ts il y n = none) (hl : leaf y n = none) (ho : openL m y n = k :: r) : toldD ts il m leaf (f + 1) y n = .tuple [.str ("split" : Str), .int (k : Int), toldD ts il m leaf f (y ||| 2 ^ k) n, toldD ts il m leaf f y (n ||| 2 ^ k)] := by
  conv => lhs; unfold toldD
  simp only [hb, hl, ho]
end
/-- what a leaf's function told -/
def LeafV (leaf : Nat → Nat → Option PyData) (y n : Nat) (H : Hp) (v : V) : Prop := match leaf y n with
  | none => v = .non
  | some d => Dn H d v ∧ ∃ p, v = .ref p
def spLf (C : Hp → Prop) (leaf : Nat → Nat → Option PyData) : Sp := fun vs H Q _ => ∃ y n : Nat, vs = [.int y, .int n] ∧ C H ∧ ∀ (v : V) (H' : Hp), Same H H' → LeafV leaf y n H' v → Q v H'
/-- at the stands that are come to, a leaf is told where nothing is open -/
def EndsR (ts : List Tie) (il : List Nat) (m : Nat) (leaf : Nat → Nat → Option PyData) (y n : Nat) : Prop := ∃ R : Nat → Nat → Prop, R y n ∧ (∀ y n k, R y n → k ∈ openL m y n → R (y ||| 2 ^ k) n ∧ R y (n ||| 2 ^ k)) ∧ ∀ y n, R y n → firstSB ts il y n = none → openL m y n = [] → leaf y n ≠ none
theorem EndsR.all {ts : List Tie} {il : List Nat} {m : Nat} {leaf : Nat → Nat → Option PyData} (h : ∀ y n, firstSB ts il y n = none → openL m y n = [] → leaf y n ≠ none) (y n : Nat) : EndsR ts il m leaf y n := ⟨fun _ _ => True, trivial, fun _ _ _ _ _ => ⟨trivial, trivial⟩, fun y n _ => h y n⟩
def spToldF (f : Nat) (p : Addr) (C : Hp → Prop) (m : Nat) (leaf : Nat → Nat → Option PyData) : Sp := fun vs H Q _ => ∃ (wd : Addr) (ts : List Tie) (tl : Addr) (il : List Nat) (y n : Nat), vs = [.ref wd, .ref tl, .int y, .int n, .ref p] ∧ WoodT H wd m ts ∧ H tl = some (.lst (natsL il)) ∧ (∀ i ∈ il, i < ts.length) ∧ (openL m y n).length ≤ f ∧ C H ∧ EndsR ts il m leaf y n ∧ ∀ (v : V) (H' : Hp), Same H H' → Dn H' (toldD ts il m leaf f y n) v → Q v H'
/-- a lambda as a leaf's function -/
theorem lam_fn {P : Program} {w : World} {K : PySem.W.Frag} {mg : Str → Option Value} {base : Heap} {p c : Addr} {qual : Str} {params : Arguments} {body : Expr} {scope : Scope} {cl : List (Str × Addr)} {H1 : Hp} {ps fr : List Str} {fv : List V} {k : Nat} {leaf : Nat → Nat → Option PyData} (C0 : Hp → Prop)
    (hp : H1 p = some (.ext (lamP p qual params body scope cl c)))
    (S : LamScope ps fr scope) (hcl : ∀ x cc, cl.lookup x = some cc → ∃ v, base.IsCell cc v) (inj : ∀ x y cc, cl.lookup x = some cc → cl.lookup y = some cc → x = y) (has : ∀ y ∈ scope.names, y.2 = .free → ∃ cc, cl.lookup y.1 = some cc)
    (hfv : ∀ (i : Nat) (x : Str) (v : V), fr[i]? = some x → fv[i]? = some v → ∃ cc u, cl.lookup x = some cc ∧ RelV v u ∧ base.IsCell cc (some u)) (hlen : fv.length = fr.length)
    (hsame : ∀ pm ctv args, bindArgs (PySem.W.kla_fn "<lambda>" qual params body scope cl pm (.ref c) ctv) args = bindArgs (PySem.W.kla_fn "<lambda>" qual params body scope cl .none (.ref c) .none) args)
    (len2 : ps.length = 2)
    (hbody : ∀ (q : Str) (A : Around) (outer : List Env) (s : Shared) (H : Hp) (y n : Nat) (Q : VK), Room k (A.deeper (PySem.W.envX q scope s.heap.objs.size p (.ref c) cl)) → C0 H → (∀ (v : V) (H' : Hp), Same H H' → LeafV leaf y n H' v → Q v H') →
      ∃ t, PE (cxLam P w K mg base (ps ++ fr) q scope p c cl A outer s H) body t ∧ t ([some (.int y), some (.int n)] ++ fv.map some) H Q) :
    FnOk P w K mg base CX0 (k + 1) p (PySem.W.kla_fn "<lambda>" qual params body scope cl .none (.ref c) .none) ps (spLf (fun H => C0 H ∧ H p = some (.ext (lamP p qual params body scope cl c)) ∧ H c = some (.ext (codeP c))) leaf) := by
  refine lam_ok S hcl inj has hfv hlen hsame (fun vs H Q E h => ?_) (fun vs H Q E h => ?_) (fun q A outer s H vs Q E hr h => ?_)
  · obtain ⟨y, n, rfl, _⟩ := h
    exact len2.symm
  · obtain ⟨y, n, rfl, ⟨_, h1, h2⟩, _⟩ := h
    exact ⟨h1, h2⟩
  · obtain ⟨y, n, rfl, ⟨h0, _, _⟩, q'⟩ := h
    exact hbody q A outer s H y n Q hr h0 q'
theorem lamP_fn {p : Addr} {qual : Str} {params : Arguments} {body : Expr} {scope : Scope} {cl : List (Str × Addr)} {c : Addr} (h : Heap) (x : lamP p qual params body scope cl c h) : ∃ o fd', h.get? p = some o ∧ o.data = .func fd' := by
  obtain ⟨pm, ctv, e⟩ := x
  exact ⟨_, _, e, rfl⟩
/-- the leaves of a tree of cases -/
def wareLeaf (m : Nat) (y n : Nat) : Option PyData := if openL m y n = [] then some (.tuple [.str ("ware" : Str)]) else none
theorem told_cases {ts : List Tie} {il : List Nat} {m : Nat} : ∀ (f y n : Nat), (openL m y n).length ≤ f → toldD ts il m (wareLeaf m) f y n = (casesF ts il m f y n).toD
  | f, y, n, hf => by
    cases hb : firstSB ts il y n with
    | some i => rw [toldD_broken hb, casesF_broken hb]; rfl
    | none =>
      cases ho : openL m y n with
      | nil => rw [toldD_leaf hb (by unfold wareLeaf; rw [if_pos ho]), casesF_full hb ho]; rfl
      | cons k r =>
        cases f with
        | zero => rw [ho] at hf; simp at hf
        | succ f =>
          have hk : k ∈ openL m y n := by rw [ho]; exact List.mem_cons_self
          have l1 := open_less1 hk
          have l2 := open_less2 hk
          rw [toldD_split hb (by unfold wareLeaf; rw [if_neg (by rw [ho]; simp)]) ho, casesF_split hb ho, told_cases f _ _ (by omega), told_cases f _ _ (by omega)]
          rfl
end Wd

set_option maxRecDepth 100000
set_option maxHeartbeats 4000000
namespace Wd
open PySem L2 Ow
/-! ### the wares of a wood, in their order -/
def wareL (m : Nat) (ts : List Tie) : List Nat := (List.range (2 ^ m)).filter fun s => wareB ts s
theorem mem_wareL {m : Nat} {ts : List Tie} {s : Nat} : s ∈ wareL m ts ↔ s < 2 ^ m ∧ wareB ts s = true := by
  unfold wareL
  rw [List.mem_filter, List.mem_range]
theorem wareL_pw (m : Nat) (ts : List Tie) : (wareL m ts).Pairwise (· < ·) := List.Pairwise.filter _ List.pairwise_lt_range
theorem wareL_few {m : Nat} {ts : List Tie} (m9 : m ≤ 9) : (wareL m ts).length ≤ 512 := by
  have h1 : (wareL m ts).length ≤ 2 ^ m := by
    have := List.length_filter_le (fun s => wareB ts s) (List.range (2 ^ m))
    rwa [List.length_range] at this
  exact Nat.le_trans h1 (Nat.pow_le_pow_right (by decide) m9 : 2 ^ m ≤ 2 ^ 9)
theorem leaves_nodup {m : Nat} {ts : List Tie} {il : List Nat} (ok : ∀ t ∈ ts, t.Ok m) : ∀ (f y n : Nat), (openL m y n).length ≤ f → Stand m y n → ((casesF ts il m f y n).leaves y).Nodup
  | f, y, n, hf, S => by
    cases hb : firstSB ts il y n with
    | some i => rw [casesF_broken hb]; exact List.nodup_nil
    | none =>
      cases ho : openL m y n with
      | nil => rw [casesF_full hb ho]; exact List.nodup_cons.mpr ⟨List.not_mem_nil, List.nodup_nil⟩
      | cons k r =>
        have hk : k ∈ openL m y n := by rw [ho]; exact List.mem_cons_self
        cases f with
        | zero => rw [ho] at hf; simp at hf
        | succ f =>
          have l1 := open_less1 hk
          have l2 := open_less2 hk
          rw [casesF_split hb ho]
          show ((casesF ts il m f (y ||| 2 ^ k) n).leaves (y ||| 2 ^ k) ++ (casesF ts il m f y (n ||| 2 ^ k)).leaves y).Nodup
          refine List.nodup_append.mpr ⟨leaves_nodup ok f _ _ (by omega) (S.one hk), leaves_nodup ok f _ _ (by omega) (S.other hk), fun a ha b hb' e => ?_⟩
          subst e
          have h1 := ((leaves_iff ok f _ _ (by omega) (S.one hk) a).mp ha).2.1.1 k (by rw [Nat.testBit_or, Nat.testBit_two_pow_self, Bool.or_true])
          have h2 := ((leaves_iff ok f _ _ (by omega) (S.other hk) a).mp hb').2.1.2 k (by rw [Nat.testBit_or, Nat.testBit_two_pow_self, Bool.or_true])
          rw [h1] at h2
          cases h2
theorem stand1 {m : Nat} (m1 : 1 ≤ m) : Stand m 1 0 := ⟨fun _ _ => Nat.zero_testBit _, Nat.lt_of_lt_of_le (by decide) (Nat.pow_le_pow_right (by decide) m1 : 2 ^ 1 ≤ 2 ^ m), Nat.two_pow_pos m⟩
theorem wares_perm {m : Nat} {ts : List Tie} (ok : ∀ t ∈ ts, t.Ok m) (m1 : 1 ≤ m) (f : Nat) (hf : (openL m 1 0).length ≤ f) : ((casesF ts (allT ts) m f 1 0).leaves 1).Perm (wareL m ts) := by
  refine (List.perm_ext_iff_of_nodup (leaves_nodup ok f 1 0 hf (stand1 m1)) ((wareL_pw m ts).imp fun h => Nat.ne_of_lt h)).mpr fun s => ?_
  rw [leaves_iff ok f 1 0 hf (stand1 m1), mem_wareL, allKeep_all]
  unfold wareB
  rw [Bool.and_eq_true]
  constructor
  · rintro ⟨h1, h2, h3⟩
    exact ⟨h1, h2.1 0 rfl, h3⟩
  · rintro ⟨h1, h2, h3⟩
    refine ⟨h1, ⟨fun k hk => ?_, fun k hk => ?_⟩, h3⟩
    · have : k = 0 := by
        rcases Nat.eq_zero_or_pos k with z | z
        · exact z
        · have e : (1 : Nat).testBit k = false := Nat.testBit_lt_two_pow (Nat.lt_of_lt_of_le (by decide : 1 < 2 ^ 1) (Nat.pow_le_pow_right (by decide) z))
          rw [e] at hk; cases hk
      rw [this]; exact h2
    · rw [Nat.zero_testBit] at hk; cases hk
/-- a sorted list of the same numbers is the list of the wares -/
theorem sorted_nats {ms : List Int} {L M : List Nat} (p : ms.Perm (L.map fun k : Nat => (k : Int))) (so : ms.Pairwise (· ≤ ·)) (q : L.Perm M) (pw : M.Pairwise (· < ·)) : ms = M.map fun k : Nat => (k : Int) := by
  refine List.Perm.eq_of_pairwise (le := (· ≤ ·)) (fun a b _ _ h1 h2 => Int.le_antisymm h1 h2) so ?_ (p.trans (q.map _))
  rw [List.pairwise_map]
  exact pw.imp fun h => by omega
def spWares : Sp := fun vs H Q _ => ∃ (wd : Addr) (m : Nat) (ts : List Tie), vs = [.ref wd] ∧ WoodT H wd m ts ∧ 1 ≤ m ∧ m ≤ 9 ∧ ∀ (l : Addr) (H' : Hp), Same H H' → H l = none → H' l = some (.lst (natsL (wareL m ts))) → Q (.ref l) H'
theorem castL_inj : ∀ {L M : List Nat}, (L.map fun k : Nat => (k : Int)) = (M.map fun k : Nat => (k : Int)) → L = M
  | [], [], _ => rfl
  | [], _ :: _, h => by cases h
  | _ :: _, [], h => by cases h
  | a :: L, b :: M, h => by
    rw [List.map_cons, List.map_cons] at h
    obtain ⟨h1, h2⟩ := List.cons.inj h
    rw [castL_inj h2, Int.ofNat.inj h1]
end Wd

set_option maxHeartbeats 4000000
namespace Srt
open PySem PyProof PyProof.Rows

def gallopR : Bool → Keyed → Array Keyed → Nat → Nat → Nat → StateT SortSt Sem (Option Nat) := sortPriv% PySem.Builtin.gallop
def mergeLoR : Array Keyed → Array Keyed → StateT SortSt Sem (Array Keyed) := sortPriv% PySem.Builtin.mergeLo
def mergeHiR : Array Keyed → Array Keyed → StateT SortSt Sem (Array Keyed) := sortPriv% PySem.Builtin.mergeHi

def kn (p : Keyed) : Int := numOf p.1
def IntK (p : Keyed) : Prop := ∃ n t, p.1 = .int n t
theorem K_kn {arr : Array Keyed} {i : Nat} {p : Keyed} (h : arr[i]? = some p) : K arr i = kn p := by unfold K; rw [h]; rfl
def gp (left : Bool) (key : Keyed) (arr : Array Keyed) (base i : Nat) : Bool := if left then decide (K arr (base + i) < kn key) else !decide (kn key < K arr (base + i))

section
variable {prog : Program} {w : World} {A : Around} {E : Value → Shared → Prop} {s : Shared}

theorem wpS_lt {st : SortSt} {x y : Keyed} {Q : Option Bool → SortSt → Prop} (hk : kindOf st = oneType') (hx : IntK x) (hy : IntK y) (h : Q (some (decide (kn x < kn y))) st) :
    wpS (model prog w) A E s (lt' x y) Q st := by
  obtain ⟨a, t, e1⟩ := hx
  obtain ⟨b, u, e2⟩ := hy
  obtain ⟨x1, x2⟩ := x
  obtain ⟨y1, y2⟩ := y
  cases e1; cases e2
  rw [lt'_eq]
  refine wpS_bind (wpS_get ?_)
  rw [hk, keyLt'_oneType]
  refine wpS_bind (wpS_lift (wpAny_attempt (oneLt_int ⟨rfl, ?_⟩)))
  exact wpS_pure h

theorem wpS_elem {st : SortSt} {arr : Array Keyed} {i : Nat} {p : Keyed} {Q : Keyed → SortSt → Prop} (hp : arr[i]? = some p) (h : Q p st) : wpS (model prog w) A E s (elem' arr i) Q st := by
  rw [elem'_eq, hp]; exact wpS_pure h

theorem wpS_gallop {st : SortSt} {left : Bool} {key : Keyed} {arr : Array Keyed} {base n hint : Nat} {Q : Option Nat → SortSt → Prop} (hk : kindOf st = oneType') (hkey : IntK key)
    (hall : ∀ i, i < n → ∃ p, arr[base + i]? = some p ∧ IntK p) (hs : ∀ i j, i ≤ j → j < n → K arr (base + i) ≤ K arr (base + j)) (hn : hint < n)
    (h : ∀ k, k ≤ n → (∀ i, i < k → gp left key arr base i = true) → (∀ i, k ≤ i → i < n → gp left key arr base i = false) → Q (some k) st) :
    wpS (model prog w) A E s (gallopR left key arr base n hint) Q st := by
  have hb : ∀ (i : Nat) (R : Option Bool → SortSt → Prop), i < n → R (some (gp left key arr base i)) st →
      wpS (model prog w) A E s (elem' arr (base + i) >>= fun x => if left = true then lt' x key else lt' key x >>= fun b => pure (b.map (!·))) R st := by
    intro i R hi hR
    obtain ⟨p, hp, ip⟩ := hall i hi
    refine wpS_bind (wpS_elem hp ?_)
    unfold gp at hR
    rw [K_kn hp] at hR
    cases left with
    | true => exact wpS_lt hk ip hkey hR
    | false => exact wpS_bind (wpS_lt hk hkey ip (wpS_pure hR))
  have mono : ∀ i j, i ≤ j → j < n → gp left key arr base j = true → gp left key arr base i = true := by
    intro i j hij hj hg
    have := hs i j hij hj
    unfold gp at hg ⊢
    cases left <;> simp at hg ⊢ <;> omega
  have anti : ∀ i j, i ≤ j → j < n → gp left key arr base i = false → gp left key arr base j = false := by
    intro i j hij hj hg
    cases hgj : gp left key arr base j with
    | false => rfl
    | true => rw [mono i j hij hj hgj] at hg; cases hg
  refine wpS_bind (hb hint _ hn ?_)
  dsimp only
  cases hr : gp left key arr base hint with
  | true =>
    rw [if_pos rfl]
    refine wpS_bind (wpS_mono (wpS_forRange
      (I := fun x c st' => st = st' ∧ ∃ la of, c = (none, la, of) ∧ la < of ∧ hint + la < n ∧ x + 1 ≤ of ∧ gp left key arr base (hint + la) = true)
      (Q := fun c st' => st = st' ∧ ∃ la of, c = (none, la, of) ∧ la < of ∧ hint + la < n ∧ gp left key arr base (hint + la) = true ∧ (of ≥ n - hint ∨ (hint + of < n ∧ gp left key arr base (hint + of) = false)))
      ?_ ?_ ⟨rfl, 0, 1, rfl, by omega, by omega, by omega, hr⟩) ?_)
    · rintro x c st' _ hx ⟨rfl, la, of, rfl, k1, k2, k3, k4⟩
      dsimp only
      by_cases hge : of ≥ n - hint
      · rw [if_pos hge]
        exact wpS_pure ⟨rfl, la, of, rfl, k1, k2, k4, .inl hge⟩
      · rw [if_neg hge]
        refine wpS_bind (hb _ _ (by omega) ?_)
        dsimp only
        cases hm : gp left key arr base (hint + of) with
        | true => exact wpS_pure ⟨rfl, of, 2 * of + 1, rfl, by omega, by omega, by omega, hm⟩
        | false => exact wpS_pure ⟨rfl, la, of, rfl, k1, k2, k4, .inr ⟨by omega, hm⟩⟩
    · rintro c st' ⟨rfl, la, of, rfl, k1, k2, k3, k4⟩
      exact ⟨rfl, la, of, rfl, k1, k2, k4, .inl (by omega)⟩
    · rintro c st' ⟨rfl, la, of, rfl, k1, k2, k4, k5⟩
      dsimp only
      have g1 : hint + la + 1 ≤ hint + min of (n - hint) := by omega
      have g2 : hint + min of (n - hint) ≤ n := by omega
      have g3 : ∀ i, i < hint + la + 1 → gp left key arr base i = true := fun i hi => mono i _ (by omega) k2 k4
      have g4 : ∀ i, hint + min of (n - hint) ≤ i → i < n → gp left key arr base i = false := fun i h1 h2 => by
        rcases k5 with z | ⟨z, hz⟩
        · omega
        · exact anti _ i (by omega) h2 hz
      refine wpS_bind (wpS_mono (wpS_forRange
        (I := fun x c st' => st = st' ∧ ∃ lo hi, c = (none, lo, hi) ∧ lo ≤ hi ∧ hi ≤ n ∧ hi - lo ≤ n - x ∧ (∀ i, i < lo → gp left key arr base i = true) ∧ (∀ i, hi ≤ i → i < n → gp left key arr base i = false))
        (Q := fun c st' => st = st' ∧ ∃ hi, c = (none, hi, hi) ∧ hi ≤ n ∧ (∀ i, i < hi → gp left key arr base i = true) ∧ (∀ i, hi ≤ i → i < n → gp left key arr base i = false))
        ?_ ?_ ⟨rfl, _, _, rfl, g1, g2, by omega, g3, g4⟩) ?_)
      · rintro x c st' _ hx ⟨rfl, lo, hi, rfl, k1, k2, k3, k4, k5⟩
        dsimp only
        by_cases hge : lo ≥ hi
        · rw [if_pos hge]
          have : lo = hi := by omega
          subst this
          exact wpS_pure ⟨rfl, lo, rfl, k2, k4, k5⟩
        · rw [if_neg hge]
          refine wpS_bind (hb _ _ (by omega) ?_)
          dsimp only
          by_cases hm : gp left key arr base (lo + (hi - lo) / 2) = true
          · rw [if_pos hm]
            exact wpS_pure ⟨rfl, _, _, rfl, by omega, k2, by omega, fun i hi' => mono i _ (by omega) (by omega) hm, k5⟩
          · rw [if_neg hm]
            exact wpS_pure ⟨rfl, _, _, rfl, by omega, by omega, by omega, k4, fun i h1 h2 => anti _ i h1 h2 (by simpa using hm)⟩
      · rintro c st' ⟨rfl, lo, hi, rfl, k1, k2, k3, k4, k5⟩
        have : lo = hi := by omega
        subst this
        exact ⟨rfl, lo, rfl, k2, k4, k5⟩
      · rintro c st' ⟨rfl, hi, rfl, k2, k4, k5⟩
        exact wpS_pure (h hi k2 k4 k5)
  | false =>
    rw [if_neg (by decide)]
    refine wpS_bind (wpS_mono (wpS_forRange
      (I := fun x c st' => st = st' ∧ ∃ la of, c = (none, la, of) ∧ la < of ∧ la ≤ hint ∧ x + 1 ≤ of ∧ gp left key arr base (hint - la) = false)
      (Q := fun c st' => st = st' ∧ ∃ la of, c = (none, la, of) ∧ la < of ∧ la ≤ hint ∧ gp left key arr base (hint - la) = false ∧ (of ≥ hint + 1 ∨ (of ≤ hint ∧ gp left key arr base (hint - of) = true)))
      ?_ ?_ ⟨rfl, 0, 1, rfl, by omega, by omega, by omega, hr⟩) ?_)
    · rintro x c st' _ hx ⟨rfl, la, of, rfl, k1, k2, k3, k4⟩
      dsimp only
      by_cases hge : of ≥ hint + 1
      · rw [if_pos hge]
        exact wpS_pure ⟨rfl, la, of, rfl, k1, k2, k4, .inl hge⟩
      · rw [if_neg hge]
        refine wpS_bind (hb _ _ (by omega) ?_)
        dsimp only
        cases hm : gp left key arr base (hint - of) with
        | false => exact wpS_pure ⟨rfl, of, 2 * of + 1, rfl, by omega, by omega, by omega, hm⟩
        | true => exact wpS_pure ⟨rfl, la, of, rfl, k1, k2, k4, .inr ⟨by omega, hm⟩⟩
    · rintro c st' ⟨rfl, la, of, rfl, k1, k2, k3, k4⟩
      exact ⟨rfl, la, of, rfl, k1, k2, k4, .inl (by omega)⟩
    · rintro c st' ⟨rfl, la, of, rfl, k1, k2, k4, k5⟩
      dsimp only
      have g1 : hint + 1 - min of (hint + 1) ≤ hint - la := by omega
      have g2 : hint - la ≤ n := by omega
      have g3 : ∀ i, i < hint + 1 - min of (hint + 1) → gp left key arr base i = true := fun i hi => by
        rcases k5 with z | ⟨z, hz⟩
        · omega
        · exact mono i _ (by omega) (by omega) hz
      have g4 : ∀ i, hint - la ≤ i → i < n → gp left key arr base i = false := fun i h1 h2 => anti _ i h1 h2 k4
      refine wpS_bind (wpS_mono (wpS_forRange
        (I := fun x c st' => st = st' ∧ ∃ lo hi, c = (none, lo, hi) ∧ lo ≤ hi ∧ hi ≤ n ∧ hi - lo ≤ n - x ∧ (∀ i, i < lo → gp left key arr base i = true) ∧ (∀ i, hi ≤ i → i < n → gp left key arr base i = false))
        (Q := fun c st' => st = st' ∧ ∃ hi, c = (none, hi, hi) ∧ hi ≤ n ∧ (∀ i, i < hi → gp left key arr base i = true) ∧ (∀ i, hi ≤ i → i < n → gp left key arr base i = false))
        ?_ ?_ ⟨rfl, _, _, rfl, g1, g2, by omega, g3, g4⟩) ?_)
      · rintro x c st' _ hx ⟨rfl, lo, hi, rfl, k1, k2, k3, k4, k5⟩
        dsimp only
        by_cases hge : lo ≥ hi
        · rw [if_pos hge]
          have : lo = hi := by omega
          subst this
          exact wpS_pure ⟨rfl, lo, rfl, k2, k4, k5⟩
        · rw [if_neg hge]
          refine wpS_bind (hb _ _ (by omega) ?_)
          dsimp only
          by_cases hm : gp left key arr base (lo + (hi - lo) / 2) = true
          · rw [if_pos hm]
            exact wpS_pure ⟨rfl, _, _, rfl, by omega, k2, by omega, fun i hi' => mono i _ (by omega) (by omega) hm, k5⟩
          · rw [if_neg hm]
            exact wpS_pure ⟨rfl, _, _, rfl, by omega, by omega, by omega, k4, fun i h1 h2 => anti _ i h1 h2 (by simpa using hm)⟩
      · rintro c st' ⟨rfl, lo, hi, rfl, k1, k2, k3, k4, k5⟩
        have : lo = hi := by omega
        subst this
        exact ⟨rfl, lo, rfl, k2, k4, k5⟩
      · rintro c st' ⟨rfl, hi, rfl, k2, k4, k5⟩
        exact wpS_pure (h hi k2 k4 k5)
end
end Srt

set_option maxHeartbeats 4000000
namespace Srt
open PySem PyProof PyProof.Rows

def kle (x y : Keyed) : Prop := kn x ≤ kn y
theorem kle_trans {x y z : Keyed} (h : kle x y) (g : kle y z) : kle x z := Int.le_trans h g

structure MI (A B out : List Keyed) (ia ib : Nat) : Prop where
  perm : out.Perm (A.take ia ++ B.take ib)
  srt : out.Pairwise kle
  la : ∀ x ∈ out, ∀ y ∈ A.drop ia, kle x y
  lb : ∀ x ∈ out, ∀ y ∈ B.drop ib, kle x y

def SP (A B R : List Keyed) : Prop := R.Perm (A ++ B) ∧ R.Pairwise kle

theorem MI.swap {A B out : List Keyed} {ia ib : Nat} (m : MI A B out ia ib) : MI B A out ib ia :=
  ⟨m.perm.trans List.perm_append_comm, m.srt, m.lb, m.la⟩

theorem MI.more {A B out : List Keyed} {ia ib : Nat} (hA : A.Pairwise kle) (m : MI A B out ia ib) (k : Nat) (hx : ∀ x ∈ (A.drop ia).take k, ∀ y ∈ B.drop ib, kle x y) :
    MI A B (out ++ (A.drop ia).take k) (ia + k) ib := by
  have hd : (A.drop ia).Pairwise kle := hA.sublist (List.drop_sublist _ _)
  have hs : ((A.drop ia).take k ++ (A.drop ia).drop k).Pairwise kle := by rw [List.take_append_drop]; exact hd
  obtain ⟨p1, p2, p3⟩ := List.pairwise_append.mp hs
  refine ⟨?_, List.pairwise_append.mpr ⟨m.srt, p1, fun x h y g => m.la x h y (List.mem_of_mem_take g)⟩, fun x h y g => ?_, fun x h y g => ?_⟩
  · rw [List.take_add]
    refine (List.Perm.append_right _ m.perm).trans ?_
    rw [List.append_assoc, List.append_assoc]
    exact List.Perm.append_left _ List.perm_append_comm
  · rw [← List.drop_drop] at g
    rcases List.mem_append.mp h with z | z
    · exact m.la x z y (List.mem_of_mem_drop g)
    · exact p3 x z y g
  · rcases List.mem_append.mp h with z | z
    · exact m.lb x z y g
    · exact hx x z y g

theorem MI.fin {A B out : List Keyed} {ia ib : Nat} (m : MI A B out ia ib) (ha : A.length ≤ ia) (hb : B.length ≤ ib) : SP A B out := by
  have := m.perm
  rw [List.take_of_length_le ha, List.take_of_length_le hb] at this
  exact ⟨this, m.srt⟩

theorem MI.done {A B out : List Keyed} {ia ib : Nat} (hA : A.Pairwise kle) (m : MI A B out ia ib) (hb : B.length ≤ ib) : SP A B (out ++ A.drop ia ++ B.drop ib) := by
  have h := m.more hA A.length (fun x _ y g => by rw [List.drop_of_length_le hb] at g; cases g)
  rw [List.take_of_length_le (by rw [List.length_drop]; omega)] at h
  rw [List.drop_of_length_le hb, List.append_nil]
  exact h.fin (by omega) hb

theorem MI.last {A B out : List Keyed} {ia ib : Nat} (hA : A.Pairwise kle) (hB : B.Pairwise kle) (m : MI A B out ia ib) (hx : ∀ x ∈ B.drop ib, ∀ y ∈ A.drop ia, kle x y) :
    SP A B (out ++ B.drop ib ++ A.drop ia) := by
  have h := (m.swap.more hB B.length (fun x g y g2 => hx x (List.mem_of_mem_take g) y g2)).swap
  rw [List.take_of_length_le (by rw [List.length_drop]; omega)] at h
  have := h.done hA (Nat.le_add_left _ _)
  rwa [List.drop_of_length_le (l := B) (Nat.le_add_left _ _), List.append_nil] at this

theorem ext_all {a : Array Keyed} {i : Nat} : (a.extract i a.size).toList = a.toList.drop i := by
  rw [Array.toList_extract, List.extract_eq_drop_take]
  rw [List.take_of_length_le]
  rw [List.length_drop, Array.length_toList]
  exact Nat.le_refl _
theorem ext_k {a : Array Keyed} {i k : Nat} : (a.extract i (i + k)).toList = (a.toList.drop i).take k := by
  rw [Array.toList_extract, List.extract_eq_drop_take, Nat.add_sub_cancel_left]
theorem drop_one {a : Array Keyed} {i : Nat} {p : Keyed} (h : a[i]? = some p) : (a.toList.drop i).take 1 = [p] := by
  have hi : i < a.toList.length := by
    rw [Array.length_toList]; exact (Array.getElem?_eq_some_iff.mp h).1
  have e : a.toList[i] = p := by
    obtain ⟨h1, h2⟩ := Array.getElem?_eq_some_iff.mp h
    rw [← h2]; exact Array.getElem_toList h1
  rw [List.drop_eq_getElem_cons hi, e]; rfl
theorem mem_at {a : Array Keyed} {i : Nat} {p : Keyed} (h : a[i]? = some p) : p ∈ a.toList := by
  obtain ⟨h1, h2⟩ := Array.getElem?_eq_some_iff.mp h
  rw [← h2]; exact Array.getElem_mem_toList h1
theorem MI.one {a b out : Array Keyed} {ia ib : Nat} {p : Keyed} (hA : a.toList.Pairwise kle) (m : MI a.toList b.toList out.toList ia ib) (hp : a[ia]? = some p) (hx : ∀ y ∈ b.toList.drop ib, kle p y) :
    MI a.toList b.toList (out.push p).toList (ia + 1) ib := by
  have := m.more hA 1 (by rw [drop_one hp]; intro x hx' y hy; rw [List.mem_singleton.mp hx']; exact hx y hy)
  rw [drop_one hp] at this
  rwa [Array.toList_push]
theorem MI.blk {a b out : Array Keyed} {ia ib k : Nat} (hA : a.toList.Pairwise kle) (m : MI a.toList b.toList out.toList ia ib) (hx : ∀ x ∈ (a.toList.drop ia).take k, ∀ y ∈ b.toList.drop ib, kle x y) :
    MI a.toList b.toList (out ++ a.extract ia (ia + k)).toList (ia + k) ib := by
  rw [Array.toList_append, ext_k]
  exact m.more hA k hx
theorem MI.doneA {a b out : Array Keyed} {ia ib : Nat} (hA : a.toList.Pairwise kle) (m : MI a.toList b.toList out.toList ia ib) (hb : b.size ≤ ib) :
    SP a.toList b.toList (out ++ a.extract ia a.size ++ b.extract ib b.size).toList := by
  rw [Array.toList_append, Array.toList_append, ext_all, ext_all]
  exact m.done hA hb
theorem MI.doneB {a b out : Array Keyed} {ia ib : Nat} (hB : b.toList.Pairwise kle) (m : MI a.toList b.toList out.toList ia ib) (ha : a.size ≤ ia) :
    SP a.toList b.toList (out ++ a.extract ia a.size ++ b.extract ib b.size).toList := by
  rw [Array.toList_append, Array.toList_append, ext_all, ext_all, List.drop_of_length_le (l := a.toList) (by rw [Array.length_toList]; exact ha), List.append_nil]
  have h := m.swap.done hB (by rw [Array.length_toList]; exact ha)
  rw [List.drop_of_length_le (l := a.toList) (by rw [Array.length_toList]; exact ha), List.append_nil] at h
  exact ⟨h.1.trans List.perm_append_comm, h.2⟩
theorem MI.lastA {a b out : Array Keyed} {ia ib : Nat} (hA : a.toList.Pairwise kle) (hB : b.toList.Pairwise kle) (m : MI a.toList b.toList out.toList ia ib) (hx : ∀ x ∈ b.toList, ∀ y ∈ a.toList.drop ia, kle x y) :
    SP a.toList b.toList (out ++ b.extract ib b.size ++ a.extract ia a.size).toList := by
  rw [Array.toList_append, Array.toList_append, ext_all, ext_all]
  exact m.last hA hB fun x h => hx x (List.mem_of_mem_drop h)
theorem MI.lastE {a b out : Array Keyed} {ia ib : Nat} (hA : a.toList.Pairwise kle) (hB : b.toList.Pairwise kle) (m : MI a.toList b.toList out.toList ia ib) (e : ia + 1 = a.size)
    (hx : ∀ x ∈ b.toList, ∀ y ∈ a.toList.drop (a.size - 1), kle x y) : SP a.toList b.toList (out ++ b.extract ib b.size ++ a.extract ia a.size).toList :=
  m.lastA hA hB (by rw [show ia = a.size - 1 by omega]; exact hx)
section
variable {prog : Program} {w : World} {A : Around} {E : Value → Shared → Prop} {s : Shared}
theorem wpS_ite' {α : Type} {c : Prop} [Decidable c] {t e : StateT SortSt Sem α} {Q : α → SortSt → Prop} {st : SortSt} (h1 : c → wpS (model prog w) A E s t Q st) (h2 : ¬ c → wpS (model prog w) A E s e Q st) :
    wpS (model prog w) A E s (if c then t else e) Q st := by
  by_cases hc : c
  · rw [if_pos hc]; exact h1 hc
  · rw [if_neg hc]; exact h2 hc
abbrev setG (st : SortSt) (g : Nat) : SortSt := SortSt.mk' (kindOf st) (arrOf st) (pendingOf st) g (failedOf st)
theorem kle_at {a b : Array Keyed} {i j : Nat} {p q : Keyed} (hB : b.toList.Pairwise kle) (hq : b[j]? = some q) (h : kle p q) : ∀ y ∈ b.toList.drop j, kle p y := by
  intro y hy
  obtain ⟨h1, h2⟩ := Array.getElem?_eq_some_iff.mp hq
  have hi : j < b.toList.length := by rw [Array.length_toList]; exact h1
  have e : b.toList[j] = q := by rw [← h2]; exact Array.getElem_toList h1
  have hd := hB.sublist (List.drop_sublist j b.toList)
  rw [List.drop_eq_getElem_cons hi, e] at hy hd
  rcases List.mem_cons.mp hy with z | z
  · rw [z]; exact h
  · exact kle_trans h ((List.pairwise_cons.mp hd).1 y z)

theorem K_pw {a : Array Keyed} (hA : a.toList.Pairwise kle) {i j : Nat} (hij : i ≤ j) (hj : j < a.size) : K a i ≤ K a j := by
  have hi : i < a.size := by omega
  rw [K_kn (Array.getElem?_eq_getElem hi), K_kn (Array.getElem?_eq_getElem hj)]
  by_cases e : i = j
  · subst e; exact Int.le_refl _
  · have := List.pairwise_iff_getElem.mp hA i j (by rw [Array.length_toList]; exact hi) (by rw [Array.length_toList]; exact hj) (by omega)
    rw [Array.getElem_toList, Array.getElem_toList] at this
    exact this
theorem mem_drop_at {a : Array Keyed} {i : Nat} {x : Keyed} (h : x ∈ a.toList.drop i) : ∃ j, i ≤ j ∧ j < a.size ∧ a[j]? = some x := by
  obtain ⟨j, hj, e⟩ := List.mem_iff_getElem.mp h
  rw [List.length_drop, Array.length_toList] at hj
  rw [List.getElem_drop, Array.getElem_toList] at e
  exact ⟨i + j, by omega, by omega, by rw [Array.getElem?_eq_getElem (by omega), e]⟩
theorem mem_take_at {a : Array Keyed} {i k : Nat} {x : Keyed} (h : x ∈ (a.toList.drop i).take k) : ∃ j, j < k ∧ i + j < a.size ∧ a[i + j]? = some x := by
  obtain ⟨j, hj, e⟩ := List.mem_iff_getElem.mp h
  rw [List.length_take, List.length_drop, Array.length_toList] at hj
  rw [List.getElem_take, List.getElem_drop, Array.getElem_toList] at e
  exact ⟨j, by omega, by omega, by rw [Array.getElem?_eq_getElem (by omega), e]⟩
theorem gp_false {q : Keyed} {a : Array Keyed} {i j : Nat} {x : Keyed} (h : gp false q a i j = true) (hx : a[i + j]? = some x) : kle x q := by
  unfold gp at h; rw [K_kn hx] at h
  simp at h; exact h
theorem gp_false' {q : Keyed} {a : Array Keyed} {i j : Nat} {x : Keyed} (h : gp false q a i j = false) (hx : a[i + j]? = some x) : kle q x := by
  unfold gp at h; rw [K_kn hx] at h
  simp at h; exact Int.le_of_lt h
theorem gp_true {q : Keyed} {a : Array Keyed} {i j : Nat} {x : Keyed} (h : gp true q a i j = true) (hx : a[i + j]? = some x) : kle x q := by
  unfold gp at h; rw [K_kn hx] at h
  simp at h; exact Int.le_of_lt h
theorem gp_true' {q : Keyed} {a : Array Keyed} {i j : Nat} {x : Keyed} (h : gp true q a i j = false) (hx : a[i + j]? = some x) : kle q x := by
  unfold gp at h; rw [K_kn hx] at h
  simp at h; exact h

structure MV (a b out : Array Keyed) (ia ib : Nat) : Prop where
  m : MI a.toList b.toList out.toList ia ib
  ha : ia + 2 ≤ a.size
  hb : ib < b.size

theorem wpS_mergeLo {st : SortSt} {a b : Array Keyed} {Q : Array Keyed → SortSt → Prop} (hk : kindOf st = oneType') (iA : ∀ x ∈ a.toList, IntK x) (iB : ∀ x ∈ b.toList, IntK x)
    (hA : a.toList.Pairwise kle) (hB : b.toList.Pairwise kle) (na : 0 < a.size) (nb : 0 < b.size)
    (hb0 : ∀ x ∈ b.toList.take 1, ∀ y ∈ a.toList, kle x y) (hla : ∀ x ∈ b.toList, ∀ y ∈ a.toList.drop (a.size - 1), kle x y)
    (h : ∀ r g, SP a.toList b.toList r.toList → Q r (setG st g)) :
    wpS (model prog w) A E s (mergeLoR a b) Q st := by
  refine wpS_bind (wpS_lift (wpAny_rule ⟨rfl, ?_⟩))
  refine wpS_bind (wpS_elem (Array.getElem?_eq_getElem nb) ?_)
  have m0 : MI a.toList b.toList (#[b[0]] : Array Keyed).toList 0 1 := by
    have z : MI b.toList a.toList (#[] : Array Keyed).toList 0 0 := ⟨List.Perm.refl _, List.Pairwise.nil, nofun, nofun⟩
    exact (z.one hB (Array.getElem?_eq_getElem nb) (fun y hy => hb0 _ (by have := drop_one (Array.getElem?_eq_getElem nb); rw [List.drop_zero] at this; rw [this]; exact List.mem_singleton.mpr rfl) y hy)).swap
  have pA : ∀ {i}, i < a.size → ∃ p, a[i]? = some p ∧ IntK p := fun hi => ⟨_, Array.getElem?_eq_getElem hi, iA _ (Array.getElem_mem_toList hi)⟩
  have pB : ∀ {i}, i < b.size → ∃ p, b[i]? = some p ∧ IntK p := fun hi => ⟨_, Array.getElem?_eq_getElem hi, iB _ (Array.getElem_mem_toList hi)⟩
  refine wpS_ite' (fun c1 => wpS_pure (h _ (gallopOf st) (m0.doneA hA (Nat.le_of_eq (beq_iff_eq.mp c1).symm)))) (fun c1 => ?_)
  refine wpS_ite' (fun c2 => wpS_pure (h _ (gallopOf st) (m0.lastE hA hB (beq_iff_eq.mp c2) hla))) (fun c2 => ?_)
  replace c1 : 1 ≠ b.size := fun z => c1 (beq_iff_eq.mpr z)
  replace c2 : 0 + 1 ≠ a.size := fun z => c2 (beq_iff_eq.mpr z)
  refine wpS_bind (wpS_get ?_)
  refine wpS_bind (wpS_mono (wpS_forRange
    (I := fun x c st' => (∃ g, setG st g = st') ∧ ∃ out ia ib mg, c = (none, out, ia, ib, mg) ∧ MV a b out ia ib ∧ x + 1 ≤ ia + ib)
    (Q := fun c st' => (∃ g, setG st g = st') ∧ ∃ r rest, c = (some r, rest) ∧ SP a.toList b.toList r.toList)
    ?_ ?_ ⟨⟨gallopOf st, rfl⟩, _, 0, 1, _, rfl, ⟨m0, by omega, by omega⟩, by omega⟩) ?_)
  · rintro x0 c st' _ hx0 ⟨⟨g, rfl⟩, out, ia, ib, mg, rfl, v, hx⟩
    refine wpS_bind (wpS_mono (wpS_forRange
      (I := fun x c st' => setG st g = st' ∧ ∃ out ia ib ac bc, c = (none, out, ia, ib, ac, bc) ∧ MV a b out ia ib ∧ x0 + 1 + x ≤ ia + ib)
      (Q := fun c st' => setG st g = st' ∧ ((∃ r rest, c = (some r, rest) ∧ SP a.toList b.toList r.toList) ∨ ∃ out ia ib ac bc, c = (none, out, ia, ib, ac, bc) ∧ MV a b out ia ib ∧ x0 + 2 ≤ ia + ib))
      ?_ ?_ ⟨rfl, out, ia, ib, 0, 0, rfl, v, by omega⟩) ?_)
    · rintro x c st' _ hx1 ⟨rfl, out, ia, ib, ac, bc, rfl, v, hx⟩
      obtain ⟨p, hp, ip⟩ := pA (show ia < a.size by have := v.ha; omega)
      obtain ⟨q, hq, iq⟩ := pB v.hb
      refine wpS_bind (wpS_elem hq (wpS_bind (wpS_elem hp (wpS_bind (wpS_lt hk iq ip ?_)))))
      dsimp only
      have va := v.ha
      have vb := v.hb
      refine wpS_ite' (fun c3 => ?_) (fun c3 => ?_)
      · have c3' : kle q p := Int.le_of_lt (of_decide_eq_true c3)
        have m2 := (v.m.swap.one hB hq (kle_at (a := b) (i := ib) hA hp c3')).swap
        refine wpS_bind (wpS_elem hq ?_)
        refine wpS_ite' (fun c4 => wpS_pure ⟨rfl, .inl ⟨_, _, rfl, m2.doneA hA (Nat.le_of_eq (beq_iff_eq.mp c4).symm)⟩⟩) (fun c4 => ?_)
        have c4' : ib + 1 ≠ b.size := fun z => c4 (beq_iff_eq.mpr z)
        exact wpS_ite' (fun c5 => wpS_pure ⟨rfl, .inr ⟨_, _, _, _, _, rfl, ⟨m2, va, by omega⟩, by omega⟩⟩) (fun c5 => wpS_pure ⟨rfl, _, _, _, _, _, rfl, ⟨m2, va, by omega⟩, by omega⟩)
      · have c3' : kle p q := Int.not_lt.mp (fun z => c3 (decide_eq_true z))
        have m2 := v.m.one hA hp (kle_at (a := a) (i := ia) hB hq c3')
        refine wpS_bind (wpS_elem hp ?_)
        refine wpS_ite' (fun c4 => wpS_pure ⟨rfl, .inl ⟨_, _, rfl, m2.lastE hA hB (beq_iff_eq.mp c4) hla⟩⟩) (fun c4 => ?_)
        have c4' : ia + 1 + 1 ≠ a.size := fun z => c4 (beq_iff_eq.mpr z)
        exact wpS_ite' (fun c5 => wpS_pure ⟨rfl, .inr ⟨_, _, _, _, _, rfl, ⟨m2, by omega, vb⟩, by omega⟩⟩) (fun c5 => wpS_pure ⟨rfl, _, _, _, _, _, rfl, ⟨m2, by omega, vb⟩, by omega⟩)
    · rintro c st' ⟨rfl, out, ia, ib, ac, bc, rfl, v, hx⟩
      have va := v.ha
      have vb := v.hb
      omega
    · rintro c st' ⟨rfl, ⟨r, rest, rfl, hr⟩ | ⟨out, ia, ib, ac, bc, rfl, v, hx⟩⟩
      · exact wpS_pure ⟨⟨g, rfl⟩, r, _, rfl, hr⟩
      refine wpS_bind (wpS_lift (wpAny_rule ⟨rfl, ?_⟩))
      refine wpS_bind (wpS_mono (wpS_forRange
        (I := fun x c st' => (∃ g, setG st g = st') ∧ ∃ out ia ib mg ac bc, c = (none, out, ia, ib, mg, ac, bc) ∧ MV a b out ia ib ∧ x0 + 2 + x ≤ ia + ib)
        (Q := fun c st' => (∃ g, setG st g = st') ∧ ((∃ r rest, c = (some r, rest) ∧ SP a.toList b.toList r.toList) ∨ ∃ out ia ib mg ac bc, c = (none, out, ia, ib, mg, ac, bc) ∧ MV a b out ia ib ∧ x0 + 2 ≤ ia + ib))
        ?_ ?_ ⟨⟨g, rfl⟩, out, ia, ib, _, ac, bc, rfl, v, by omega⟩) ?_)
      · rintro x c st' _ hx1 ⟨⟨g, rfl⟩, out, ia, ib, mg, ac, bc, rfl, v, hx⟩
        have va := v.ha
        have vb := v.hb
        obtain ⟨q, hq, iq⟩ := pB vb
        dsimp (config := { zeta := false, zetaHave := false, zetaUnused := false }) only
        extract_lets _ _ _ _ _ _ _ _ _ _ _ _ jp
        suffices hj : ∀ mg', wpS (model prog w) A E s (jp () mg') _ (setG st g) from wpS_ite' (fun _ => hj _) (fun _ => hj _)
        intro mg'
        refine wpS_bind (wpS_modify ?_)
        refine wpS_bind (wpS_elem hq ?_)
        refine wpS_bind (wpS_gallop (left := false) (arr := a) (base := ia) (n := a.size - ia) (hint := 0) hk iq (fun i hi => pA (i := ia + i) (by omega)) (fun i j hij hj => K_pw hA (by omega) (by omega)) (by omega) fun k k1 k2 k3 => ?_)
        have le1 : ∀ x ∈ (a.toList.drop ia).take k, ∀ y ∈ b.toList.drop ib, kle x y := fun x hx y hy => by
          obtain ⟨j, h1, h2, h3⟩ := mem_take_at hx
          exact kle_at (a := a) (i := 0) hB hq (gp_false (k2 j h1) h3) y hy
        have le2 : ∀ y ∈ a.toList.drop (ia + k), kle q y := fun y hy => by
          obtain ⟨j, h1, h2, h3⟩ := mem_drop_at hy
          exact gp_false' (k3 (j - ia) (by omega) (by omega)) (by rw [show ia + (j - ia) = j by omega]; exact h3)
        dsimp (config := { zeta := false, zetaHave := false, zetaUnused := false }) only
        extract_lets _ jp2
        suffices hj2 : ∀ (o2 : Array Keyed) (i2 : Nat), MI a.toList b.toList o2.toList i2 ib → i2 + 2 ≤ a.size → ia ≤ i2 → (∀ y ∈ a.toList.drop i2, kle q y) → wpS (model prog w) A E s (jp2 () o2 i2) _ (setG st mg') by
          refine wpS_ite' (fun c3 => ?_) (fun c3 => hj2 out ia v.m va (Nat.le_refl _) (by rw [show ia = ia + k by omega]; exact le2))
          have m2 := v.m.blk hA le1
          refine wpS_ite' (fun c4 => wpS_pure ⟨⟨mg', rfl⟩, .inl ⟨_, _, rfl, m2.lastE hA hB (beq_iff_eq.mp c4) hla⟩⟩) (fun c4 => ?_)
          refine wpS_ite' (fun c5 => wpS_pure ⟨⟨mg', rfl⟩, .inl ⟨_, _, rfl, m2.doneB hB (Nat.le_of_eq (beq_iff_eq.mp c5).symm)⟩⟩) (fun c5 => ?_)
          have c4' : ia + k + 1 ≠ a.size := fun z => c4 (beq_iff_eq.mpr z)
          have c5' : ia + k ≠ a.size := fun z => c5 (beq_iff_eq.mpr z)
          exact hj2 _ (ia + k) m2 (by omega) (by omega) le2
        intro o2 i2 m2 hi2 hle qle
        obtain ⟨p, hp, ip⟩ := pA (show i2 < a.size by omega)
        refine wpS_bind (wpS_elem hq ?_)
        have m3 := (m2.swap.one hB hq qle).swap
        refine wpS_ite' (fun c4 => wpS_pure ⟨⟨mg', rfl⟩, .inl ⟨_, _, rfl, m3.doneA hA (Nat.le_of_eq (beq_iff_eq.mp c4).symm)⟩⟩) (fun c4 => ?_)
        have c4' : ib + 1 ≠ b.size := fun z => c4 (beq_iff_eq.mpr z)
        refine wpS_bind (wpS_elem hp ?_)
        refine wpS_bind (wpS_gallop (left := true) (arr := b) (base := ib + 1) (n := b.size - (ib + 1)) (hint := 0) hk ip (fun i hi => pB (i := ib + 1 + i) (by omega)) (fun i j hij hj => K_pw hB (by omega) (by omega)) (by omega) fun k' l1 l2 l3 => ?_)
        have le3 : ∀ x ∈ (b.toList.drop (ib + 1)).take k', ∀ y ∈ a.toList.drop i2, kle x y := fun x hx y hy => by
          obtain ⟨j, h1, h2, h3⟩ := mem_take_at hx
          exact kle_at (a := a) (i := 0) hA hp (gp_true (l2 j h1) h3) y hy
        have le4 : ∀ y ∈ b.toList.drop (ib + 1 + k'), kle p y := fun y hy => by
          obtain ⟨j, h1, h2, h3⟩ := mem_drop_at hy
          exact gp_true' (l3 (j - (ib + 1)) (by omega) (by omega)) (by rw [show ib + 1 + (j - (ib + 1)) = j by omega]; exact h3)
        dsimp (config := { zeta := false, zetaHave := false, zetaUnused := false }) only
        extract_lets _ _ jp3
        suffices hj3 : ∀ (o3 : Array Keyed) (i3 : Nat), MI a.toList b.toList o3.toList i2 i3 → i3 < b.size → ib + 1 ≤ i3 → (∀ y ∈ b.toList.drop i3, kle p y) → wpS (model prog w) A E s (jp3 () o3 i3) _ (setG st mg') by
          refine wpS_ite' (fun c3 => ?_) (fun c3 => hj3 _ (ib + 1) m3 (by omega) (Nat.le_refl _) (by rw [show ib + 1 = ib + 1 + k' by omega]; exact le4))
          have m4 := (m3.swap.blk hB le3).swap
          refine wpS_ite' (fun c5 => wpS_pure ⟨⟨mg', rfl⟩, .inl ⟨_, _, rfl, m4.doneA hA (Nat.le_of_eq (beq_iff_eq.mp c5).symm)⟩⟩) (fun c5 => ?_)
          have c5' : ib + 1 + k' ≠ b.size := fun z => c5 (beq_iff_eq.mpr z)
          exact hj3 _ (ib + 1 + k') m4 (by omega) (by omega) le4
        intro o3 i3 m4 hi3 hle3 ple
        refine wpS_bind (wpS_elem hp ?_)
        have m5 := m4.one hA hp ple
        refine wpS_ite' (fun c5 => wpS_pure ⟨⟨mg', rfl⟩, .inl ⟨_, _, rfl, m5.lastE hA hB (beq_iff_eq.mp c5) hla⟩⟩) (fun c5 => ?_)
        have c5' : i2 + 1 + 1 ≠ a.size := fun z => c5 (beq_iff_eq.mpr z)
        exact wpS_ite' (fun c6 => wpS_pure ⟨⟨mg', rfl⟩, .inr ⟨_, _, _, _, _, _, rfl, ⟨m5, by omega, hi3⟩, by omega⟩⟩) (fun c6 => wpS_pure ⟨⟨mg', rfl⟩, _, _, _, _, _, _, rfl, ⟨m5, by omega, hi3⟩, by omega⟩)
      · rintro c st' ⟨⟨g, rfl⟩, out, ia, ib, mg, ac, bc, rfl, v, hx⟩
        have va := v.ha
        have vb := v.hb
        omega
      · rintro c st' ⟨⟨g, rfl⟩, ⟨r, rest, rfl, hr⟩ | ⟨out, ia, ib, mg, ac, bc, rfl, v, hx⟩⟩
        · exact wpS_pure ⟨⟨g, rfl⟩, r, _, rfl, hr⟩
        · exact wpS_bind (wpS_modify (wpS_pure ⟨⟨_, rfl⟩, _, _, _, _, rfl, v, by omega⟩))
  · rintro c st' ⟨⟨g, rfl⟩, out, ia, ib, mg, rfl, v, hx⟩
    have va := v.ha
    have vb := v.hb
    omega
  · rintro c st' ⟨⟨g, rfl⟩, r, rest, rfl, hr⟩
    exact wpS_pure (h r g hr)
end
end Srt

set_option maxHeartbeats 4000000
namespace Srt
open PySem PyProof PyProof.Rows

structure MH (A B out : List Keyed) (na nb : Nat) : Prop where
  perm : out.Perm (A.drop na ++ B.drop nb)
  srt : out.Pairwise fun x y => kle y x
  la : ∀ x ∈ out, ∀ y ∈ A.take na, kle y x
  lb : ∀ x ∈ out, ∀ y ∈ B.take nb, kle y x

theorem MH.swap {A B out : List Keyed} {na nb : Nat} (m : MH A B out na nb) : MH B A out nb na :=
  ⟨m.perm.trans List.perm_append_comm, m.srt, m.lb, m.la⟩

theorem MH.more {A B out : List Keyed} {na nb : Nat} (hA : A.Pairwise kle) (m : MH A B out na nb) {k : Nat} (hk : k ≤ na) (hn : na ≤ A.length) (hx : ∀ x ∈ (A.take na).drop k, ∀ y ∈ B.take nb, kle y x) :
    MH A B (out ++ ((A.take na).drop k).reverse) k nb := by
  have hd : (A.take na).Pairwise kle := hA.sublist (List.take_sublist _ _)
  have hs : ((A.take na).take k ++ (A.take na).drop k).Pairwise kle := by rw [List.take_append_drop]; exact hd
  obtain ⟨p1, p2, p3⟩ := List.pairwise_append.mp hs
  rw [List.take_take, Nat.min_eq_left hk] at p3
  have ed : A.drop k = (A.take na).drop k ++ A.drop na := by
    conv => lhs; rw [← List.take_append_drop na A]
    rw [List.drop_append_of_le_length (by rw [List.length_take]; omega)]
  refine ⟨?_, List.pairwise_append.mpr ⟨m.srt, List.pairwise_reverse.mpr p2, fun x h y g => m.la x h y (List.mem_of_mem_drop (List.mem_reverse.mp g))⟩, fun x h y g => ?_, fun x h y g => ?_⟩
  · rw [ed]
    refine (List.Perm.append m.perm (List.reverse_perm _)).trans ?_
    refine List.perm_append_comm.trans ?_
    rw [List.append_assoc]
  · rcases List.mem_append.mp h with z | z
    · exact m.la x z y (by have : A.take k = (A.take na).take k := by rw [List.take_take, Nat.min_eq_left hk]
                           rw [this] at g; exact List.mem_of_mem_take g)
    · exact p3 y g x (List.mem_reverse.mp z)
  · rcases List.mem_append.mp h with z | z
    · exact m.lb x z y g
    · exact hx x (List.mem_reverse.mp z) y g

theorem MH.fin {A B out : List Keyed} (m : MH A B out 0 0) : SP A B out.reverse :=
  ⟨(List.reverse_perm _).trans m.perm, List.pairwise_reverse.mpr m.srt⟩

theorem MH.allA {A B out : List Keyed} {na : Nat} (hA : A.Pairwise kle) (m : MH A B out na 0) (hn : na ≤ A.length) : SP A B (A.take na ++ out.reverse) := by
  have h := (m.more hA (Nat.zero_le _) hn (fun x _ y g => by rw [List.take_zero] at g; cases g)).fin
  rwa [List.drop_zero, List.reverse_append, List.reverse_reverse] at h

theorem MH.allB {A B out : List Keyed} {nb : Nat} (hB : B.Pairwise kle) (m : MH A B out 0 nb) (hn : nb ≤ B.length) : SP A B (B.take nb ++ out.reverse) := by
  have h := m.swap.allA hB hn
  exact ⟨h.1.trans List.perm_append_comm, h.2⟩

theorem MH.first {A B out : List Keyed} {na nb : Nat} (hA : A.Pairwise kle) (hB : B.Pairwise kle) (m : MH A B out na nb) (ha : na ≤ A.length) (hb : nb ≤ B.length) (hx : ∀ x ∈ B.take nb, ∀ y ∈ A.take na, kle x y) :
    SP A B (B.take nb ++ A.take na ++ out.reverse) := by
  have h := (m.more hA (Nat.zero_le _) ha (fun x g y g2 => hx y g2 x (by rwa [List.drop_zero] at g))).allB hB hb
  rwa [List.drop_zero, List.reverse_append, List.reverse_reverse, ← List.append_assoc] at h

theorem ext0 {a : Array Keyed} {k : Nat} : (a.extract 0 k).toList = a.toList.take k := by
  rw [Array.toList_extract, List.extract_eq_drop_take, List.drop_zero, Nat.sub_zero]
theorem ext2 {a : Array Keyed} {i k : Nat} : (a.extract i k).toList = (a.toList.take k).drop i := by
  rw [Array.toList_extract, List.extract_eq_drop_take, List.drop_take]
theorem drop_last {a : Array Keyed} {n : Nat} {p : Keyed} (h : a[n - 1]? = some p) (hn : 0 < n) (hs : n ≤ a.size) : (a.toList.take n).drop (n - 1) = [p] := by
  have := drop_one h
  rw [List.drop_take, show n - (n - 1) = 1 by omega]
  exact this
theorem MH.one {a b out : Array Keyed} {na nb : Nat} {p : Keyed} (hA : a.toList.Pairwise kle) (m : MH a.toList b.toList out.toList na nb) (hp : a[na - 1]? = some p) (hn : 0 < na) (hs : na ≤ a.size) (hx : ∀ y ∈ b.toList.take nb, kle y p) :
    MH a.toList b.toList (out.push p).toList (na - 1) nb := by
  have := m.more hA (k := na - 1) (by omega) (by rw [Array.length_toList]; exact hs) (by rw [drop_last hp hn hs]; intro x hx' y hy; rw [List.mem_singleton.mp hx']; exact hx y hy)
  rw [drop_last hp hn hs] at this
  rwa [Array.toList_push]
theorem MH.blk {a b out : Array Keyed} {na nb k : Nat} (hA : a.toList.Pairwise kle) (m : MH a.toList b.toList out.toList na nb) (hk : k ≤ na) (hs : na ≤ a.size) (hx : ∀ x ∈ (a.toList.take na).drop k, ∀ y ∈ b.toList.take nb, kle y x) :
    MH a.toList b.toList (out ++ (a.extract k na).reverse).toList k nb := by
  rw [Array.toList_append, Array.toList_reverse, ext2]
  exact m.more hA hk (by rw [Array.length_toList]; exact hs) hx
theorem MH.done0 {a b out : Array Keyed} {na nb : Nat} (hA : a.toList.Pairwise kle) (m : MH a.toList b.toList out.toList na nb) (e : nb = 0) (hs : na ≤ a.size) :
    SP a.toList b.toList (a.extract 0 na ++ b.extract 0 nb ++ out.reverse).toList := by
  subst e
  rw [Array.toList_append, Array.toList_append, Array.toList_reverse, ext0, ext0, List.take_zero, List.append_nil]
  exact m.allA hA (by rw [Array.length_toList]; exact hs)
theorem MH.doneZ {a b out : Array Keyed} {na nb : Nat} (hB : b.toList.Pairwise kle) (m : MH a.toList b.toList out.toList na nb) (e : na = 0) (hs : nb ≤ b.size) :
    SP a.toList b.toList (a.extract 0 na ++ b.extract 0 nb ++ out.reverse).toList := by
  subst e
  rw [Array.toList_append, Array.toList_append, Array.toList_reverse, ext0, ext0, List.take_zero, List.nil_append]
  exact m.allB hB (by rw [Array.length_toList]; exact hs)
theorem MH.firstB {a b out : Array Keyed} {na nb : Nat} (hA : a.toList.Pairwise kle) (hB : b.toList.Pairwise kle) (m : MH a.toList b.toList out.toList na nb) (e : nb = 1) (ha : na ≤ a.size) (hb : 0 < b.size)
    (hx : ∀ x ∈ b.toList.take 1, ∀ y ∈ a.toList, kle x y) : SP a.toList b.toList (b.extract 0 nb ++ a.extract 0 na ++ out.reverse).toList := by
  subst e
  rw [Array.toList_append, Array.toList_append, Array.toList_reverse, ext0, ext0]
  exact m.first hA hB (by rw [Array.length_toList]; exact ha) (by rw [Array.length_toList]; exact hb) fun x h y g => hx x h y (List.mem_of_mem_take g)
theorem mem_takeN_at {a : Array Keyed} {n : Nat} {x : Keyed} (h : x ∈ a.toList.take n) : ∃ j, j < n ∧ j < a.size ∧ a[j]? = some x := by
  obtain ⟨j, h1, h2, h3⟩ := mem_take_at (i := 0) (k := n) (by rw [List.drop_zero]; exact h)
  rw [Nat.zero_add] at h2 h3
  exact ⟨j, h1, h2, h3⟩
theorem mem_seg_at {a : Array Keyed} {n k : Nat} {x : Keyed} (h : x ∈ (a.toList.take n).drop k) : ∃ j, k ≤ j ∧ j < n ∧ j < a.size ∧ a[j]? = some x := by
  rw [List.drop_take] at h
  obtain ⟨j, h1, h2, h3⟩ := mem_take_at h
  exact ⟨k + j, by omega, by omega, h2, h3⟩
theorem kge_at {b : Array Keyed} {n : Nat} {p q : Keyed} (hB : b.toList.Pairwise kle) (hq : b[n - 1]? = some q) (h : kle q p) (hn : n ≤ b.size) (h0 : 0 < n) : ∀ y ∈ b.toList.take n, kle y p := by
  intro y hy
  obtain ⟨j, h1, h2, h3⟩ := mem_takeN_at hy
  have := K_pw hB (i := j) (j := n - 1) (by omega) (by omega)
  rw [K_kn h3, K_kn hq] at this
  exact kle_trans this h

structure MW (a b out : Array Keyed) (na nb : Nat) : Prop where
  m : MH a.toList b.toList out.toList na nb
  a1 : 1 ≤ na
  a2 : na ≤ a.size
  b1 : 2 ≤ nb
  b2 : nb ≤ b.size

section
variable {prog : Program} {w : World} {A : Around} {E : Value → Shared → Prop} {s : Shared}

theorem wpS_mergeHi {st : SortSt} {a b : Array Keyed} {Q : Array Keyed → SortSt → Prop} (hk : kindOf st = oneType') (iA : ∀ x ∈ a.toList, IntK x) (iB : ∀ x ∈ b.toList, IntK x)
    (hA : a.toList.Pairwise kle) (hB : b.toList.Pairwise kle) (na0 : 0 < a.size) (nb0 : 0 < b.size)
    (hb0 : ∀ x ∈ b.toList.take 1, ∀ y ∈ a.toList, kle x y) (hla : ∀ x ∈ b.toList, ∀ y ∈ a.toList.drop (a.size - 1), kle x y)
    (h : ∀ r g, SP a.toList b.toList r.toList → Q r (setG st g)) :
    wpS (model prog w) A E s (mergeHiR a b) Q st := by
  have pA : ∀ {i}, i < a.size → ∃ p, a[i]? = some p ∧ IntK p := fun hi => ⟨_, Array.getElem?_eq_getElem hi, iA _ (Array.getElem_mem_toList hi)⟩
  have pB : ∀ {i}, i < b.size → ∃ p, b[i]? = some p ∧ IntK p := fun hi => ⟨_, Array.getElem?_eq_getElem hi, iB _ (Array.getElem_mem_toList hi)⟩
  obtain ⟨z, hz, iz⟩ := pA (show a.size - 1 < a.size by omega)
  refine wpS_bind (wpS_lift (wpAny_rule ⟨rfl, ?_⟩))
  refine wpS_bind (wpS_elem hz ?_)
  have m0 : MH a.toList b.toList (#[z] : Array Keyed).toList (a.size - 1) b.size := by
    have e : MH a.toList b.toList (#[] : Array Keyed).toList a.size b.size := ⟨by rw [List.drop_of_length_le (Nat.le_of_eq Array.length_toList), List.drop_of_length_le (Nat.le_of_eq Array.length_toList)]; exact List.Perm.refl _, List.Pairwise.nil, nofun, nofun⟩
    exact e.one hA hz na0 (Nat.le_refl _) fun y hy => hla y (List.mem_of_mem_take hy) z (List.mem_of_mem_take (i := 1) (by rw [drop_one hz]; exact List.mem_singleton.mpr rfl))
  refine wpS_ite' (fun c1 => wpS_pure (h _ (gallopOf st) (m0.doneZ hB (beq_iff_eq.mp c1) (Nat.le_refl _)))) (fun c1 => ?_)
  refine wpS_ite' (fun c2 => wpS_pure (h _ (gallopOf st) (m0.firstB hA hB (beq_iff_eq.mp c2) (by omega) nb0 hb0))) (fun c2 => ?_)
  replace c1 : a.size - 1 ≠ 0 := fun z => c1 (beq_iff_eq.mpr z)
  replace c2 : b.size ≠ 1 := fun z => c2 (beq_iff_eq.mpr z)
  refine wpS_bind (wpS_get ?_)
  refine wpS_bind (wpS_mono (wpS_forRange
    (I := fun x c st' => (∃ g, setG st g = st') ∧ ∃ na nb out mg, c = (none, na, nb, out, mg) ∧ MW a b out na nb ∧ x + 1 + na + nb ≤ a.size + b.size)
    (Q := fun c st' => (∃ g, setG st g = st') ∧ ∃ r rest, c = (some r, rest) ∧ SP a.toList b.toList r.toList)
    ?_ ?_ ⟨⟨gallopOf st, rfl⟩, _, _, _, _, rfl, ⟨m0, by omega, by omega, by omega, by omega⟩, by omega⟩) ?_)
  · rintro x0 c st' _ hx0 ⟨⟨g, rfl⟩, na, nb, out, mg, rfl, v, hx⟩
    refine wpS_bind (wpS_mono (wpS_forRange
      (I := fun x c st' => setG st g = st' ∧ ∃ na nb out ac bc, c = (none, na, nb, out, ac, bc) ∧ MW a b out na nb ∧ x0 + 1 + x + na + nb ≤ a.size + b.size)
      (Q := fun c st' => setG st g = st' ∧ ((∃ r rest, c = (some r, rest) ∧ SP a.toList b.toList r.toList) ∨ ∃ na nb out ac bc, c = (none, na, nb, out, ac, bc) ∧ MW a b out na nb ∧ x0 + 2 + na + nb ≤ a.size + b.size))
      ?_ ?_ ⟨rfl, na, nb, out, 0, 0, rfl, v, by omega⟩) ?_)
    · rintro x c st' _ hx1 ⟨rfl, na, nb, out, ac, bc, rfl, v, hx⟩
      obtain ⟨vm, a1, a2, b1, b2⟩ := v
      obtain ⟨p, hp, ip⟩ := pA (show na - 1 < a.size by omega)
      obtain ⟨q, hq, iq⟩ := pB (show nb - 1 < b.size by omega)
      refine wpS_bind (wpS_elem hq (wpS_bind (wpS_elem hp (wpS_bind (wpS_lt hk iq ip ?_)))))
      dsimp only
      refine wpS_ite' (fun c3 => ?_) (fun c3 => ?_)
      · have c3' : kle q p := Int.le_of_lt (of_decide_eq_true c3)
        have m2 := vm.one hA hp a1 a2 (kge_at hB hq c3' b2 (by omega))
        refine wpS_bind (wpS_elem hp ?_)
        refine wpS_ite' (fun c4 => wpS_pure ⟨rfl, .inl ⟨_, _, rfl, m2.doneZ hB (beq_iff_eq.mp c4) b2⟩⟩) (fun c4 => ?_)
        have c4' : na - 1 ≠ 0 := fun z => c4 (beq_iff_eq.mpr z)
        exact wpS_ite' (fun c5 => wpS_pure ⟨rfl, .inr ⟨_, _, _, _, _, rfl, ⟨m2, by omega, by omega, b1, b2⟩, by omega⟩⟩) (fun c5 => wpS_pure ⟨rfl, _, _, _, _, _, rfl, ⟨m2, by omega, by omega, b1, b2⟩, by omega⟩)
      · have c3' : kle p q := Int.not_lt.mp (fun z => c3 (decide_eq_true z))
        have m2 := (vm.swap.one hB hq (by omega) b2 (kge_at hA hp c3' a2 a1)).swap
        refine wpS_bind (wpS_elem hq ?_)
        refine wpS_ite' (fun c4 => wpS_pure ⟨rfl, .inl ⟨_, _, rfl, m2.firstB hA hB (beq_iff_eq.mp c4) a2 nb0 hb0⟩⟩) (fun c4 => ?_)
        have c4' : nb - 1 ≠ 1 := fun z => c4 (beq_iff_eq.mpr z)
        exact wpS_ite' (fun c5 => wpS_pure ⟨rfl, .inr ⟨_, _, _, _, _, rfl, ⟨m2, a1, a2, by omega, by omega⟩, by omega⟩⟩) (fun c5 => wpS_pure ⟨rfl, _, _, _, _, _, rfl, ⟨m2, a1, a2, by omega, by omega⟩, by omega⟩)
    · rintro c st' ⟨rfl, na, nb, out, ac, bc, rfl, ⟨vm, a1, a2, b1, b2⟩, hx⟩
      omega
    · rintro c st' ⟨rfl, ⟨r, rest, rfl, hr⟩ | ⟨na, nb, out, ac, bc, rfl, v, hx⟩⟩
      · exact wpS_pure ⟨⟨g, rfl⟩, r, _, rfl, hr⟩
      refine wpS_bind (wpS_lift (wpAny_rule ⟨rfl, ?_⟩))
      refine wpS_bind (wpS_mono (wpS_forRange
        (I := fun x c st' => (∃ g, setG st g = st') ∧ ∃ na nb out mg ac bc, c = (none, na, nb, out, mg, ac, bc) ∧ MW a b out na nb ∧ x0 + 2 + x + na + nb ≤ a.size + b.size)
        (Q := fun c st' => (∃ g, setG st g = st') ∧ ((∃ r rest, c = (some r, rest) ∧ SP a.toList b.toList r.toList) ∨ ∃ na nb out mg ac bc, c = (none, na, nb, out, mg, ac, bc) ∧ MW a b out na nb ∧ x0 + 2 + na + nb ≤ a.size + b.size))
        ?_ ?_ ⟨⟨g, rfl⟩, na, nb, out, _, ac, bc, rfl, v, by omega⟩) ?_)
      · rintro x c st' _ hx1 ⟨⟨g, rfl⟩, na, nb, out, mg, ac, bc, rfl, ⟨vm, a1, a2, b1, b2⟩, hx⟩
        obtain ⟨q, hq, iq⟩ := pB (show nb - 1 < b.size by omega)
        dsimp (config := { zeta := false, zetaHave := false, zetaUnused := false }) only
        extract_lets _ _ _ _ _ _ _ _ _ _ _ _ jp
        suffices hj : ∀ mg', wpS (model prog w) A E s (jp () mg') _ (setG st g) from wpS_ite' (fun _ => hj _) (fun _ => hj _)
        intro mg'
        refine wpS_bind (wpS_modify ?_)
        refine wpS_bind (wpS_elem hq ?_)
        refine wpS_bind (wpS_gallop (left := false) (arr := a) (base := 0) (n := na) (hint := na - 1) hk iq (fun i hi => by rw [Nat.zero_add]; exact pA (i := i) (by omega)) (fun i j hij hj => by rw [Nat.zero_add, Nat.zero_add]; exact K_pw hA hij (by omega)) (by omega) fun k k1 k2 k3 => ?_)
        have le1 : ∀ x ∈ (a.toList.take na).drop k, ∀ y ∈ b.toList.take nb, kle y x := fun x hx y hy => by
          obtain ⟨j, h1, h2, h3, h4⟩ := mem_seg_at hx
          exact kge_at hB hq (gp_false' (k3 j h1 h2) (by rw [Nat.zero_add]; exact h4)) b2 (by omega) y hy
        have le2 : ∀ y ∈ a.toList.take k, kle y q := fun y hy => by
          obtain ⟨j, h1, h2, h3⟩ := mem_takeN_at hy
          exact gp_false (k2 j h1) (by rw [Nat.zero_add]; exact h3)
        dsimp (config := { zeta := false, zetaHave := false, zetaUnused := false }) only
        extract_lets _ _ jp2
        suffices hj2 : ∀ (n2 : Nat) (o2 : Array Keyed), MH a.toList b.toList o2.toList n2 nb → 1 ≤ n2 → n2 ≤ na → (∀ y ∈ a.toList.take n2, kle y q) → wpS (model prog w) A E s (jp2 () n2 o2) _ (setG st mg') by
          refine wpS_ite' (fun c3 => ?_) (fun c3 => hj2 na out vm a1 (Nat.le_refl _) (by have c3' : ¬ (na - k > 0) := c3; rw [show na = k by omega]; exact le2))
          have m2 := vm.blk hA k1 a2 le1
          refine wpS_ite' (fun c4 => wpS_pure ⟨⟨mg', rfl⟩, .inl ⟨_, _, rfl, m2.doneZ hB (beq_iff_eq.mp c4) b2⟩⟩) (fun c4 => ?_)
          have c4' : k ≠ 0 := fun z => c4 (beq_iff_eq.mpr z)
          exact hj2 k _ m2 (by omega) k1 le2
        intro n2 o2 m2 hn2 hle qle
        obtain ⟨p, hp, ip⟩ := pA (show n2 - 1 < a.size by omega)
        refine wpS_bind (wpS_elem hq ?_)
        have m3 := (m2.swap.one hB hq (by omega) b2 qle).swap
        refine wpS_ite' (fun c4 => wpS_pure ⟨⟨mg', rfl⟩, .inl ⟨_, _, rfl, m3.firstB hA hB (beq_iff_eq.mp c4) (by omega) nb0 hb0⟩⟩) (fun c4 => ?_)
        have c4' : nb - 1 ≠ 1 := fun z => c4 (beq_iff_eq.mpr z)
        refine wpS_bind (wpS_elem hp ?_)
        refine wpS_bind (wpS_gallop (left := true) (arr := b) (base := 0) (n := nb - 1) (hint := nb - 1 - 1) hk ip (fun i hi => by rw [Nat.zero_add]; exact pB (i := i) (by omega)) (fun i j hij hj => by rw [Nat.zero_add, Nat.zero_add]; exact K_pw hB hij (by omega)) (by omega) fun k' l1 l2 l3 => ?_)
        have le3 : ∀ x ∈ (b.toList.take (nb - 1)).drop k', ∀ y ∈ a.toList.take n2, kle y x := fun x hx y hy => by
          obtain ⟨j, h1, h2, h3, h4⟩ := mem_seg_at hx
          exact kge_at hA hp (gp_true' (l3 j h1 h2) (by rw [Nat.zero_add]; exact h4)) (by omega) hn2 y hy
        have le4 : ∀ y ∈ b.toList.take k', kle y p := fun y hy => by
          obtain ⟨j, h1, h2, h3⟩ := mem_takeN_at hy
          exact gp_true (l2 j h1) (by rw [Nat.zero_add]; exact h3)
        dsimp (config := { zeta := false, zetaHave := false, zetaUnused := false }) only
        extract_lets _ _ _ jp3
        suffices hj3 : ∀ (n3 : Nat) (o3 : Array Keyed), MH a.toList b.toList o3.toList n2 n3 → 2 ≤ n3 → n3 ≤ nb - 1 → (∀ y ∈ b.toList.take n3, kle y p) → wpS (model prog w) A E s (jp3 () n3 o3) _ (setG st mg') by
          refine wpS_ite' (fun c3 => ?_) (fun c3 => hj3 (nb - 1) _ m3 (by omega) (Nat.le_refl _) (by have c3' : ¬ (nb - 1 - k' > 0) := c3; rw [show nb - 1 = k' by omega]; exact le4))
          have m4 := (m3.swap.blk hB l1 (by omega) le3).swap
          refine wpS_ite' (fun c5 => wpS_pure ⟨⟨mg', rfl⟩, .inl ⟨_, _, rfl, m4.firstB hA hB (beq_iff_eq.mp c5) (by omega) nb0 hb0⟩⟩) (fun c5 => ?_)
          refine wpS_ite' (fun c6 => wpS_pure ⟨⟨mg', rfl⟩, .inl ⟨_, _, rfl, m4.done0 hA (beq_iff_eq.mp c6) (by omega)⟩⟩) (fun c6 => ?_)
          have c5' : k' ≠ 1 := fun z => c5 (beq_iff_eq.mpr z)
          have c6' : k' ≠ 0 := fun z => c6 (beq_iff_eq.mpr z)
          exact hj3 k' _ m4 (by omega) l1 le4
        intro n3 o3 m4 hn3 hle3 ple
        refine wpS_bind (wpS_elem hp ?_)
        have m5 := m4.one hA hp hn2 (by omega) ple
        refine wpS_ite' (fun c5 => wpS_pure ⟨⟨mg', rfl⟩, .inl ⟨_, _, rfl, m5.doneZ hB (beq_iff_eq.mp c5) (by omega)⟩⟩) (fun c5 => ?_)
        have c5' : n2 - 1 ≠ 0 := fun z => c5 (beq_iff_eq.mpr z)
        exact wpS_ite' (fun c6 => wpS_pure ⟨⟨mg', rfl⟩, .inr ⟨_, _, _, _, _, _, rfl, ⟨m5, by omega, by omega, hn3, by omega⟩, by omega⟩⟩) (fun c6 => wpS_pure ⟨⟨mg', rfl⟩, _, _, _, _, _, _, rfl, ⟨m5, by omega, by omega, hn3, by omega⟩, by omega⟩)
      · rintro c st' ⟨⟨g, rfl⟩, na, nb, out, mg, ac, bc, rfl, ⟨vm, a1, a2, b1, b2⟩, hx⟩
        omega
      · rintro c st' ⟨⟨g, rfl⟩, ⟨r, rest, rfl, hr⟩ | ⟨na, nb, out, mg, ac, bc, rfl, v, hx⟩⟩
        · exact wpS_pure ⟨⟨g, rfl⟩, r, _, rfl, hr⟩
        · exact wpS_bind (wpS_modify (wpS_pure ⟨⟨_, rfl⟩, _, _, _, _, rfl, v, by omega⟩))
  · rintro c st' ⟨⟨g, rfl⟩, na, nb, out, mg, rfl, ⟨vm, a1, a2, b1, b2⟩, hx⟩
    omega
  · rintro c st' ⟨⟨g, rfl⟩, r, rest, rfl, hr⟩
    exact wpS_pure (h r g hr)
end
end Srt

set_option maxHeartbeats 4000000
namespace Srt
open PySem PyProof PyProof.Rows

def AllI (xs : Array Keyed) : Prop := ∀ p ∈ xs.toList, IntK p
theorem AllI.perm {xs ys : Array Keyed} (h : AllI xs) (hp : ys.Perm xs) : AllI ys := fun p hm => h p ((Array.perm_iff_toList_perm.mp hp).mem_iff.mp hm)
def SortedIn (xs : Array Keyed) (i j : Nat) : Prop := ∀ p q, i ≤ p → p ≤ q → q < j → K xs p ≤ K xs q

def putAll (xs : Array Keyed) (at' n : Nat) (l : List Keyed) : Array Keyed := (l.zipIdx n).foldl (fun a (p : Keyed × Nat) => a.setIfInBounds (at' + p.2) p.1) xs
theorem putAll_get : ∀ (l : List Keyed) (xs : Array Keyed) (at' n : Nat), at' + n + l.length ≤ xs.size → ∀ k : Nat,
    (putAll xs at' n l)[k]? = if at' + n ≤ k ∧ k < at' + n + l.length then l[k - (at' + n)]? else xs[k]?
  | [], xs, at', n, _, k => by
    show xs[k]? = _
    rw [if_neg (by rw [List.length_nil]; omega)]
  | p :: l, xs, at', n, h, k => by
    rw [List.length_cons] at h ⊢
    show (putAll (xs.setIfInBounds (at' + n) p) at' (n + 1) l)[k]? = _
    rw [putAll_get l _ at' (n + 1) (by rw [Array.size_setIfInBounds]; omega) k]
    by_cases e : k = at' + n
    · subst e
      rw [if_neg (by omega), if_pos (by omega), Nat.sub_self, List.getElem?_cons_zero, Array.getElem?_setIfInBounds_self_of_lt (by omega)]
    · by_cases g : at' + n ≤ k ∧ k < at' + n + (l.length + 1)
      · rw [if_pos g, if_pos (by omega), show k - (at' + n) = (k - (at' + (n + 1))) + 1 by omega, List.getElem?_cons_succ]
      · rw [if_neg g, if_neg (by omega), Array.getElem?_setIfInBounds_ne (by omega)]
theorem putAll_list {xs : Array Keyed} {at' : Nat} {l : List Keyed} (h : at' + l.length ≤ xs.size) :
    (putAll xs at' 0 l).toList = xs.toList.take at' ++ (l ++ xs.toList.drop (at' + l.length)) := by
  have hlt : (xs.toList.take at').length = at' := by rw [List.length_take, Array.length_toList]; omega
  apply List.ext_getElem?
  intro k
  have e := putAll_get l xs at' 0 (by omega) k
  rw [Nat.add_zero] at e
  rw [Array.getElem?_toList, e]
  by_cases h1 : k < at'
  · rw [if_neg (by omega), List.getElem?_append_left (by omega), List.getElem?_take, if_pos h1, Array.getElem?_toList]
  · rw [List.getElem?_append_right (by omega), hlt]
    by_cases h2 : k < at' + l.length
    · rw [if_pos (by omega), List.getElem?_append_left (by omega)]
    · rw [if_neg (by omega), List.getElem?_append_right (by omega), List.getElem?_drop, Array.getElem?_toList, show at' + l.length + (k - at' - l.length) = k by omega]
theorem seg_list {xs : Array Keyed} {i j : Nat} (h : i ≤ j) : xs.toList = xs.toList.take i ++ ((xs.extract i j).toList ++ xs.toList.drop j) := by
  rw [ext2, ← List.append_assoc]
  have : xs.toList.take i ++ (xs.toList.take j).drop i = xs.toList.take j := by
    conv => rhs; rw [← List.take_append_drop i (xs.toList.take j)]
    rw [List.take_take, Nat.min_eq_left h]
  rw [this, List.take_append_drop]
theorem pw_of {xs : Array Keyed} {i j : Nat} (h : SortedIn xs i j) (hj : j ≤ xs.size) : (xs.extract i j).toList.Pairwise kle := by
  rw [List.pairwise_iff_getElem]
  intro p q hp hq hpq
  rw [ext2, List.length_drop, List.length_take, Array.length_toList] at hp hq
  simp only [ext2, List.getElem_drop, List.getElem_take, Array.getElem_toList]
  have := h (i + p) (i + q) (by omega) (by omega) (by omega)
  rw [K_kn (Array.getElem?_eq_getElem (by omega)), K_kn (Array.getElem?_eq_getElem (by omega))] at this
  exact this

section
variable {prog : Program} {w : World} {A : Around} {E : Value → Shared → Prop} {s : Shared}

/-- two runs side by side made one -/
theorem wpS_mergeAt {st : SortSt} {i sa na sb nb pw pw2 : Nat} {Q : Bool → SortSt → Prop} (hk : kindOf st = oneType') (hf : failedOf st = none) (hI : AllI (arrOf st))
    (h1 : (pendingOf st)[i]? = some (sa, na, pw)) (h2 : (pendingOf st)[i + 1]? = some (sb, nb, pw2)) (hsb : sb = sa + na) (hna : 1 ≤ na) (hnb : 1 ≤ nb) (hsz : sb + nb ≤ (arrOf st).size)
    (s1 : SortedIn (arrOf st) sa sb) (s2 : SortedIn (arrOf st) sb (sb + nb))
    (h : ∀ xs g, xs.Perm (arrOf st) → SortedIn xs sa (sb + nb) → (∀ k, k < sa ∨ sb + nb ≤ k → K xs k = K (arrOf st) k) →
      Q true (SortSt.mk' oneType' xs (((pendingOf st).setIfInBounds i (sa, na + nb, pw)).eraseIdxIfInBounds (i + 1)) g none)) :
    wpS (model prog w) A E s (mergeAt' i) Q st := by
  obtain ⟨kd, xs, pd, g0, fl⟩ := st
  cases hk
  cases hf
  refine wpS_bind (wpS_get ?_)
  have h1' : pd[i]? = some (sa, na, pw) := h1
  have h2' : pd[i + 1]? = some (sb, nb, pw2) := h2
  replace hI : AllI xs := hI
  replace hsz : sb + nb ≤ xs.size := hsz
  replace s1 : SortedIn xs sa sb := s1
  replace s2 : SortedIn xs sb (sb + nb) := s2
  replace h : ∀ ys g, ys.Perm xs → SortedIn ys sa (sb + nb) → (∀ k, k < sa ∨ sb + nb ≤ k → K ys k = K xs k) →
      Q true (SortSt.mk' oneType' ys ((pd.setIfInBounds i (sa, na + nb, pw)).eraseIdxIfInBounds (i + 1)) g none) := h
  dsimp only
  rw [h1', h2']
  dsimp only
  have pX : ∀ {i}, i < xs.size → ∃ p, xs[i]? = some p ∧ IntK p := fun hi => ⟨_, Array.getElem?_eq_getElem hi, hI _ (Array.getElem_mem_toList hi)⟩
  refine wpS_bind (wpS_modify ?_)
  obtain ⟨q, hq, iq⟩ := pX (show sb < xs.size by omega)
  refine wpS_bind (wpS_elem hq ?_)
  refine wpS_bind (wpS_gallop (left := false) (arr := xs) (base := sa) (n := na) (hint := 0) rfl iq (fun i hi => pX (i := sa + i) (by omega)) (fun i j hij hj => s1 _ _ (by omega) (by omega) (by omega)) (by omega) fun k k1 k2 k3 => ?_)
  have f1 : ∀ p, sa ≤ p → p < sa + k → K xs p ≤ K xs sb := fun p p1 p2 => by
    obtain ⟨u, hu, _⟩ := pX (show p < xs.size by omega)
    rw [K_kn hu, K_kn hq]
    exact gp_false (k2 (p - sa) (by omega)) (by rw [show sa + (p - sa) = p by omega]; exact hu)
  have f2 : ∀ p, sa + k ≤ p → p < sb → K xs sb ≤ K xs p := fun p p1 p2 => by
    obtain ⟨u, hu, _⟩ := pX (show p < xs.size by omega)
    rw [K_kn hu, K_kn hq]
    exact gp_false' (k3 (p - sa) (by omega) (by omega)) (by rw [show sa + (p - sa) = p by omega]; exact hu)
  refine wpS_ite' (fun c1 => wpS_pure ?_) (fun c1 => ?_)
  · have c1' : na - k = 0 := beq_iff_eq.mp c1
    refine h xs g0 (Array.Perm.refl _) (fun p q' p1 p2 p3 => ?_) (fun _ _ => rfl)
    by_cases hp : q' < sb
    · exact s1 _ _ p1 p2 hp
    · by_cases hp2 : p < sb
      · exact Int.le_trans (f1 p p1 (by omega)) (s2 _ _ (Nat.le_refl _) (by omega) p3)
      · exact s2 _ _ (by omega) p2 p3
  have c1' : na - k ≠ 0 := fun z => c1 (beq_iff_eq.mpr z)
  obtain ⟨u, hu, iu⟩ := pX (show sb - 1 < xs.size by omega)
  have eu : sa + k + (na - k) - 1 = sb - 1 := by omega
  refine wpS_bind (wpS_elem (p := u) (by rw [eu]; exact hu) ?_)
  refine wpS_bind (wpS_gallop (left := true) (arr := xs) (base := sb) (n := nb) (hint := nb - 1) rfl iu (fun i hi => pX (i := sb + i) (by omega)) (fun i j hij hj => s2 _ _ (by omega) (by omega) (by omega)) (by omega) fun n' n1 n2 n3 => ?_)
  have f3 : ∀ p, sb ≤ p → p < sb + n' → K xs p ≤ K xs (sb - 1) := fun p p1 p2 => by
    obtain ⟨v, hv, _⟩ := pX (show p < xs.size by omega)
    rw [K_kn hv, K_kn hu]
    exact gp_true (n2 (p - sb) (by omega)) (by rw [show sb + (p - sb) = p by omega]; exact hv)
  have f4 : ∀ p, sb + n' ≤ p → p < sb + nb → K xs (sb - 1) ≤ K xs p := fun p p1 p2 => by
    obtain ⟨v, hv, _⟩ := pX (show p < xs.size by omega)
    rw [K_kn hv, K_kn hu]
    exact gp_true' (n3 (p - sb) (by omega) (by omega)) (by rw [show sb + (p - sb) = p by omega]; exact hv)
  refine wpS_ite' (fun c2 => wpS_pure ?_) (fun c2 => ?_)
  · have c2' : n' = 0 := beq_iff_eq.mp c2
    refine h xs g0 (Array.Perm.refl _) (fun p q' p1 p2 p3 => ?_) (fun _ _ => rfl)
    by_cases hp : q' < sb
    · exact s1 _ _ p1 p2 hp
    · by_cases hp2 : p < sb
      · exact Int.le_trans (s1 p (sb - 1) p1 (by omega) (by omega)) (f4 _ (by omega) p3)
      · exact s2 _ _ (by omega) p2 p3
  have c2' : n' ≠ 0 := fun z => c2 (beq_iff_eq.mpr z)
  -- the two that are merged
  have zX : (xs.extract (sa + k) sb).size = sb - (sa + k) := by rw [Array.size_extract]; omega
  have zY : (xs.extract sb (sb + n')).size = n' := by rw [Array.size_extract]; omega
  have gX : ∀ x ∈ (xs.extract (sa + k) sb).toList, ∃ j, sa + k ≤ j ∧ j < sb ∧ xs[j]? = some x := fun x hx => by
    rw [ext2] at hx
    obtain ⟨j, j1, j2, j3, j4⟩ := mem_seg_at hx
    exact ⟨j, j1, j2, j4⟩
  have gY : ∀ x ∈ (xs.extract sb (sb + n')).toList, ∃ j, sb ≤ j ∧ j < sb + n' ∧ xs[j]? = some x := fun x hx => by
    rw [ext2] at hx
    obtain ⟨j, j1, j2, j3, j4⟩ := mem_seg_at hx
    exact ⟨j, j1, j2, j4⟩
  have iX : ∀ x ∈ (xs.extract (sa + k) sb).toList, IntK x := fun x hx => by
    obtain ⟨j, _, _, hj⟩ := gX x hx
    exact hI x (mem_at hj)
  have iY : ∀ x ∈ (xs.extract sb (sb + n')).toList, IntK x := fun x hx => by
    obtain ⟨j, _, _, hj⟩ := gY x hx
    exact hI x (mem_at hj)
  have pwX : (xs.extract (sa + k) sb).toList.Pairwise kle := pw_of (fun p q p1 p2 p3 => s1 p q (by omega) p2 p3) (by omega)
  have pwY : (xs.extract sb (sb + n')).toList.Pairwise kle := pw_of (fun p q p1 p2 p3 => s2 p q p1 p2 (by omega)) (by omega)
  have hb0 : ∀ x ∈ (xs.extract sb (sb + n')).toList.take 1, ∀ y ∈ (xs.extract (sa + k) sb).toList, kle x y := fun x hx y hy => by
    have e0 : (xs.extract sb (sb + n'))[0]? = some q := by
      rw [Array.getElem?_extract, if_pos (by omega), Nat.add_zero]; exact hq
    have := drop_one e0
    rw [List.drop_zero] at this
    rw [this] at hx
    rw [List.mem_singleton.mp hx]
    obtain ⟨j, j1, j2, j3⟩ := gX y hy
    have := f2 j j1 j2
    rwa [K_kn hq, K_kn j3] at this
  have hla : ∀ x ∈ (xs.extract sb (sb + n')).toList, ∀ y ∈ (xs.extract (sa + k) sb).toList.drop ((xs.extract (sa + k) sb).size - 1), kle x y := fun x hx y hy => by
    have e0 : (xs.extract (sa + k) sb)[(xs.extract (sa + k) sb).size - 1]? = some u := by
      rw [zX, Array.getElem?_extract, if_pos (by omega), show sa + k + (sb - (sa + k) - 1) = sb - 1 by omega]; exact hu
    have hy' : y = u := by
      obtain ⟨j, j1, j2, j3⟩ := mem_drop_at hy
      have : j = (xs.extract (sa + k) sb).size - 1 := by omega
      rw [this, e0] at j3
      exact (Option.some.inj j3).symm
    rw [hy']
    obtain ⟨j, j1, j2, j3⟩ := gY x hx
    have := f3 j j1 j2
    rwa [K_kn hu, K_kn j3] at this
  have fin : ∀ (r : Array Keyed) (g : Nat), SP (xs.extract (sa + k) sb).toList (xs.extract sb (sb + n')).toList r.toList →
      Q true (SortSt.mk' oneType' (putAll xs (sa + k) 0 r.toList) ((pd.setIfInBounds i (sa, na + nb, pw)).eraseIdxIfInBounds (i + 1)) g none) := by
    intro r g hr
    have hl : r.toList.length = sb - (sa + k) + n' := by
      rw [hr.1.length_eq, List.length_append, Array.length_toList, Array.length_toList, zX, zY]
    have hget := putAll_get r.toList xs (sa + k) 0 (by omega)
    have hmid : ∀ p, sa + k ≤ p → p < sb + n' → ∃ x, (putAll xs (sa + k) 0 r.toList)[p]? = some x ∧ r.toList[p - (sa + k)]? = some x ∧ x ∈ r.toList := fun p p1 p2 => by
      have e := hget p
      rw [if_pos (by omega), Nat.add_zero] at e
      have hp : p - (sa + k) < r.toList.length := by omega
      rw [List.getElem?_eq_getElem hp] at e ⊢
      exact ⟨_, e, rfl, List.getElem_mem hp⟩
    have hout : ∀ p, p < sa + k ∨ sb + n' ≤ p → K (putAll xs (sa + k) 0 r.toList) p = K xs p := fun p hp => by
      have e := hget p
      rw [if_neg (by omega)] at e
      exact K_congr e
    have hbd : ∀ x ∈ r.toList, K xs sb ≤ kn x ∧ kn x ≤ K xs (sb - 1) := fun x hx => by
      rcases List.mem_append.mp (hr.1.mem_iff.mp hx) with z | z
      · obtain ⟨j, j1, j2, j3⟩ := gX x z
        rw [← K_kn j3]
        exact ⟨f2 j j1 j2, s1 _ _ (by omega) (by omega) (by omega)⟩
      · obtain ⟨j, j1, j2, j3⟩ := gY x z
        rw [← K_kn j3]
        exact ⟨s2 _ _ (Nat.le_refl _) j1 (by omega), f3 j j1 j2⟩
    have hKm : ∀ p, sa + k ≤ p → p < sb + n' → K xs sb ≤ K (putAll xs (sa + k) 0 r.toList) p ∧ K (putAll xs (sa + k) 0 r.toList) p ≤ K xs (sb - 1) := fun p p1 p2 => by
      obtain ⟨x, x1, x2, x3⟩ := hmid p p1 p2
      rw [K_kn x1]
      exact hbd x x3
    refine h _ g ?_ ?_ (fun p hp => hout p (by omega))
    · refine Array.perm_iff_toList_perm.mpr ?_
      rw [putAll_list (by omega), hl, show sa + k + (sb - (sa + k) + n') = sb + n' by omega]
      conv => rhs; rw [seg_list (xs := xs) (i := sa + k) (j := sb + n') (by omega)]
      refine List.Perm.append_left _ (List.Perm.append_right _ (hr.1.trans ?_))
      rw [ext2, ext2, ext2]
      have e1 : (xs.toList.take (sb + n')).drop (sa + k) = (xs.toList.take sb).drop (sa + k) ++ (xs.toList.take (sb + n')).drop sb := by
        conv => lhs; rw [← List.take_append_drop sb (xs.toList.take (sb + n'))]
        rw [List.take_take, Nat.min_eq_left (by omega), List.drop_append_of_le_length (by rw [List.length_take, Array.length_toList]; omega)]
      rw [e1]
    · intro p q' p1 p2 p3
      by_cases a1 : q' < sa + k
      · rw [hout p (.inl (by omega)), hout q' (.inl a1)]
        exact s1 _ _ p1 p2 (by omega)
      · by_cases a2 : q' < sb + n'
        · by_cases a3 : p < sa + k
          · rw [hout p (.inl a3)]
            exact Int.le_trans (f1 p p1 a3) (hKm q' (by omega) a2).1
          · obtain ⟨x, x1, x2, _⟩ := hmid p (by omega) (by omega)
            obtain ⟨y, y1, y2, _⟩ := hmid q' (by omega) a2
            rw [K_kn x1, K_kn y1]
            by_cases a4 : p = q'
            · subst a4
              rw [x1] at y1
              rw [Option.some.inj y1]
              exact Int.le_refl _
            · obtain ⟨i1, e1⟩ := List.getElem?_eq_some_iff.mp x2
              obtain ⟨i2, e2⟩ := List.getElem?_eq_some_iff.mp y2
              have := List.pairwise_iff_getElem.mp hr.2 _ _ i1 i2 (by omega)
              rwa [e1, e2] at this
        · rw [hout q' (.inr (by omega))]
          by_cases a3 : p < sa + k
          · rw [hout p (.inl a3)]
            exact Int.le_trans (f1 p p1 a3) (s2 _ _ (Nat.le_refl _) (by omega) p3)
          · by_cases a4 : p < sb + n'
            · exact Int.le_trans (hKm p (by omega) a4).2 (f4 q' (by omega) p3)
            · rw [hout p (.inr (by omega))]
              exact s2 _ _ (by omega) p2 p3
  refine wpS_ite' (fun c3 => ?_) (fun c3 => ?_)
  · refine wpS_bind (wpS_mergeLo rfl iX iY pwX pwY (by omega) (by omega) hb0 hla fun r g hr => ?_)
    exact wpS_bind (wpS_modify (wpS_bind (wpS_get (wpS_pure (fin r g hr)))))
  · refine wpS_bind (wpS_mergeHi rfl iX iY pwX pwY (by omega) (by omega) hb0 hla fun r g hr => ?_)
    exact wpS_bind (wpS_modify (wpS_bind (wpS_get (wpS_pure (fin r g hr)))))
end
end Srt

set_option maxHeartbeats 4000000
namespace Srt
open PySem PyProof PyProof.Rows

theorem one_in {xs : Array Keyed} {i : Nat} : SortedIn xs i (i + 1) := fun p q p1 p2 p3 => by
  have : p = q := by omega
  subst this; exact Int.le_refl _
def DecIn (xs : Array Keyed) (i j : Nat) : Prop := ∀ p q, i ≤ p → p ≤ q → q < j → K xs q ≤ K xs p
section
variable {prog : Program} {w : World} {A : Around} {E : Value → Shared → Prop} {s : Shared}

theorem wpS_ltX {st : SortSt} {xs : Array Keyed} {i j : Nat} {Q : Option Bool → SortSt → Prop} (hk : kindOf st = oneType') (hI : AllI xs) (hi : i < xs.size) (hj : j < xs.size)
    (h : Q (some (decide (K xs i < K xs j))) (setArr st xs)) : wpS (model prog w) A E s (ltAt' i j) Q (setArr st xs) := by
  have e1 := Array.getElem?_eq_getElem hi
  have e2 := Array.getElem?_eq_getElem hj
  rw [ltAt'_eq]
  refine wpS_bind (wpS_get ?_)
  refine wpS_bind (wpS_elem e1 (wpS_bind (wpS_elem e2 (wpS_lt hk (hI _ (Array.getElem_mem_toList hi)) (hI _ (Array.getElem_mem_toList hj)) ?_))))
  rw [K_kn e1, K_kn e2] at h
  exact h

/-- a run found: it is made to rise -/
theorem wpS_countRunX {st : SortSt} {xs : Array Keyed} {lo nrem : Nat} {Q : Option Nat → SortSt → Prop} (hk : kindOf st = oneType') (hI : AllI xs) (hn : lo + nrem ≤ xs.size) (h1 : 1 ≤ nrem)
    (h : ∀ m ys, ys.Perm xs → (∀ k, k < lo → K ys k = K xs k) → 1 ≤ m → m ≤ nrem → SortedIn ys lo (lo + m) → Q (some m) (setArr st ys)) :
    wpS (model prog w) A E s (countRun' lo nrem) Q (setArr st xs) := by
  refine wpS_bind (wpS_mono (wpS_forRange
    (I := fun x c st' => setArr st xs = st' ∧ c = (none, x) ∧ x ≤ nrem ∧ SortedIn xs lo (lo + x))
    (Q := fun c st' => setArr st xs = st' ∧ ∃ n, c = (none, n) ∧ 1 ≤ n ∧ n ≤ nrem ∧ SortedIn xs lo (lo + n) ∧ (n = nrem ∨ K xs (lo + n) < K xs (lo + n - 1)))
    ?_ ?_ ⟨rfl, rfl, h1, one_in⟩) ?_)
  · rintro x c st' hx1 hx2 ⟨rfl, rfl, hx, hs⟩
    dsimp only
    refine wpS_bind (wpS_ltX hk hI (by omega) (by omega) ?_)
    dsimp only
    refine wpS_ite' (fun c1 => wpS_pure ⟨rfl, x, rfl, hx1, by omega, hs, .inr (of_decide_eq_true c1)⟩) (fun c1 => wpS_pure ⟨rfl, rfl, by omega, fun p q p1 p2 p3 => ?_⟩)
    have c1' : K xs (lo + x - 1) ≤ K xs (lo + x) := Int.not_lt.mp fun z => c1 (decide_eq_true z)
    by_cases hq : q < lo + x
    · exact hs p q p1 p2 hq
    · have : q = lo + x := by omega
      subst this
      by_cases hp : p = lo + x
      · subst hp; exact Int.le_refl _
      · exact Int.le_trans (hs p (lo + x - 1) p1 (by omega) (by omega)) c1'
  · rintro c st' ⟨rfl, rfl, hx, hs⟩
    rw [show max 1 nrem = nrem by omega] at hs ⊢
    exact ⟨rfl, _, rfl, h1, Nat.le_refl _, hs, .inl rfl⟩
  rintro c st' ⟨rfl, n, rfl, n1, n2, hs, hor⟩
  refine wpS_ite' (c := (n == nrem) = true) (fun c1 => wpS_pure (h n xs (Array.Perm.refl _) (fun _ _ => rfl) n1 n2 hs)) (fun c1 => ?_)
  have c1' : n ≠ nrem := fun z => c1 (beq_iff_eq.mpr z)
  have hlt := hor.resolve_left c1'
  extract_lets _ _ jp
  suffices hj : ∀ ys, ys.Perm xs → (∀ k, k < lo → K ys k = K xs k) → DecIn ys lo (lo + (n + 1)) → wpS (model prog w) A E s (jp ()) Q (setArr st ys) by
    refine wpS_ite' (fun c2 => ?_) (fun c2 => ?_)
    · refine wpS_bind (wpS_ltX hk hI (by omega) (by omega) ?_)
      refine wpS_ite' (c := decide (K xs lo < K xs (lo + n - 1)) = true) (fun c3 => wpS_pure (h n xs (Array.Perm.refl _) (fun _ _ => rfl) n1 n2 hs)) (fun c3 => ?_)
      have c3' : K xs (lo + n - 1) ≤ K xs lo := Int.not_lt.mp fun z => c3 (decide_eq_true z)
      have all : ∀ k, lo ≤ k → k < lo + n → K xs k = K xs (lo + n - 1) := fun k k1 k2 => by
        have a1 := hs lo k (Nat.le_refl _) k1 k2
        have a2 := hs k (lo + n - 1) k1 (by omega) (by omega)
        omega
      refine wpS_bind (wpS_modify ?_)
      have e := K_mirror_equal (i := lo) (j := lo + n) (xs := xs) (by omega) all
      refine hj (mirror xs lo (lo + n) ((lo + n - lo) / 2)) (mirror_perm _ _ _ _) (fun k _ => e k) (fun p q p1 p2 p3 => ?_)
      rw [e, e]
      by_cases hq : q < lo + n
      · rw [all q (by omega) hq, all p p1 (by omega)]; exact Int.le_refl _
      · have : q = lo + n := by omega
        subst this
        by_cases hp : p = lo + n
        · subst hp; exact Int.le_refl _
        · rw [all p p1 (by omega)]; exact Int.le_of_lt hlt
    · refine hj xs (Array.Perm.refl _) (fun _ _ => rfl) (fun p q p1 p2 p3 => ?_)
      have c2' : ¬ n > 1 := c2
      have : n = 1 := by omega
      subst this
      by_cases hp : p = q
      · subst hp; exact Int.le_refl _
      · have : p = lo := by omega
        have : q = lo + 1 := by omega
        subst p q
        exact Int.le_of_lt hlt
  intro ys yp yl yd
  have yz : ys.size = xs.size := yp.size_eq
  refine wpS_bind (wpS_lift (wpAny_rule ⟨rfl, ?_⟩))
  refine wpS_bind (wpS_mono (wpS_forRange
    (I := fun x c st' => ∃ zs neq, setArr st zs = st' ∧ c = (none, x, neq) ∧ zs.Perm xs ∧ (∀ k, k < lo → K zs k = K xs k) ∧ DecIn zs lo (lo + x) ∧ x ≤ nrem ∧ neq + 1 ≤ x ∧ (∀ i, lo + x - (neq + 1) ≤ i → i < lo + x → K zs i = K zs (lo + x - 1)))
    (Q := fun c st' => ∃ zs m neq, setArr st zs = st' ∧ c = (none, m, neq) ∧ zs.Perm xs ∧ (∀ k, k < lo → K zs k = K xs k) ∧ DecIn zs lo (lo + m) ∧ 1 ≤ m ∧ m ≤ nrem ∧ neq + 1 ≤ m ∧ (∀ i, lo + m - (neq + 1) ≤ i → i < lo + m → K zs i = K zs (lo + m - 1)))
    ?_ ?_ ⟨ys, 0, rfl, rfl, yp, yl, yd, by omega, by omega, fun i i1 i2 => by rw [show i = lo + (n + 1) - 1 by omega]⟩) ?_)
  · rintro x c st' hx1 hx2 ⟨zs, neq, rfl, rfl, zp, zl, zd, z1, z2, z3⟩
    have zz : zs.size = xs.size := zp.size_eq
    have hx1' : n + 1 ≤ x := hx1
    refine wpS_bind (wpS_ltX hk (hI.perm zp) (by show lo + x < zs.size; omega) (by show lo + x - 1 < zs.size; omega) ?_)
    have grow : ∀ us : Array Keyed, (∀ k, K us k = K zs k) → K zs (lo + x) ≤ K zs (lo + x - 1) → DecIn us lo (lo + (x + 1)) := fun us hu hle p q p1 p2 p3 => by
      rw [hu, hu]
      by_cases hq : q < lo + x
      · exact zd p q p1 p2 hq
      · have : q = lo + x := by omega
        subst this
        by_cases hp : p = lo + x
        · subst hp; exact Int.le_refl _
        · exact Int.le_trans hle (zd p (lo + x - 1) p1 (by omega) (by omega))
    refine wpS_ite' (c := decide (K zs (lo + x) < K zs (lo + x - 1)) = true) (fun c3 => ?_) (fun c3 => ?_)
    · have c3' := of_decide_eq_true c3
      have e := K_mirror_equal (i := lo + x - (neq + 1)) (j := lo + x) (xs := zs) (by omega) z3
      refine wpS_ite' (c := neq > 0) (fun c4 => ?_) (fun c4 => ?_)
      · exact wpS_bind (wpS_modify (wpS_pure ⟨mirror zs (lo + x - (neq + 1)) (lo + x) ((lo + x - (lo + x - (neq + 1))) / 2), 0, rfl, rfl, (mirror_perm _ _ _ _).trans zp, fun k hk' => by rw [e]; exact zl k hk', grow _ e (Int.le_of_lt c3'), by omega, by omega, fun i i1 i2 => by rw [show i = lo + (x + 1) - 1 by omega]⟩))
      · exact wpS_pure ⟨zs, 0, rfl, rfl, zp, zl, grow _ (fun _ => rfl) (Int.le_of_lt c3'), by omega, by omega, fun i i1 i2 => by rw [show i = lo + (x + 1) - 1 by omega]⟩
    · have c3' := Int.not_lt.mp fun z => c3 (decide_eq_true z)
      refine wpS_bind (wpS_ltX hk (hI.perm zp) (by show lo + x - 1 < zs.size; omega) (by show lo + x < zs.size; omega) ?_)
      refine wpS_ite' (c := decide (K zs (lo + x - 1) < K zs (lo + x)) = true) (fun c4 => wpS_pure ⟨zs, x, neq, rfl, rfl, zp, zl, zd, by omega, z1, z2, z3⟩) (fun c4 => ?_)
      have c4' := Int.not_lt.mp fun z => c4 (decide_eq_true z)
      have ex : K zs (lo + x) = K zs (lo + x - 1) := by omega
      refine wpS_pure ⟨zs, neq + 1, rfl, rfl, zp, zl, grow _ (fun _ => rfl) c4', by omega, by omega, fun i i1 i2 => ?_⟩
      rw [show lo + (x + 1) - 1 = lo + x by omega]
      by_cases hi : i = lo + x
      · rw [hi]
      · rw [ex]; exact z3 i (by omega) (by omega)
  · rintro c st' ⟨zs, neq, rfl, rfl, zp, zl, zd, z1, z2, z3⟩
    have e : max (n + 1) nrem = nrem := by omega
    rw [e] at zd z2 z3
    exact ⟨zs, nrem, neq, rfl, by rw [e], zp, zl, zd, h1, Nat.le_refl _, z2, z3⟩
  rintro c st' ⟨zs, m, neq, rfl, rfl, zp, zl, zd, m1, z1, z2, z3⟩
  have zz : zs.size = xs.size := zp.size_eq
  dsimp (config := { zeta := false, zetaHave := false, zetaUnused := false }) only
  extract_lets
  rename_i jp2
  suffices hj2 : ∀ us, us.Perm xs → (∀ k, k < lo → K us k = K xs k) → DecIn us lo (lo + m) → wpS (model prog w) A E s (jp2 ()) Q (setArr st us) by
    have e := K_mirror_equal (i := lo + m - (neq + 1)) (j := lo + m) (xs := zs) (by omega) z3
    refine wpS_ite' (fun c4 => ?_) (fun c4 => hj2 zs zp zl zd)
    exact wpS_bind (wpS_modify (hj2 (mirror zs (lo + m - (neq + 1)) (lo + m) ((lo + m - (lo + m - (neq + 1))) / 2)) ((mirror_perm _ _ _ _).trans zp) (fun k hk' => by rw [e]; exact zl k hk') (fun p q p1 p2 p3 => by rw [e, e]; exact zd p q p1 p2 p3)))
  intro us up ul ud
  have uz : us.size = xs.size := up.size_eq
  refine wpS_bind (wpS_modify ?_)
  have hm := K_mirror (xs := us) (i := lo) (j := lo + m) (by omega)
  have vs : SortedIn (mirror us lo (lo + m) ((lo + m - lo) / 2)) lo (lo + m) := fun p q p1 p2 p3 => by
    rw [hm, hm, if_pos ⟨p1, by omega⟩, if_pos ⟨by omega, p3⟩]
    exact ud _ _ (by omega) (by omega) (by omega)
  have vl : ∀ k, k < lo → K (mirror us lo (lo + m) ((lo + m - lo) / 2)) k = K xs k := fun k hk' => by
    rw [hm, if_neg (by omega)]; exact ul k hk'
  have vp : (mirror us lo (lo + m) ((lo + m - lo) / 2)).Perm xs := (mirror_perm _ _ _ _).trans up
  show wpS _ _ _ _ _ _ (setArr st (mirror us lo (lo + m) ((lo + m - lo) / 2)))
  generalize mirror us lo (lo + m) ((lo + m - lo) / 2) = vv at vs vl vp
  have vz : vv.size = xs.size := vp.size_eq
  refine wpS_bind (wpS_mono (wpS_forRange
    (I := fun x c st' => setArr st vv = st' ∧ c = (none, x) ∧ x ≤ nrem ∧ SortedIn vv lo (lo + x))
    (Q := fun c st' => setArr st vv = st' ∧ ∃ n, c = (none, n) ∧ 1 ≤ n ∧ n ≤ nrem ∧ SortedIn vv lo (lo + n))
    ?_ ?_ ⟨rfl, rfl, z1, vs⟩) ?_)
  · rintro x c st' hx1 hx2 ⟨rfl, rfl, hx, hs'⟩
    have hx1' : m ≤ x := hx1
    refine wpS_bind (wpS_ltX hk (hI.perm vp) (by show lo + x < vv.size; omega) (by show lo + x - 1 < vv.size; omega) ?_)
    refine wpS_ite' (c := decide (K vv (lo + x) < K vv (lo + x - 1)) = true) (fun c1 => wpS_pure ⟨rfl, x, rfl, by omega, by omega, hs'⟩) (fun c1 => wpS_pure ⟨rfl, rfl, by omega, fun p q p1 p2 p3 => ?_⟩)
    have c1' : K vv (lo + x - 1) ≤ K vv (lo + x) := Int.not_lt.mp fun z => c1 (decide_eq_true z)
    by_cases hq : q < lo + x
    · exact hs' p q p1 p2 hq
    · have : q = lo + x := by omega
      subst this
      by_cases hp : p = lo + x
      · subst hp; exact Int.le_refl _
      · exact Int.le_trans (hs' p (lo + x - 1) p1 (by omega) (by omega)) c1'
  · rintro c st' ⟨rfl, rfl, hx, hs'⟩
    have e : max m nrem = nrem := by omega
    rw [e] at hs'
    exact ⟨rfl, nrem, by rw [e], h1, Nat.le_refl _, hs'⟩
  · rintro c st' ⟨rfl, n', rfl, n1', n2', hs'⟩
    exact wpS_pure (h n' vv vp vl n1' n2' hs')
end
end Srt

set_option maxHeartbeats 4000000
namespace Srt
open PySem PyProof PyProof.Rows

/-- the runs that wait: each begins where the one ahead of it ends, and each is sorted -/
def Chain (xs : Array Keyed) : Nat → List (Nat × Nat × Nat) → Nat → Prop
  | a, [], b => a = b
  | a, p :: l, b => p.1 = a ∧ 1 ≤ p.2.1 ∧ SortedIn xs a (a + p.2.1) ∧ Chain xs (a + p.2.1) l b
theorem Chain.len {xs : Array Keyed} : ∀ {l : List (Nat × Nat × Nat)} {a b : Nat}, Chain xs a l b → a + l.length ≤ b
  | [], a, b, h => by cases h; exact Nat.le_refl _
  | p :: l, a, b, h => by
    have := Chain.len h.2.2.2
    have := h.2.1
    rw [List.length_cons]; omega
theorem Chain.congr {xs ys : Array Keyed} : ∀ {l : List (Nat × Nat × Nat)} {a b : Nat}, Chain xs a l b → (∀ k, a ≤ k → k < b → K ys k = K xs k) → Chain ys a l b
  | [], a, b, h, _ => h
  | p :: l, a, b, h, e => by
    have hl := Chain.len h.2.2.2
    exact ⟨h.1, h.2.1, fun i j i1 i2 i3 => by rw [e i (by omega) (by omega), e j (by omega) (by omega)]; exact h.2.2.1 i j i1 i2 i3, Chain.congr h.2.2.2 fun k k1 k2 => e k (by omega) k2⟩
theorem Chain.app {xs : Array Keyed} : ∀ {l m : List (Nat × Nat × Nat)} {a b c : Nat}, Chain xs a l b → Chain xs b m c → Chain xs a (l ++ m) c
  | [], m, a, b, c, h, g => by cases h; exact g
  | p :: l, m, a, b, c, h, g => ⟨h.1, h.2.1, h.2.2.1, Chain.app h.2.2.2 g⟩
theorem Chain.split {xs : Array Keyed} : ∀ {l m : List (Nat × Nat × Nat)} {a c : Nat}, Chain xs a (l ++ m) c → ∃ b, Chain xs a l b ∧ Chain xs b m c
  | [], m, a, c, h => ⟨a, rfl, h⟩
  | p :: l, m, a, c, h => by
    obtain ⟨b, h1, h2⟩ := Chain.split h.2.2.2
    exact ⟨b, ⟨h.1, h.2.1, h.2.2.1, h1⟩, h2⟩
/-- the powers don't matter -/
theorem Chain.pw {xs : Array Keyed} : ∀ {l m : List (Nat × Nat × Nat)} {a b : Nat}, l.map (fun p => (p.1, p.2.1)) = m.map (fun p => (p.1, p.2.1)) → Chain xs a l b → Chain xs a m b
  | [], [], a, b, _, h => h
  | [], q :: m, a, b, e, h => by cases e
  | p :: l, [], a, b, e, h => by cases e
  | p :: l, q :: m, a, b, e, h => by
    rw [List.map_cons, List.map_cons] at e
    obtain ⟨e1, e2⟩ := List.cons.inj e
    have e3 := (Prod.mk.inj e1)
    refine ⟨e3.1 ▸ h.1, e3.2 ▸ h.2.1, e3.2 ▸ h.2.2.1, ?_⟩
    rw [← e3.2]
    exact Chain.pw e2 h.2.2.2

theorem split_two {α : Type} {l : List α} {i : Nat} (h : i + 1 < l.length) : ∃ l1 x y l2, l = l1 ++ x :: y :: l2 ∧ l1.length = i := by
  refine ⟨l.take i, l[i], l[i+1], l.drop (i + 2), ?_, by rw [List.length_take]; omega⟩
  rw [← List.drop_eq_getElem_cons, ← List.drop_eq_getElem_cons, List.take_append_drop]

theorem merged_list {α : Type} {pd : Array α} {l1 l2 : List α} {x y z : α} (h : pd.toList = l1 ++ x :: y :: l2) :
    ((pd.setIfInBounds l1.length z).eraseIdxIfInBounds (l1.length + 1)).toList = l1 ++ z :: l2 := by
  have hz : pd.size = l1.length + (l2.length + 2) := by rw [← Array.length_toList, h, List.length_append]; rfl
  rw [Array.eraseIdxIfInBounds, dif_pos (by rw [Array.size_setIfInBounds]; omega), Array.toList_eraseIdx, Array.toList_setIfInBounds, h]
  rw [List.set_append_right _ _ (Nat.le_refl _), Nat.sub_self, List.set_cons_zero, List.eraseIdx_append_of_length_le (by omega)]
  rw [show l1.length + 1 - l1.length = 1 by omega]
  rfl

structure SB (a₀ : Array Keyed) (st : SortSt) (lo : Nat) : Prop where
  perm : (arrOf st).Perm a₀
  kind : kindOf st = oneType'
  failed : failedOf st = none
  chain : Chain (arrOf st) 0 (pendingOf st).toList lo
  le : lo ≤ a₀.size

section
variable {prog : Program} {w : World} {A : Around} {E : Value → Shared → Prop} {s : Shared} {a₀ : Array Keyed}

theorem wpS_mergeC {st : SortSt} {i lo : Nat} {Q : Bool → SortSt → Prop} (h0 : AllI a₀) (hB : SB a₀ st lo) (hi : i + 1 < (pendingOf st).size)
    (h : ∀ st', SB a₀ st' lo → (pendingOf st').size + 1 = (pendingOf st).size → (∀ k, lo ≤ k → K (arrOf st') k = K (arrOf st) k) → Q true st') :
    wpS (model prog w) A E s (mergeAt' i) Q st := by
  obtain ⟨l1, ⟨sa, na, pw⟩, ⟨sb, nb, pw2⟩, l2, hl, rfl⟩ := split_two (l := (pendingOf st).toList) (by rw [Array.length_toList]; exact hi)
  have hc := hB.chain
  rw [hl] at hc
  obtain ⟨b, c1, e1, n1, s1, e2, n2, s2, c2⟩ := hc.split
  dsimp only at e1 n1 s1 e2 n2 s2 c2
  subst e1
  subst e2
  have hl2 := c2.len
  have hsz : (arrOf st).size = a₀.size := hB.perm.size_eq
  have hle := hB.le
  refine wpS_mergeAt (sa := sa) (na := na) (sb := sa + na) (nb := nb) (pw := pw) (pw2 := pw2) hB.kind hB.failed (h0.perm hB.perm) ?_ ?_ rfl n1 n2 (by omega) s1 s2 fun xs g xp xs1 xk => ?_
  · rw [← Array.getElem?_toList, hl, List.getElem?_append_right (Nat.le_refl _), Nat.sub_self]; rfl
  · rw [← Array.getElem?_toList, hl, List.getElem?_append_right (by omega), show l1.length + 1 - l1.length = 1 by omega]; rfl
  have hm := merged_list (z := (sa, na + nb, pw)) hl
  refine h _ ⟨xp.trans hB.perm, rfl, rfl, ?_, hle⟩ ?_ fun k hk => xk k (.inr (by omega))
  · show Chain xs 0 (((pendingOf st).setIfInBounds l1.length (sa, na + nb, pw)).eraseIdxIfInBounds (l1.length + 1)).toList lo
    rw [hm]
    refine (c1.congr fun k _ k2 => xk k (.inl k2)).app ⟨rfl, by dsimp only; omega, ?_, ?_⟩
    · dsimp only
      rw [← Nat.add_assoc]; exact xs1
    · dsimp only
      rw [← Nat.add_assoc]; exact c2.congr fun k k1 _ => xk k (.inr k1)
  · show (((pendingOf st).setIfInBounds l1.length (sa, na + nb, pw)).eraseIdxIfInBounds (l1.length + 1)).size + 1 = _
    rw [← Array.length_toList, hm, ← Array.length_toList, hl, List.length_append, List.length_append]
    rfl

theorem wpS_binarySortX {st : SortSt} {xs : Array Keyed} {lo n ok : Nat} {Q : Bool → SortSt → Prop} (hk : kindOf st = oneType') (hI : AllI xs) (hn : lo + n ≤ xs.size) (hok : ok ≤ n) (h1 : 1 ≤ ok) (hs : SortedIn xs lo (lo + ok))
    (h : ∀ ys, ys.Perm xs → (∀ k, k < lo → K ys k = K xs k) → SortedIn ys lo (lo + n) → Q true (setArr st ys)) : wpS (model prog w) A E s (binarySort' lo n ok) Q (setArr st xs) := by
  rw [binarySort'_eq]
  refine wpS_bind (wpS_mono (wpS_forRange (I := fun k c st' => ∃ ys, c = (none, ()) ∧ setArr st ys = st' ∧ ys.Perm xs ∧ (∀ k, k < lo → K ys k = K xs k) ∧ SortedIn ys lo (lo + min k n))
    (Q := fun c st' => ∃ ys, c = (none, ()) ∧ setArr st ys = st' ∧ ys.Perm xs ∧ (∀ k, k < lo → K ys k = K xs k) ∧ SortedIn ys lo (lo + n)) ?step ?fin ?init) ?post)
  case post =>
    rintro c st' ⟨ys, rfl, rfl, yp, yl, ys1⟩
    exact wpS_pure (h ys yp yl ys1)
  case init => exact ⟨xs, rfl, rfl, Array.Perm.refl _, fun _ _ => rfl, by rw [show min (max ok 1) n = ok by omega]; exact hs⟩
  case fin =>
    rintro c st' ⟨ys, hc, he, yp, yl, ys1⟩
    refine ⟨ys, hc, he, yp, yl, ?_⟩
    rwa [show min (max (max ok 1) n) n = n by omega] at ys1
  case step =>
    rintro k c st' hak hkn ⟨ys, rfl, rfl, yp, yl, hs'⟩
    rw [show min k n = k by omega] at hs'
    have yz : ys.size = xs.size := yp.size_eq
    have hkz : lo + k < ys.size := by omega
    refine wpS_bind (wpS_mono (wpS_forRange (I := fun x c st'' => setArr st ys = st'' ∧ ∃ l r, c = (none, l, r) ∧ l ≤ r ∧ r ≤ k ∧ r - l ≤ k - x ∧
        (∀ i, i < l → K ys (lo + i) ≤ K ys (lo + k)) ∧ (∀ i, r ≤ i → i < k → K ys (lo + k) < K ys (lo + i)))
      (Q := fun c st'' => setArr st ys = st'' ∧ ∃ l r, c = (none, l, r) ∧ l ≤ k ∧
        (∀ i, i < l → K ys (lo + i) ≤ K ys (lo + k)) ∧ (∀ i, l ≤ i → i < k → K ys (lo + k) < K ys (lo + i))) ?istep ?ifin ?iinit) ?ipost)
    case iinit => exact ⟨rfl, 0, k, rfl, by omega, by omega, by omega, fun i hi => by omega, fun i h1 h2 => by omega⟩
    case ifin =>
      rintro c st'' ⟨rfl, l, r, rfl, hlr, hrk, hm, hlo, hhi⟩
      have : l = r := by omega
      subst this
      exact ⟨rfl, l, l, rfl, hrk, hlo, hhi⟩
    case istep =>
      rintro x c st'' _ hxk ⟨rfl, l, r, rfl, hlr, hrk, hm, hlo, hhi⟩
      refine wpS_ite' (c := l ≥ r) (fun hge => ?_) (fun hge => ?_)
      · have : l = r := by omega
        subst this
        exact wpS_pure ⟨rfl, l, l, rfl, hrk, hlo, hhi⟩
      · refine wpS_bind (wpS_ltX hk (hI.perm yp) hkz (by show lo + (l + r) / 2 < ys.size; omega) ?_)
        refine wpS_ite' (c := decide (K ys (lo + k) < K ys (lo + (l + r) / 2)) = true) (fun c1 => ?_) (fun c1 => ?_)
        · have hless := of_decide_eq_true c1
          refine wpS_pure ⟨rfl, l, (l + r) / 2, rfl, by omega, by omega, by omega, hlo, fun i h1 h2 => ?_⟩
          exact Int.lt_of_lt_of_le hless (hs' _ _ (by omega) (by omega) (by omega))
        · have hless := Int.not_lt.mp fun z => c1 (decide_eq_true z)
          refine wpS_pure ⟨rfl, (l + r) / 2 + 1, r, rfl, by omega, by omega, by omega, fun i h1 => ?_, hhi⟩
          exact Int.le_trans (hs' (lo + i) (lo + (l + r) / 2) (by omega) (by omega) (by omega)) hless
    case ipost =>
      rintro c st'' ⟨rfl, l, r, rfl, hlk, hlo, hhi⟩
      refine wpS_bind (wpS_modify (wpS_pure ⟨bubble ys (lo + k) (lo + k - (lo + l)), rfl, rfl, (bubble_perm _ _ _).trans yp, fun i hi => ?_, ?_⟩))
      · rw [K_bubble hkz (by omega), if_neg (by omega), if_neg (by omega)]; exact yl i hi
      rw [show min (k + 1) n = k + 1 by omega]
      intro i j i1 hij hj
      rw [K_bubble hkz (by omega), K_bubble hkz (by omega), show lo + k - (lo + k - (lo + l)) = lo + l by omega]
      have lo' : ∀ i, lo ≤ i → i < lo + l → K ys i ≤ K ys (lo + k) := fun i a b => by
        have := hlo (i - lo) (by omega)
        rwa [show lo + (i - lo) = i by omega] at this
      have hi' : ∀ i, lo + l ≤ i → i < lo + k → K ys (lo + k) ≤ K ys i := fun i a b => by
        have := hhi (i - lo) (by omega) (by omega)
        rw [show lo + (i - lo) = i by omega] at this
        exact Int.le_of_lt this
      repeat' split
      all_goals first
        | (exfalso; omega)
        | exact Int.le_refl _
        | exact lo' _ (by omega) (by omega)
        | exact hi' _ (by omega) (by omega)
        | exact hs' _ _ (by omega) (by omega) (by omega)
end
end Srt

set_option maxHeartbeats 4000000
namespace Srt
open PySem PyProof PyProof.Rows

section
variable {prog : Program} {w : World} {A : Around} {E : Value → Shared → Prop} {s : Shared} {a₀ : Array Keyed}

theorem wpS_sortRunsX {st : SortSt} {Q : Unit → SortSt → Prop} (h0 : AllI a₀) (hB : SBase a₀ st)
    (h : ∀ st', (arrOf st').Perm a₀ → failedOf st' = none → SortedTo (arrOf st') a₀.size → Q () st') : wpS (model prog w) A E s sortRuns' Q st := by
  rw [sortRuns'_eq]
  refine wpS_bind (wpS_get ?_)
  have hz := hB.size
  extract_lets size mr
  have hz' : size = a₀.size := hz
  clear_value size mr
  subst hz'
  have hS0 : SB a₀ st 0 := ⟨hB.perm, hB.kind, hB.failed, by rw [hB.pend]; rfl, Nat.zero_le _⟩
  refine wpS_bind (wpS_mono (wpS_forRange
    (I := fun x c st' => ∃ lo, c = (none, lo) ∧ x ≤ lo ∧ SB a₀ st' lo)
    (Q := fun c st' => c = (none, a₀.size) ∧ SB a₀ st' a₀.size) ?step ?fin ⟨0, rfl, Nat.le_refl _, hS0⟩) ?post)
  case fin =>
    rintro c st' ⟨lo, rfl, h1, h2⟩
    have := h2.le
    have : lo = a₀.size := by omega
    subst this
    exact ⟨rfl, h2⟩
  case step =>
    rintro x c st' _ hx ⟨lo, rfl, hxl, hS⟩
    have hle := hS.le
    dsimp (config := { zeta := false, zetaHave := false, zetaUnused := false }) only
    refine wpS_ite' (c := lo ≥ a₀.size) (fun c1 => ?_) (fun c1 => ?_)
    · have : lo = a₀.size := by omega
      subst this
      exact wpS_pure ⟨rfl, hS⟩
    have hsz : (arrOf st').size = a₀.size := hS.perm.size_eq
    obtain ⟨R, hR⟩ : ∃ R : ForInStep (Option Unit × Nat) → SortSt → Prop, R = fun r st'' => ∃ lo, r = ForInStep.yield (none, lo) ∧ x + 1 ≤ lo ∧ SB a₀ st'' lo := ⟨_, rfl⟩
    refine wpS_mono (Q := R) ?_ (by rw [hR]; rintro r st'' ⟨lo, rfl, h1, h2⟩; exact ⟨lo, rfl, h1, h2⟩)
    refine wpS_bind (wpS_countRunX (st := st') (xs := arrOf st') hS.kind (h0.perm hS.perm) (by omega) (by omega) fun m ys yp yl m1 m2 ys1 => ?_)
    dsimp (config := { zeta := false, zetaHave := false, zetaUnused := false }) only
    extract_lets n jp force nf
    have hn : n = m := rfl
    clear_value n
    subst hn
    suffices hj : ∀ (n' : Nat) (zs : Array Keyed), zs.Perm (arrOf st') → (∀ k, k < lo → K zs k = K (arrOf st') k) → SortedIn zs lo (lo + n') → 1 ≤ n' → lo + n' ≤ a₀.size →
        wpS (model prog w) A E s (jp () n') R (setArr st' zs) by
      refine wpS_ite' (fun c2 => ?_) (fun c2 => hj n ys yp yl ys1 m1 (by omega))
      refine wpS_bind (wpS_lift (wpAny_rule ⟨rfl, ?_⟩))
      have hf : force = min (a₀.size - lo) mr := rfl
      have yz : ys.size = (arrOf st').size := yp.size_eq
      refine wpS_bind (wpS_binarySortX hS.kind ((h0.perm hS.perm).perm yp) (by omega) (by omega) m1 ys1 fun zs zp zl zs1 => ?_)
      exact hj force zs (zp.trans yp) (fun k hk => (zl k hk).trans (yl k hk)) zs1 (by omega) (by omega)
    clear ys yp yl ys1 m1 m2
    intro n' zs zp zl zs1 n1 n2
    have hS1 : SB a₀ (setArr st' zs) lo := ⟨zp.trans hS.perm, hS.kind, hS.failed, hS.chain.congr fun k _ hk => zl k hk, hle⟩
    have hs2 : SortedIn (arrOf (setArr st' zs)) lo (lo + n') := zs1
    generalize setArr st' zs = st2 at hS1 hs2
    clear zs zp zl zs1
    refine wpS_bind (wpS_get ?_)
    extract_lets lo2 jp2
    suffices hj2 : ∀ st3, SB a₀ st3 lo → SortedIn (arrOf st3) lo (lo + n') → wpS (model prog w) A E s (jp2 ()) R st3 by
      cases hb : (pendingOf st2).back? with
      | none => exact hj2 st2 hS1 hs2
      | some p =>
        obtain ⟨p1, p2, p3⟩ := p
        dsimp (config := { zeta := false, zetaHave := false, zetaUnused := false }) only
        extract_lets pw
        clear_value pw
        refine wpS_bind (wpS_mono (wpS_forRange (I := fun x c st'' => c = (none, ()) ∧ SB a₀ st'' lo ∧ SortedIn (arrOf st'') lo (lo + n')) (Q := fun c st'' => c = (none, ()) ∧ SB a₀ st'' lo ∧ SortedIn (arrOf st'') lo (lo + n')) ?_ (fun _ _ hh => hh) ⟨rfl, hS1, hs2⟩) ?_)
        · rintro y c st3 _ hy ⟨rfl, hS3, hs3⟩
          refine wpS_bind (wpS_get ?_)
          extract_lets p
          by_cases hp : p.size > 1
          · have hl : p.size - 2 < p.size := by omega
            rw [if_pos hp, Array.getElem?_eq_getElem hl]
            dsimp (config := { zeta := false, zetaHave := false, zetaUnused := false }) only
            refine wpS_ite' (fun c3 => wpS_pure ⟨rfl, hS3, hs3⟩) (fun c3 => ?_)
            refine wpS_bind (wpS_mergeC h0 hS3 (show p.size - 2 + 1 < p.size by omega) fun st4 hS4 hp4 hk4 => ?_)
            exact wpS_pure ⟨rfl, hS4, fun i j i1 i2 i3 => by rw [hk4 i i1, hk4 j (by omega)]; exact hs3 i j i1 i2 i3⟩
          · rw [if_neg hp]
            exact wpS_pure ⟨rfl, hS3, hs3⟩
        · rintro c st3 ⟨rfl, hS3, hs3⟩
          refine wpS_bind (wpS_modify (hj2 _ ⟨hS3.perm, hS3.kind, hS3.failed, ?_, hle⟩ hs3))
          refine hS3.chain.pw ?_
          show _ = ((pendingOf st3).modify _ _).toList.map _
          rw [Array.toList_modify]
          generalize (pendingOf st3).toList = l
          generalize (pendingOf st3).size - 1 = i
          apply List.ext_getElem?
          intro k
          rw [List.getElem?_map, List.getElem?_map, List.getElem?_modify]
          cases l[k]? with
          | none => rfl
          | some q =>
            by_cases e : i = k
            · simp [e]
            · simp [e]
    intro st3 hS3 hs3
    refine wpS_bind (wpS_modify (wpS_pure ?_))
    rw [hR]
    refine ⟨lo + n', rfl, by omega, hS3.perm, hS3.kind, hS3.failed, ?_, n2⟩
    show Chain (arrOf st3) 0 ((pendingOf st3).push (lo, n', 0)).toList (lo + n')
    rw [Array.toList_push]
    exact hS3.chain.app ⟨rfl, n1, hs3, rfl⟩
  case post =>
    rintro c st' ⟨rfl, hS⟩
    dsimp (config := { zeta := false, zetaHave := false, zetaUnused := false }) only
    refine wpS_bind (wpS_mono (wpS_forRange (I := fun x c st'' => c = (none, ()) ∧ SB a₀ st'' a₀.size ∧ (pendingOf st'').size + x ≤ a₀.size) (Q := fun c st'' => c = (none, ()) ∧ SB a₀ st'' a₀.size ∧ (pendingOf st'').size ≤ 1) ?_ ?_ ?_) ?_)
    · rintro x c st'' _ hx ⟨rfl, hS', hp⟩
      refine wpS_bind (wpS_get ?_)
      refine wpS_ite' (c := (pendingOf st'').size ≤ 1) (fun c1 => wpS_pure ⟨rfl, hS', c1⟩) (fun c1 => ?_)
      extract_lets i before i'
      have hi' : i' + 1 < (pendingOf st'').size := by
        have : i' = i - 1 ∨ i' = i := by
          show (if _ then i - 1 else i) = i - 1 ∨ (if _ then i - 1 else i) = i
          split
          · exact .inl rfl
          · exact .inr rfl
        have hi : i = (pendingOf st'').size - 2 := rfl
        omega
      clear_value i'
      refine wpS_bind (wpS_mergeC h0 hS' hi' fun st3 hS3 hp3 _ => ?_)
      exact wpS_pure ⟨rfl, hS3, by omega⟩
    · rintro c st'' ⟨hc, hS', hp⟩
      have : max 0 a₀.size = a₀.size := by omega
      rw [this] at hp
      exact ⟨hc, hS', by omega⟩
    · have := hS.chain.len
      rw [Array.length_toList] at this
      exact ⟨rfl, hS, by omega⟩
    · rintro c st'' ⟨rfl, hS', hp⟩
      refine wpS_pure (h _ hS'.perm hS'.failed ?_)
      have hc := hS'.chain
      have hl : (pendingOf st'').toList.length ≤ 1 := by rw [Array.length_toList]; exact hp
      generalize (pendingOf st'').toList = l at hc hl
      match l, hc, hl with
      | [], hc, _ =>
        have : a₀.size = 0 := hc.symm
        intro i j _ hj; omega
      | [p], hc, _ =>
        obtain ⟨_, _, hs, e⟩ := hc
        have e' : 0 + p.2.1 = a₀.size := e
        intro i j hij hj
        exact hs i j (Nat.zero_le _) hij (by omega)
end
end Srt

set_option maxHeartbeats 4000000
set_option maxRecDepth 100000
namespace Srt
open PySem PyProof PyProof.Rows
section
variable {prog : Program} {w : World} {A : Around} {E : Value → Shared → Prop} {s : Shared}

theorem sort_any {a : Addr} {vs : List Value} {ns : List Int} {n : Nat} {P : Fin → Shared → Prop} (o0 : s.heap.get? a = some (seqObj "list" vs.toArray n)) (hI : IntsAre vs ns) (hz : vs.length ≤ sizeLine)
    (h : ∀ (out : Array Value) (ns' : List Int), IntsAre out.toList ns' → ns'.Perm ns → ns'.Pairwise (· ≤ ·) → P (.done (.ret .none)) { s with heap := sortedHeap s.heap a vs out }) :
    wpAny (model prog w) A (Builtin.«list.sort» ⟨[.ref a], []⟩) P E s := by
  rw [list_sort_plain]
  have la : a < s.heap.objs.size := Heap.lt_size o0
  obtain ⟨e1, o1⟩ : ∃ e, (s.heap.update a (Obj.mapSeq fun _ => #[])).get? a = some (seqObj "list" #[] e) := ⟨_, get?_update_seq o0 _⟩
  have o6 : (((s.heap.update a (Obj.mapSeq fun _ => #[])).push (seqObj "tuple" vs.toArray 0)).push (seqObj "list" #[] 0)).get? a = some (seqObj "list" #[] e1) := by
    rwa [Heap.get?_push_ne _ _ _ (by rw [size_push', Heap.size_update]; exact Nat.ne_of_lt (Nat.lt_succ_of_lt la)), Heap.get?_push_ne _ _ _ (by rw [Heap.size_update]; exact Nat.ne_of_lt la)]
  refine wpAny_bind (listItems_at o0 rfl (wpAny_bind (listUpdate_at o0 rfl ?_ (by simpa using hz) (Nat.zero_le _))))
  refine wpAny_bind (seqEpoch_at o1 rfl (wpAny_bind (wpAny_newTuple (wpAny_bind (wpAny_newList (wpAny_holding ?_))))))
  have fit : ∀ xs : Array Keyed, xs.Perm (pairsOf vs) → (xs.map (·.2)).size ≤ sizeLine := fun xs p => Nat.le_trans (Nat.le_of_eq ((Array.size_map ..).trans (p.size_eq.trans (pairsOf_size vs)))) hz
  have fin : ∀ xs : Array Keyed, xs.Perm (pairsOf vs) → SortedTo xs (pairsOf vs).size → P (.done (.ret .none)) { s with heap := sortedHeap s.heap a vs (xs.map (·.2)) } := fun xs p so => by
    obtain ⟨ms, m1, m2, m3⟩ := sorted_out hI p so
    exact h _ ms m1 m2 m3
  by_cases c : vs.toArray.size < 2
  · rw [if_pos c, if_pos c]
    refine wpAny_bind (wpAny_pure (wpAny_bind (wpAny_pure ?_)))
    refine wpAny_bind (seqEpoch_at o6 rfl (wpAny_bind (listUpdate_at o6 rfl ?_ (Nat.zero_le _) (Nat.le_succ_of_le (fit _ (Array.Perm.refl _))))))
    simp only [bne_self_eq_false, Bool.false_eq_true, if_false]
    refine wpAny_pure (fin (pairsOf vs) (Array.Perm.refl _) fun i j i1 i2 => ?_)
    have hl : vs.length < 2 := by simpa using c
    have : i = j := by rw [pairsOf_size] at i2; omega
    subst this
    exact Int.le_refl _
  · rw [if_neg c, if_neg c]
    obtain ⟨x, y, r, rfl⟩ : ∃ x y r, vs = x :: y :: r := by
      cases vs with
      | nil => exact absurd (show 0 < 2 by decide) c
      | cons x r => cases r with
        | nil => exact absurd (show 1 < 2 by decide) c
        | cons y r => exact ⟨x, y, r, rfl⟩
    rw [keyKind_ints hI]
    refine wpAny_bind (wpAny_pure (wpAny_bind (wpAny_mono (wpS_sortRunsX (a₀ := pairsOf (x :: y :: r)) (st := SortSt.mk' oneType' (pairsOf (x :: y :: r)) #[] 7 none)
      (Q := fun _ st' => (arrOf st').Perm (pairsOf (x :: y :: r)) ∧ failedOf st' = none ∧ SortedTo (arrOf st') (pairsOf (x :: y :: r)).size) hI.intKeys ⟨Array.Perm.refl _, rfl, rfl, rfl⟩ fun _ b1 b2 b3 => ⟨b1, b2, b3⟩) ?_ fun _ _ e => e)))
    rintro ⟨u, st'⟩ s' ⟨rfl, b1, b2, b3⟩
    refine wpAny_bind (seqEpoch_at o6 rfl (wpAny_bind (listUpdate_at o6 rfl ?_ (Nat.zero_le _) (Nat.le_succ_of_le (fit _ b1)))))
    rw [b2]
    simp only [bne_self_eq_false, Bool.false_eq_true, if_false]
    exact wpAny_pure (fin _ b1 b3)

theorem sorted_any {l : Addr} {vs : List Value} {ns : List Int} {Q : Value → Shared → Prop} (hl : s.heap.IsList l vs.toArray) (hI : IntsAre vs ns) (hz : vs.length ≤ sizeLine)
    (h : ∀ (out : Array Value) (ns' : List Int), IntsAre out.toList ns' → ns'.Perm ns → ns'.Pairwise (· ≤ ·) → Q (.ref (s.heap.objs.size + 1)) { s with heap := sortedAll s.heap vs out }) :
    wpAny (model prog w) A (call (.builtin "sorted") [.ref l]) Q E s := by
  have ez : ((s.heap.push (seqObj "list" #[] 0)).update s.heap.objs.size (Obj.mapSeq (· ++ vs.toArray))).objs.size = s.heap.objs.size + 1 := by rw [Heap.size_update, size_push']
  have oL : (((s.heap.push (seqObj "list" #[] 0)).update s.heap.objs.size (Obj.mapSeq (· ++ vs.toArray))).push (seqObj "list" vs.toArray 0)).get? (s.heap.objs.size + 1) = some (seqObj "list" vs.toArray 0) := by
    rw [← ez]; exact Heap.get?_push_size _ rfl
  refine Calls.call_function_entry kind_sorted plain_sorted entry_sorted (args_sorted1 _) (wpAny_bind (m := checkCount "sorted" 1 1 _) (wpAny_pure (wpAny_bind (collect_list hl ?_ hz))))
  refine wpAny_bind (wpAny_newList ?_)
  rw [ez]
  refine wpAny_bind (wpAny_holding (wpAny_call_entry slot_list_sort ⟨_, oL, rfl⟩ entry_list_sort (sort_any oL hI hz fun out ns' a1 a2 a3 => ⟨_, rfl, ?_⟩) (args_list_sort _)))
  exact wpAny_pure ⟨_, rfl, h out ns' a1 a2 a3⟩
end
end Srt
namespace L2
open PySem PySem.Spec PyProof.Rows
variable {X : Cx}
/-- sorted of a list of ints, however long -/
theorem call_sortedB : CallR X (.builtin "sorted") (fun xs H Q => ∃ (p : Addr) (ns : List Int), xs = [.ref p] ∧ SqL X.K H p (ns.map V.int) ∧ ∀ ms : List Int, ms.Perm ns → ms.Pairwise (· ≤ ·) → ∀ l, H l = none → Q (.ref l) (upd H l (.lst (ms.map V.int)))) := by
  intro pins s σ H xs us Q I r h
  obtain ⟨p, ns, rfl, hq, q⟩ := h
  obtain ⟨u, rfl, rx⟩ := vals1 r
  cases rx
  obtain ⟨its, rv, pl, hz'⟩ := I.list hq
  have hlen := rv.length
  rw [List.length_map] at hlen hz'
  refine Srt.sorted_any pl.isList (intsAre_of rv) (by omega) fun out ms a1 a2 a3 => ?_
  obtain ⟨e, he⟩ := sortedAll_at s.heap its out
  have hm : ms.length = ns.length := a2.length_eq
  refine ⟨.ref (s.heap.objs.size + 1), _, I.laid (t' := s.toks) (fun b o => sortedAll_old) (Nat.le_succ _) (show ObjOk X.prog X.w _ _ _ (.lst (ms.map V.int)) from ⟨by rw [List.length_map, hm]; exact hz', out.toList, e, vals_ints a1, he⟩), rfl, q ms a2 a3 _ (I.hok.fresh (Nat.le_succ _))⟩
end L2

set_option maxRecDepth 100000
set_option maxHeartbeats 4000000
namespace L2
open PySem PySem.Spec PyProof.Rows

/-! ### zip of two tuples -/
section
variable {prog : Program} {w : World} {A : Around} {E : Value → Shared → Prop} {s : Shared}
end
end L2
namespace Wd
open PySem L2 Ow
end Wd

set_option maxRecDepth 100000
set_option maxHeartbeats 4000000
namespace Wd
open PySem L2 Ow
/-- what least_bar answers, its lists unknown to H0 -/
def FoundF (H0 H : Hp) (fv : V) (ts : List Tie) (m y n : Nat) : Prop := (barB ts (allT ts) m y n = false ∧ fv = .non) ∨ (barB ts (allT ts) m y n = true ∧ ∃ (p lf ol : Addr) (v : V), fv = .ref p ∧ H p = some (.tup [.ref lf, v, .ref ol]) ∧ H lf = some (.lst (natsL (leastL ts m y n))) ∧ Dn H (casesF ts (leastL ts m y n) m 9 y n).toD v ∧ Others H ol ts m y n (leastL ts m y n) ∧ H0 lf = none ∧ H0 ol = none)
theorem FoundF.same {H0 H H' : Hp} {fv : V} {ts : List Tie} {m y n : Nat} (s : Same H H') (h : FoundF H0 H fv ts m y n) : FoundF H0 H' fv ts m y n := by
  rcases h with z | ⟨b, p, lf, ol, v, a1, a2, a3, a4, a5, a6, a7⟩
  · exact .inl z
  · obtain ⟨xs, h1, h2, h3⟩ := a5.ex
    refine .inr ⟨b, p, lf, ol, v, a1, s _ _ a2, s _ _ a3, Dn.same s _ _ a4, ⟨xs, s _ _ h1, h2, fun j t ht => ?_⟩, a6, a7⟩
    obtain ⟨p', b1, b2⟩ := h3 j t ht
    exact ⟨p', b1, s _ _ b2⟩
theorem FoundF.old {H0 H1 H : Hp} {fv : V} {ts : List Tie} {m y n : Nat} (s : Same H0 H1) (h : FoundF H1 H fv ts m y n) : FoundF H0 H fv ts m y n := by
  rcases h with z | ⟨b, p, lf, ol, v, a1, a2, a3, a4, a5, a6, a7⟩
  · exact .inl z
  · exact .inr ⟨b, p, lf, ol, v, a1, a2, a3, a4, a5, s.free a6, s.free a7⟩
/-- the standing of the option k, as it is told -/
def StandV (H0 H : Hp) (v : V) (ts : List Tie) (m k : Nat) : Prop := ∃ p, v = .ref p ∧
  ((barB ts (allT ts) m 1 0 = true ∧ ∃ fv, H p = some (.tup [.str ("void" : Str), fv]) ∧ FoundF H0 H fv ts m 1 0) ∨
   (barB ts (allT ts) m 1 0 = false ∧ k = 0 ∧ H p = some (.tup [.str ("always" : Str), .non])) ∨
   (barB ts (allT ts) m 1 0 = false ∧ k ≠ 0 ∧ barB ts (allT ts) m (1 ||| 2 ^ k) 0 = true ∧ ∃ fv, H p = some (.tup [.str ("never" : Str), fv]) ∧ FoundF H0 H fv ts m (1 ||| 2 ^ k) 0) ∨
   (barB ts (allT ts) m 1 0 = false ∧ k ≠ 0 ∧ barB ts (allT ts) m (1 ||| 2 ^ k) 0 = false ∧ barB ts (allT ts) m 1 (2 ^ k) = true ∧ ∃ fv, H p = some (.tup [.str ("always" : Str), fv]) ∧ FoundF H0 H fv ts m 1 (2 ^ k)) ∨
   (barB ts (allT ts) m 1 0 = false ∧ k ≠ 0 ∧ barB ts (allT ts) m (1 ||| 2 ^ k) 0 = false ∧ barB ts (allT ts) m 1 (2 ^ k) = false ∧ ∃ s1 s2 : Nat, keepF ts (allT ts) m 9 (1 ||| 2 ^ k) 0 = some s1 ∧ keepF ts (allT ts) m 9 1 (2 ^ k) = some s2 ∧ H p = some (.tup [.str ("either" : Str), .int (s1 : Int), .int (s2 : Int)])))
theorem bar_none {ts : List Tie} {il : List Nat} {m y n : Nat} (h : keepF ts il m 9 y n = none) : barB ts il m y n = true := by unfold barB; rw [h]; rfl
theorem bar_some {ts : List Tie} {il : List Nat} {m y n s : Nat} (h : keepF ts il m 9 y n = some s) : barB ts il m y n = false := by unfold barB; rw [h]; rfl
theorem bar_get {ts : List Tie} {il : List Nat} {m y n : Nat} (h : barB ts il m y n = false) : ∃ s, keepF ts il m 9 y n = some s := by
  cases e : keepF ts il m 9 y n with
  | none => rw [bar_none e] at h; cases h
  | some s => exact ⟨s, rfl⟩
theorem stand_root {m : Nat} (m1 : 1 ≤ m) : Stand m 1 0 := ⟨fun _ _ => Nat.zero_testBit _, Nat.lt_of_lt_of_le (by decide) (Nat.pow_le_pow_right (by decide) m1 : 2 ^ 1 ≤ 2 ^ m), Nat.two_pow_pos m⟩
theorem stand_with {m k : Nat} (m1 : 1 ≤ m) (km : k < m) : Stand m (1 ||| 2 ^ k) 0 := ⟨fun _ _ => Nat.zero_testBit _, Nat.or_lt_two_pow (stand_root m1).ym (Nat.pow_lt_pow_right (by decide) km), Nat.two_pow_pos m⟩
theorem stand_without {m k : Nat} (m1 : 1 ≤ m) (km : k < m) (k0 : k ≠ 0) : Stand m 1 (2 ^ k) := ⟨fun j hj => by
    have : j = 0 := by
      cases j with
      | zero => rfl
      | succ j => rw [show (1 : Nat) = 2 ^ 0 from rfl, Nat.testBit_two_pow] at hj; simp at hj
    subst this
    rw [Nat.testBit_two_pow]
    simpa using k0, (stand_root m1).ym, Nat.pow_lt_pow_right (by decide) km⟩
/-- of a stand with the root the first ware is the first set that keeps all ties -/
theorem ware_keep {ts : List Tie} {m y n : Nat} {o : Option Nat} (y0 : y.testBit 0 = true) (h : FirstWare ts m y n o) : FirstK ts (allT ts) m y n o := by
  have e : ∀ s', InS y n s' → wareB ts s' = allKeep ts (allT ts) s' := fun s' hs => by
    unfold wareB
    rw [hs.1 0 y0, allKeep_all, Bool.true_and]
  cases o with
  | none => exact fun s' a b => by rw [← e s' b]; exact h s' a b
  | some s => exact ⟨h.1, h.2.1, by rw [← e s h.2.1]; exact h.2.2.1, fun s' a b c => h.2.2.2 s' a b (by rw [e s' b]; exact c)⟩
end Wd

set_option maxRecDepth 100000
set_option maxHeartbeats 4000000
namespace Wd
open PySem L2 Ow
/-! ### sets counted by how many of some options they have, weighed -/
/-! ### all sets of some options -/
/-! ### boughs taken one by one -/
end Wd

set_option maxRecDepth 100000
set_option maxHeartbeats 4000000
namespace L2
open PySem PySem.Spec PyProof.Rows

/-! ### zip of two lists -/
end L2

set_option maxRecDepth 100000
set_option maxHeartbeats 4000000
namespace Wd
open PySem L2 Ow
/-! ### the boughs in the order in which they are taken -/
/-! ### all sets, by their numbers -/
end Wd

set_option maxRecDepth 100000
set_option maxHeartbeats 4000000
namespace L2
open PySem PySem.Spec PyProof.Rows
/-! ### set(l) of a list of unlike whole numbers, and how many it has -/
section
variable {X : Cx}
end
end L2

set_option maxRecDepth 100000
set_option maxHeartbeats 4000000
namespace Wd
open PySem L2 Ow
end Wd
namespace Wd
open PySem L2 Ow
/-! ### choices by the bits of a number -/
end Wd
namespace Wd
open PySem L2 Ow
end Wd

set_option maxRecDepth 100000
set_option maxHeartbeats 4000000
namespace L2
open PySem PySem.Spec PyProof.Rows
/-! ### a, b = a list -/
section
variable {prog : Program} {w : World} {A : Around} {E : Value → Shared → Prop} {s : Shared}
end
section
variable {X : Cx} {pos : Pos}
end
section
variable {X : Cx}
/-! ### list.insert at a place within -/
end
end L2

set_option maxRecDepth 100000
set_option maxHeartbeats 4000000
namespace Wd
open PySem L2 Ow
/-! ### woods drawn by a state (the laws from k50 on) -/
end Wd

set_option maxRecDepth 100000
set_option maxHeartbeats 4000000
namespace Wd
open PySem L2 Ow
end Wd

set_option maxRecDepth 100000
set_option maxHeartbeats 4000000
namespace HT
open PySem PySem.Spec PyProof.Rows
section
variable {prog : Program} {w : World} {A : Around} {E : Value → Shared → Prop} {s : Shared}
end
end HT
namespace HT
open PySem PySem.Spec PyProof.Rows
section
variable {prog : Program} {w : World} {A : Around} {E : Value → Shared → Prop} {s : Shared}
end
end HT
namespace L2
open PySem PySem.Spec PyProof.Rows
section
variable {X : Cx} {e st : Expr} {te tst : TE} {pos p2 : Pos}
end
end L2
namespace L2
open PySem PySem.Spec PyProof.Rows
section
variable {X : Cx}
end
end L2
namespace Wd
open PySem L2 Ow
mutual
theorem flat_lay : ∀ (n : Nat) (d : PyData), flatD n d = true → PyData.canLay0 d = true ∧ PyData.depth d ≤ n + 1
  | _, .int i, _ => ⟨by simp [PyData.canLay0], by simp only [PyData.depth]; omega⟩
  | n, .str s, h => ⟨by cases n <;> simpa [PyData.canLay0] using (show PyData.strOk s = true from h), by simp only [PyData.depth]; omega⟩
  | n + 1, .tuple ds, h => by
    have z : (decide (ds.length ≤ 1000) && ds.all (flatD n)) = true := h
    rw [Bool.and_eq_true] at z
    obtain ⟨a, b⟩ := flat_layAll n ds z.2
    exact ⟨by simpa [PyData.canLay0] using a, by simp only [PyData.depth]; omega⟩
  | 0, .tuple _, h => by cases h
  | 0, .none, h => by cases h
  | n + 1, .none, h => by cases h
  | 0, .bool _, h => by cases h
  | n + 1, .bool _, h => by cases h
  | 0, .list _, h => by cases h
  | n + 1, .list _, h => by cases h
  | 0, .dict _, h => by cases h
  | n + 1, .dict _, h => by cases h
theorem flat_layAll : ∀ (n : Nat) (ds : List PyData), ds.all (flatD n) = true → PyData.canLayAll0 ds = true ∧ PyData.depthAll ds ≤ n + 1
  | _, [], _ => ⟨by simp [PyData.canLayAll0], by simp only [PyData.depthAll]; omega⟩
  | n, d :: ds, h => by
    rw [List.all_cons, Bool.and_eq_true] at h
    obtain ⟨a1, b1⟩ := flat_lay n d h.1
    obtain ⟨a2, b2⟩ := flat_layAll n ds h.2
    exact ⟨by simp [PyData.canLayAll0, a1, a2], by simp only [PyData.depthAll]; omega⟩
end
theorem cut_tail (xs : List V) (t : Nat) (h : t ≤ xs.length) : cutV xs (some (t : Int)) none = xs.drop t := by
  unfold cutV
  rw [HT.sIx_nat, HT.sIx_none, Nat.min_eq_left h, List.take_of_length_le]
  rw [List.length_drop]
  exact Nat.le_refl _
end Wd

set_option maxRecDepth 100000
set_option maxHeartbeats 4000000
namespace Wd
open PySem L2 Ow
/-! ### which ties a set breaks -/
end Wd

set_option maxRecDepth 100000
set_option maxHeartbeats 4000000
namespace Wd
open PySem L2 Ow
end Wd

set_option maxRecDepth 100000
set_option maxHeartbeats 4000000
namespace Wd
open PySem L2 Ow
/-! ### the sets of a stand, one by one -/
end Wd

set_option maxRecDepth 100000
set_option maxHeartbeats 4000000
namespace L2
open PySem PySem.Spec PyProof.Rows

/-! ### lists of pairs as tables -/
section
variable {κ : Type} [DecidableEq κ]
end


/-! ### a tracked dict, its keys ints and texts or tuples of these -/
section
variable {P : Program} {w : World} {H : Hp} {h : Heap} {a : Addr}
end

section
variable {X : Cx} {pins : List (Addr × Obj)} {σ : St} {H : Hp} {s : Shared} {a : Addr} {y v : V} {u r : Value} {o : Option V} {A : Around} {E : Value → Shared → Prop}

theorem Inv.big (I : Inv X pins σ H s) : sysModules < s.heap.objs.size := by
  have h : mainGlobals < s.heap.objs.size := (I.mod.glob.keeps I.bk).lt
  exact Nat.lt_trans (by decide) h

/-- a dict's object is replaced -/
theorem d_write {h' : Heap} {t' : Nat} {ob : HO} (I : Inv X pins σ H s) (mu : Mut (H a)) (hs : Heap.SameBut a s.heap h') (he : ∃ q, h'.get? a = some q) (new : ObjOk X.prog X.w (upd H a ob) h' a ob) :
    Inv X pins σ (upd H a ob) { s with heap := h', toks := t' } :=
  I.write (x := a) (e := a) mu (.inl rfl) (fun b q hb z => (hs.2 b hb).trans z) he new
end

section
variable {X : Cx} {pins : List (Addr × Obj)} {σ : St} {H : Hp} {s : Shared} {a : Addr} {kvs : List (Key × V)} {k : Key} {u : Value} {A : Around} {E : Value → Shared → Prop}
end


/-! ### readings and rules -/
section
variable {X : Cx} {o i e value : Expr} {pos pos' tpos : Pos} {td ty tv : TE}
end


/-! ### displays -/
section
variable {X : Cx} {pos : Pos}
end

/-! ### methods -/
structure M2 (X : Cx) (o : Expr) (m : Str) (apos : Pos) (e f : Expr) (cpos : Pos) : Prop where
  base : attributeBase o m X.env (eval o X.env) = eval o X.env
  few : ((backTo cpos (starEach [e, f] X.env)).all (fun x => !x.1) && (backToKw cpos (keywordEach [] X.env)).all (fun x => x.1.isSome)
    && decide (([e, f] : List Expr).length + ([] : List Keyword).length + (if ([] : List Keyword).isEmpty then 0 else 1) < 30)) = true
  line : (apos.endLine == cpos.line) = true
  trees : backTo cpos (starEach [e, f] X.env) = [(false, eval e X.env), (false, eval f X.env)]

section
variable {X : Cx} {pins : List (Addr × Obj)} {σ : St} {H : Hp} {s : Shared} {a : Addr} {y d : V} {u r : Value} {o : Option V} {A : Around} {E : Value → Shared → Prop}
end

section
variable {X : Cx} {o e f : Expr} {apos cpos : Pos} {td ty tx : TE}
end

/-! ### dict(d): a copy -/
section
variable {X : Cx} {pins : List (Addr × Obj)} {σ : St} {H : Hp} {s : Shared} {a : Addr} {kvs : List (Key × V)} {A : Around} {E : Value → Shared → Prop}
end


section
variable {X : Cx} {pins : List (Addr × Obj)} {σ : St} {H : Hp} {s : Shared} {a : Addr} {y : V} {u : Value} {A : Around} {E : Value → Shared → Prop}
end
end L2
namespace L2
open PySem PySem.Spec PyProof.Rows
section
variable {X : Cx}
end

/-! ### a dict's pairs: keys that differ -/
section
variable {κ : Type} [DecidableEq κ]
theorem nd_snoc : ∀ {l : List κ} {k : κ}, l.Nodup → ¬ k ∈ l → (l ++ [k]).Nodup
  | [], k, _, _ => by simp
  | a :: r, k, h, hk => by
    obtain ⟨h1, h2⟩ := List.nodup_cons.mp h
    show (a :: (r ++ [k])).Nodup
    refine List.nodup_cons.mpr ⟨fun m => ?_, nd_snoc h2 fun m => hk (List.mem_cons.mpr (Or.inr m))⟩
    rcases List.mem_append.mp m with q | q
    · exact h1 q
    · exact hk (List.mem_cons.mpr (Or.inl (List.mem_singleton.mp q).symm))
end
end L2

set_option maxRecDepth 100000
set_option maxHeartbeats 4000000
namespace L2
open PySem PySem.Spec
/-- PE as a word that the elaborator doesn't unfold (a display's run is long) -/
@[irreducible] def PEi (X : Cx) (e : Expr) (t : TE) : Prop := PE X e t
@[irreducible] def PSi (X : Cx) (e : Stmt) (t : TS) : Prop := PS X e t
@[irreducible] def PLi (X : Cx) (l : List Stmt) (t : TS) : Prop := PSs X l t
end L2
namespace Wd
open PySem L2 Ow
end Wd

set_option maxRecDepth 100000
set_option maxHeartbeats 4000000
namespace L2
open PySem PySem.Spec PyProof.Rows
end L2
namespace Wd
open PySem L2 Ow
/-! ### trees that are looked at -/
end Wd

set_option maxRecDepth 100000
set_option maxHeartbeats 4000000
namespace Wd
open PySem L2 Ow
section
variable {t1 t2 : List Tie} {m f y n : Nat}
end
end Wd

set_option maxRecDepth 100000
set_option maxHeartbeats 4000000
namespace L2
open PySem PySem.Spec PyProof.Rows
end L2
namespace Wd
open PySem L2 Ow
theorem nats_take {l : List Nat} {i s : Nat} (h : l[i]? = some s) (g : Nat → Bool) : natsL ((l.take (i + 1)).filter g) = natsL ((l.take i).filter g) ++ (if g s = true then [.int (s : Int)] else []) := by
  rw [List.take_add_one, h, Option.toList_some, List.filter_append]
  unfold natsL
  rw [List.map_append]
  cases e : g s
  · rw [List.filter_cons_of_neg (by rw [e]; decide)]; rfl
  · rw [List.filter_cons_of_pos e]; rfl
/-- .. a test that makes nothing -/
theorem lc_filt {K : PySem.W.Frag} {a : Addr} {l : List Nat} {σ0 σr : St} {H : Hp} {tc : TT} {Q : VK} (gB : Nat → Bool) (h0 : σ0 = none :: σr) (ha : H a = some (.lst (natsL l))) (few : l.length ≤ 1000)
    (ht : ∀ s ∈ l, ∀ R : Bool → Hp → Prop, R (gB s) H → tc (some (.int (s : Int)) :: σr) H R)
    (hd : ∀ p, H p = none → Q (.ref p) (upd H p (.lst (natsL (l.filter gB))))) :
    lcGo (Itl K a) (gName 0) tc (tVar 0) σ0 H Q := by
  refine lc_list (K := K) (a := a) (xs := natsL l) (fun i ys σ H2 => (∃ v, σ = v :: σr) ∧ H2 = H ∧ ys = natsL ((l.take i).filter gB)) ⟨⟨none, h0⟩, rfl, rfl⟩ (fun i ys σ H2 hi pv => ?_) (fun i ys σ H2 hi pv => ?_) (fun i x ys σ H2 hx pv => ?_) (fun ys σ H2 pv p hp => ?_)
  · obtain ⟨_, _, rfl⟩ := pv
    rw [List.length_map]
    refine small (Nat.le_trans (List.length_filter_le _ _) ?_)
    rw [List.length_take]
    omega
  · rw [pv.2.1]; exact SqL.of ha
  · obtain ⟨⟨v, rfl⟩, rfl, rfl⟩ := pv
    rw [List.getElem?_map] at hx
    obtain ⟨s, hs, rfl⟩ := Option.map_eq_some_iff.mp hx
    refine ht s (List.mem_of_getElem? hs) _ ?_
    have e := nats_take hs gB
    cases c : gB s
    · refine iteF ?_
      rw [c, if_neg (by decide), List.append_nil] at e
      exact ⟨⟨_, rfl⟩, rfl, e.symm⟩
    · refine iteT ?_
      rw [c, if_pos rfl] at e
      exact ⟨_, rfl, ⟨_, rfl⟩, rfl, e.symm⟩
  · obtain ⟨_, rfl, rfl⟩ := pv
    have e : l.take (natsL l).length = l := by rw [show (natsL l).length = l.length from List.length_map _, List.take_length]
    rw [e]
    exact hd p hp
/-! ### trees of one wood within another that are looked at -/
end Wd

set_option maxRecDepth 100000
set_option maxHeartbeats 4000000
namespace L2
open PySem PySem.Spec PyProof.Rows
/-! ### dicts whose keys are tuples of truths -/
def isB : Bool → Value → Bool
  | b, .bool c => c == b
  | _, _ => false
theorem isB_eq {b : Bool} {v : Value} (h : isB b v = true) : v = .bool b := by
  cases v with
  | bool c => exact congrArg Value.bool (eq_of_beq h)
  | _ => cases h
theorem slotBH : Slot "bool" "__hash__" "int.__hash__" :=
  Slot.of (owner := "int") (n := "__hash__")
    (by rw [typeLookup_type, builtinLookup_eq_fast]
        kernel_rfl)
    (by decide +kernel)
    (by decide +kernel)
    (by decide +kernel)
    (by first
        | exact .inl (by decide +kernel)
        | exact .inr (by decide +kernel))
    (by rw [isSubtype_type]
        kernel_rfl)
def bH (b : Bool) : Int := if b = true then 1 else 0
section
variable {prog : Program} {w : World} {A : Around} {E : Value → Shared → Prop} {s : Shared}
theorem hash_bool {b : Bool} {Q : Int → Shared → Prop} (h : Q (bH b) { s with toks := s.toks + 1 }) : wpAny (model prog w) A (pyHash (.bool b)) Q E s := by
  have tB : s.TypeIs (.bool b) "bool" := rfl
  have nh : [Value.bool b].any Value.onHeap = false := rfl
  show wpAny _ _ (pyHashByItsType (.bool b)) _ _ _
  unfold pyHashByItsType
  refine wpAny_bind ?_
  rw [cRoomFor, if_neg (fun z => by rw [nh] at z; cases z)]
  refine wpAny_pure (wpAny_bind (wpAny_specialOf tB slotBH.lookup ?_))
  show wpAny _ _ (if (some (Value.builtin "int.__hash__") == some Value.none) = true then _ else _) _ _ _
  rw [if_neg (fun z => by rw [beq_builtin_none] at z; cases z)]
  refine wpAny_bind (wpAny_specialOf tB slotBH.lookup ?_)
  show wpAny _ _ (callSpecialIfBoundUnlessNone? (.bool b) "__hash__" _ >>= _) _ _ _
  refine wpAny_bind (wpAny_callSpecialIfBoundUnlessNone?_slot tB slotBH (wpAny_call_entry slotBH tB PySem.F.entry_int_hash ?_ (PySem.args_int_hash _)))
  cases b
  · show wpAny _ _ (do ret (← mkInt 0)) _ _ _
    refine wpAny_ret_mkInt ?_
    exact wpAny_pure h
  · show wpAny _ _ (do ret (← mkInt 1)) _ _ _
    refine wpAny_ret_mkInt ?_
    exact wpAny_pure h
end
def bKind (prog : Program) (w : World) : KeyKind prog w Bool where
  is := isB
  hash := bH
  inj := fun v a b ha hb => by
    rw [isB_eq ha] at hb
    exact eq_of_beq hb
  byValue := fun k v h => by rw [isB_eq h]; rfl
  pyHash := fun hv h => by rw [isB_eq hv]; exact hash_bool h
  eqBool := fun {A E s a b u v Q} hu hv h => by
    rw [isB_eq hu, isB_eq hv]
    refine SeqAt.EqAt.bool_bool a b _ _ _ _ ?_
    have e : (a == b) = decide (a = b) := by cases a <;> cases b <;> rfl
    rw [e]
    exact h
  «strs» := fun k x t v h => by cases h
section
variable {prog : Program} {w : World} {KK : Type} [DecidableEq KK] {knd : HeapKind prog w KK} {A : Around} {E : Value → Shared → Prop} {s : Shared} {d a : Addr} {xs : List (KK × Addr × Value)} {k : KK}
theorem setdef_heap {dflt : Value} {Q : Value → Shared → Prop} (hu : knd.room A) (hkey : knd.is s.heap k a) (hm : s.heap.DictOfH knd d xs) (hz : xs.length ≤ sizeLine)
    (old : ∀ p, atKey xs k = some p → Q p.2 { s with toks := s.toks + knd.draws k }) (new : atKey xs k = none → ∀ h', h'.DictOfH knd d (xs ++ [(k, a, dflt)]) → Heap.SameBut d s.heap h' → Q dflt { s with heap := h', toks := s.toks + knd.draws k }) :
    wpAny (model prog w) A (dictSetDefault d (.ref a) dflt) Q E s := by
  obtain ⟨o, es, ep, ho, hc, hd, he, his, hn⟩ := hm
  unfold dictSetDefault
  try with_reducible refine wpAny_holding ?_
  refine wpAny_bind (knd.pyHash hu hkey ?_)
  refine wpAny_bind (wpAny_dictFind_heap (s := { s with toks := s.toks + knd.draws k }) hu hkey ho hd he his hn (fun hno => ?_) fun j p hj => ?_)
  · have ak := atKey_none_of_get hno
    have nk := not_mem_keys_of_get hno
    have sb : Heap.SameBut d s.heap (s.heap.update d (Obj.mapDictKeys (·.push ⟨knd.hash k, .ref a, dflt⟩))) := Heap.SameBut.update ..
    refine wpAny_bind (wpAny_rule ?_)
    refine wpAny_bind (wpAny_updateDictKeys (hz := by rw [size_of_entries he]; exact hz) (s := { s with toks := s.toks + knd.draws k }) ho hd (wpAny_pure (new ak _ ⟨_, _, ep + 1, Heap.get?_update_self _ ho (Obj.isFreed_of_dict (Obj.data_mapDictKeys hd _)), hc.mapDictKeys _, Obj.data_mapDictKeys hd _, ?_, fun x hx => ?_, ?_⟩ sb)))
    · rw [Array.toList_push, he, List.map_append]
      rfl
    · rcases List.mem_append.mp hx with z | z
      · exact knd.keeps (his x z) ho hd sb
      · rw [List.mem_singleton.mp z]
        exact knd.keeps hkey ho hd sb
    · rw [List.map_append, List.nodup_append]
      refine ⟨hn, by simp, fun x hx y hy e => nk ?_⟩
      rw [List.map_cons, List.map_nil] at hy
      have e2 : x = k := e.trans (List.mem_singleton.mp hy)
      rw [← e2]
      exact hx
  · refine wpAny_bind (wpAny_dictEntries (s := { s with toks := s.toks + knd.draws k }) ho hd ?_)
    rw [entry_at he j, hj]
    exact wpAny_bind (wpAny_rule (wpAny_pure (old p (atKey_of_get hn hj))))
theorem meets_setdefH (hd : (d == sysModules) = false) (dflt : Value) :
    MeetsIn prog w (Builtin.«dict.setdefault» ⟨[.ref d, .ref a, dflt], []⟩) (fun A R s => knd.room A.in1 ∧ ∃ k xs, knd.is s.heap k a ∧ s.heap.DictOfH knd d xs ∧ xs.length ≤ sizeLine ∧
      (∀ p, atKey xs k = some p → R (.ok (.ret p.2)) { s with toks := s.toks + knd.draws k }) ∧ (atKey xs k = none → ∀ h', h'.DictOfH knd d (xs ++ [(k, a, dflt)]) → Heap.SameBut d s.heap h' → R (.ok (.ret dflt)) { s with heap := h', toks := s.toks + knd.draws k })) :=
  .of_wp fun A R s ⟨hu, k, xs, hkey, hm, hz, h1, h2⟩ => by
    unfold Builtin.«dict.setdefault»
    refine wpAny_bind ?_
    unfold Builtin.Dict.keyAndDefault
    refine wpAny_bind (wpAny_notOrdered_dict hm.typeIs (show wpAny _ _ (pure (d, Value.ref a, some dflt)) _ _ s from wpAny_pure ?_))
    show wpAny _ _ (if (d == sysModules) = true then _ else (dictSetDefault d (.ref a) dflt >>= _)) _ _ s
    rw [if_neg (fun z => by rw [hd] at z; cases z)]
    exact wpAny_bind (setdef_heap hu hkey hm hz (fun p hp => wpAny_pure ⟨_, rfl, h1 p hp⟩) fun hn h' hm' hs' => wpAny_pure ⟨dflt, rfl, h2 hn h' hm' hs'⟩)
end
/-! ### the values of any dict, one by one -/
section
variable {prog : Program} {w : World} {A : Around} {E : Value → Shared → Prop} {s : Shared} {it d v : Addr} {i ep : Nat} {es : Array DictEntry} {od : Obj}
theorem next_val {Q : Option Value → Shared → Prop} (hit : s.heap.IsValIter it d i es.size ep) (hod : s.heap.get? d = some od) (hdd : od.data = .dict es ep) (hi : i < es.size)
    (hQ : ∀ h', h'.IsValIter it d (i + 1) es.size ep → Heap.SameBut it s.heap h' → Q (some es[i].val) { s with heap := h' }) : wpAny (model prog w) A (pyNext (.ref it)) Q E s := by
  have tI := hit.typeIs
  obtain ⟨oi, ho, hc, hd⟩ := id hit
  have ow : Builtin.Dict_items.ownsTuple "dict_valueiterator" = false := rfl
  obtain ⟨f1, hf1⟩ : ∃ f : Obj → Obj, f = Obj.mapFields (·.setIfInBounds 1 (rawInt ((i : Int) + 1))) := ⟨_, rfl⟩
  have hit' : (s.heap.update it f1).IsValIter it d (i + 1) es.size ep := by
    rw [hf1]
    exact ⟨_, Heap.get?_update_self _ ho (Obj.isFreed_of_fields (Obj.data_mapFields hd _)), (Obj.cls_mapFields ..).trans hc, by rw [Obj.data_mapFields hd]; simp [rawInt]⟩
  have tI' : ({ s with heap := s.heap.update it f1 } : Shared).TypeIs (.ref it) "dict_valueiterator" := hit'.typeIs
  unfold pyNext
  refine wpAny_bind (wpAny_attempt (wpAny_callSpecial?_slot (name := Str.ofString "__next__") tI PySem.F.slot_dict_valueiterator_next (wpAny_call_entry PySem.F.slot_dict_valueiterator_next tI PySem.F.entry_dict_valueiterator_next ?_ (PySem.F.args_dict_valueiterator_next_1 _))))
  refine wpAny_bind (wpAny_pure (wpAny_bind (wpAny_bind ?_)))
  refine wpAny_bind (wpAny_typeNameOfWhole_valiter tI (wpAny_pure (wpAny_bind (wpAny_fieldsOf ho hd ?_))))
  simp only [ow, Bool.false_eq_true, if_false]
  show wpAny _ _ (if (Value.ref d == Value.none) = true then _ else _) _ _ _
  rw [if_neg (fun z => by cases z)]
  refine wpAny_bind (wpAny_pure (wpAny_bind (wpAny_dictEntries hod hdd ?_)))
  rw [if_neg (by simp)]
  refine wpAny_bind (wpAny_pure (wpAny_bind (wpAny_dictEpoch hod hdd ?_)))
  rw [if_neg (by simp)]
  refine wpAny_pure ?_
  simp only [show ¬ ((i : Int) < 0) by omega, if_false, Int.toNat_natCast, Array.getElem?_eq_getElem hi]
  refine wpAny_bind (wpAny_bind (wpAny_typeNameOfWhole_valiter tI (wpAny_pure (wpAny_bind (wpAny_isOneOf_valiter tI ?_)))))
  show wpAny _ _ (setField (.ref it) 1 (rawInt ((i : Int) + 1)) >>= _) _ _ _
  refine wpAny_bind (wpAny_setField ho hd (by simp) ?_)
  rw [← hf1]
  refine wpAny_bind (wpAny_holding (wpAny_bind (wpAny_isOneOf_valiter tI' (wpAny_bind (wpAny_isOneOf_valiter tI' ?_)))))
  show wpAny _ _ (pure es[i].val) _ _ _
  exact wpAny_pure (wpAny_pure ⟨_, rfl, wpAny_pure (hQ _ hit' (Heap.SameBut.update ..))⟩)
theorem next_end {Q : Option Value → Shared → Prop} (hh : A.handled = none) (hit : s.heap.IsValIter it d es.size es.size ep) (hod : s.heap.get? d = some od) (hdd : od.data = .dict es ep)
    (hQ : ∀ h', Heap.ExtBut it s.heap h' → Q none { s with heap := h' }) : wpAny (model prog w) A (pyNext (.ref it)) Q E s := by
  have tI := hit.typeIs
  obtain ⟨oi, ho, hc, hd⟩ := id hit
  have ow : Builtin.Dict_items.ownsTuple "dict_valueiterator" = false := rfl
  unfold pyNext
  refine wpAny_bind (wpAny_attempt (wpAny_callSpecial?_slot (name := Str.ofString "__next__") tI PySem.F.slot_dict_valueiterator_next (wpAny_call_entry PySem.F.slot_dict_valueiterator_next tI PySem.F.entry_dict_valueiterator_next ?_ (PySem.F.args_dict_valueiterator_next_1 _))))
  refine wpAny_bind (wpAny_pure (wpAny_bind (wpAny_bind ?_)))
  refine wpAny_bind (wpAny_typeNameOfWhole_valiter tI (wpAny_pure (wpAny_bind (wpAny_fieldsOf ho hd ?_))))
  simp only [ow, Bool.false_eq_true, if_false]
  show wpAny _ _ (if (Value.ref d == Value.none) = true then _ else _) _ _ _
  rw [if_neg (fun z => by cases z)]
  refine wpAny_bind (wpAny_pure (wpAny_bind (wpAny_dictEntries hod hdd ?_)))
  rw [if_neg (by simp)]
  refine wpAny_bind (wpAny_pure (wpAny_bind (wpAny_dictEpoch hod hdd ?_)))
  rw [if_neg (by simp)]
  refine wpAny_pure ?_
  simp only [show ¬ ((es.size : Int) < 0) by omega, if_false, Int.toNat_natCast, Array.getElem?_eq_none (Nat.le_refl es.size)]
  refine wpAny_bind (wpAny_bind (wpAny_typeNameOfWhole_valiter tI (wpAny_pure ?_)))
  show wpAny _ _ (setField (.ref it) 0 .none >>= _) _ _ _
  refine wpAny_bind (wpAny_setField ho hd (by simp) ?_)
  show wpAny _ _ (newExc (.type "StopIteration") [] >>= _) _ _ _
  refine wpAny_bind ?_
  simp only [newExc, newTuple]
  refine wpAny_bind (wpAny_newObj_type (wpAny_bind (m := firstArgMember _ _) (wpAny_of_eq (a := Value.none) (by first | rfl | (simp only [firstArgMember]; rfl)) (wpAny_newObj_type ?_ (by size_fits)))) (by size_fits))
  simp only [raiseNew]
  refine wpAny_bind (wpAny_handled ?_)
  rw [show A.in1.handled = none from hh]
  refine wpAny_bind (wpAny_pure (wpAny_throw ?_))
  refine wpAny_bind (wpAny_isInstance (T := "StopIteration") (b := true) ?_ isSubtype_stop ?_)
  · exact ⟨_, Heap.get?_push_size _ rfl, rfl⟩
  exact wpAny_pure (hQ _ (((Heap.SameBut.update ..).extBut.push _).push _))
theorem iter_vals {Q : Value → Shared → Prop} (hv : s.heap.IsValuesView v d) (hod : s.heap.get? d = some od) (hdd : od.data = .dict es ep)
    (hQ : Q (.ref s.heap.objs.size) { s with heap := s.heap.push { cls := .type "dict_valueiterator", data := .fields #[.ref d, .int 0 0, .int es.size 0, .int ep 0] } }) : wpAny (model prog w) A (pyIter (.ref v)) Q E s := by
  have tV := hv.typeIs
  obtain ⟨ov, hov, hcv, hdv⟩ := id hv
  have ow : Builtin.Dict_items.ownsTuple "dict_valueiterator" = false := rfl
  refine wpAny_pyIter_slot tV PySem.F.slot_dict_values_iter (wpAny_call_entry PySem.F.slot_dict_values_iter tV PySem.F.entry_dict_values_iter ?_ (PySem.F.args_dict_values_iter_1 _))
  unfold Builtin.«dict_values.__iter__»
  refine wpAny_bind (wpAny_pure (wpAny_bind ?_))
  unfold Builtin.Dict_items.dictOf
  refine wpAny_bind (wpAny_field hov hdv (x := .ref d) rfl (wpAny_pure (wpAny_bind ?_)))
  unfold Builtin.Dict_items.newIterator
  refine wpAny_bind (wpAny_dictEntries hod hdd (wpAny_bind (wpAny_dictEpoch hod hdd ?_)))
  simp only [ow, Bool.false_eq_true, if_false]
  refine wpAny_newObj_type (wpAny_pure ⟨_, rfl, "dict_valueiterator", _, ⟨_, Heap.get?_push_size _ rfl, rfl⟩, PySem.F.slot_dict_valueiterator_next.lookup, ?_⟩)
  simpa [rawInt] using hQ
end
/-- a dict's object -/
def DObj (h : Heap) (d : Addr) (es : Array DictEntry) (ep : Nat) : Prop := ∃ o, h.get? d = some o ∧ o.cls = .type "dict" ∧ o.data = .dict es ep
theorem walks_vals {prog : Program} {w : World} {A : Around} (hh : A.handled = none) (I d : Addr) (hne : d ≠ I) (es : Array DictEntry) (ep : Nat) :
    Walks prog w A I [I, d] [I] es.size (fun i v => ∃ e, es[i]? = some e ∧ v = e.val) (fun i h => h.IsValIter I d i es.size ep ∧ DObj h d es ep) where
  sub := fun b hb => by
    rw [List.mem_singleton.mp hb]
    exact List.mem_cons_self
  frame := fun i h h' st hk => by
    obtain ⟨⟨o, h1, h2⟩, o', h3, h4⟩ := st
    exact ⟨⟨o, hk I List.mem_cons_self o h1, h2⟩, o', hk d (List.mem_cons_of_mem _ List.mem_cons_self) o' h3, h4⟩
  item := fun i s Q E hi st hQ => by
    obtain ⟨hit, o', h3, h4, h5⟩ := st
    refine next_val hit h3 h5 hi fun h' hit' hs' => ?_
    exact hQ _ h' s.toks ⟨_, Array.getElem?_eq_getElem hi, rfl⟩ ⟨hit', o', hs'.extBut d o' hne h3, h4, h5⟩ fun b o hb e => hs'.extBut b o (fun z => hb (by rw [z]; exact List.mem_cons_self)) e
  done := fun s Q E st hQ => by
    obtain ⟨hit, o', h3, h4, h5⟩ := st
    exact next_end hh hit h3 h5 fun h' he' => hQ h' s.toks fun b o hb e => he' b o (fun z => hb (by rw [z]; exact List.mem_cons_self)) e
  self := fun i s Q E st hQ => wpAny_pyIter_valiter st.1 hQ
theorem src_vals {prog : Program} {w : World} {r d : Addr} {es : Array DictEntry} {ep : Nat} : PySem.W.KdlSrc prog w "dict_values" r d es.size (fun i v => ∃ e, es[i]? = some e ∧ v = e.val) (fun h => h.IsValuesView r d ∧ DObj h d es ep) where
  type := fun _ hm => hm.1.typeIs
  there := fun _ hm => by
    obtain ⟨⟨o, h1, _⟩, o', h2, _⟩ := hm
    exact ⟨Heap.lt_size h1, Heap.lt_size h2⟩
  keep := fun h h' hm hk => by
    obtain ⟨⟨o, h1, h1'⟩, o', h2, h2'⟩ := hm
    exact ⟨⟨o, hk r (.inl rfl) o h1, h1'⟩, o', hk d (.inr rfl) o' h2, h2'⟩
  notList := rfl
  notTuple := rfl
  hint := fun _ _ _ _ hm hq => PySem.W.kdl_hint_values hm.1.typeIs hq
  iter := fun A s hh hm => by
    obtain ⟨hv, o', h2, h3, h4⟩ := hm
    have hne : d ≠ s.heap.objs.size := Nat.ne_of_lt (Heap.lt_size h2)
    exact ⟨_, _, fun _ _ hq => iter_vals hv h2 h4 hq, walks_vals hh _ d hne es ep, ⟨_, Heap.get?_push_size _ rfl, rfl, rfl⟩, o', Heap.get?_push_of_some _ h2, h3, h4⟩
theorem meets_vals {prog : Program} {w : World} (d : Addr) (lo : (d == sysModules) = false) :
    MeetsIn prog w (Builtin.«dict.values» ⟨[.ref d], []⟩) (fun _ R s => s.TypeIs (.ref d) "dict" ∧ R (.ok (.ret (.ref s.heap.objs.size))) { s with heap := s.heap.push { cls := .type "dict_values", data := .fields #[.ref d] } }) :=
  .of_wp fun A R s ⟨tD, h⟩ => by
    refine wpAny_bind ?_
    unfold Builtin.Dict.noArgs
    refine wpAny_bind (wpAny_notOrdered_dict tD (show wpAny _ _ (pure d) _ _ s from wpAny_pure ?_))
    show wpAny _ _ (Builtin.Dict.showsAll d >>= _) _ _ s
    unfold Builtin.Dict.showsAll
    rw [if_neg (fun z => by rw [lo] at z; cases z)]
    exact wpAny_bind (wpAny_pure (wpAny_bind (wpAny_newObj_type (wpAny_pure ⟨_, rfl, h⟩))))
end L2
namespace L2
open PySem PySem.Spec PyProof.Rows
/-! ### such a dict in the layer: its values are objects -/
def bV (b : Bool) : V := .bl b
abbrev BEn := List Bool × Addr × Addr
def beV (x : BEn) : List Bool × Addr × Value := (x.1, x.2.1, .ref x.2.2)
def dB (P : Program) (w : World) (d : Addr) (xs : List BEn) : HO := .ext fun h => xs.length ≤ sizeLine ∧ (d == sysModules) = false ∧
  ∃ o es ep, h.get? d = some o ∧ o.ExactDict ∧ o.data = .dict es ep ∧ es.toList = (xs.map beV).map (entryOfKey (tupleKind (bKind P w)))
def vB (r d : Addr) : HO := .ext fun h => h.IsValuesView r d
section
variable {P : Program} {w : World} {H : Hp} {h : Heap} {a d : Addr} {xs : List BEn}
theorem dB_ok {o : Obj} {es : Array DictEntry} {ep : Nat} (h0 : xs.length ≤ sizeLine) (h1 : (d == sysModules) = false) (h2 : h.get? d = some o) (h3 : o.ExactDict) (h4 : o.data = .dict es ep) (h5 : es.toList = (xs.map beV).map (entryOfKey (tupleKind (bKind P w)))) :
    ObjOk P w H h d (dB P w d xs) :=
  ⟨⟨h0, h1, o, es, ep, h2, h3, h4, h5⟩, ⟨o, h2⟩, fun g1 g2 ⟨q0, q1, o, es, ep, q2, q3⟩ k => ⟨q0, q1, o, es, ep, k o q2, q3⟩⟩
theorem dB_of (ok : HOk P w H h) (e : H d = some (dB P w d xs)) : xs.length ≤ sizeLine ∧ (d == sysModules) = false ∧
    ∃ o es ep, h.get? d = some o ∧ o.ExactDict ∧ o.data = .dict es ep ∧ es.toList = (xs.map beV).map (entryOfKey (tupleKind (bKind P w))) := (ok d _ e).1
theorem items_bool : ∀ {bs : List Bool} {us : List Value}, Vals (bs.map bV) us → ItemsAre (bKind P w) bs us
  | [], _, r => by rw [List.map_nil] at r; cases r; exact .nil
  | b :: bs, _, r => by
    rw [List.map_cons] at r
    cases r with
    | @cons _ u _ _ h t =>
      have e : u = Value.bool b := h
      exact .cons (by rw [e]; exact (beq_self_eq_true b)) (items_bool t)
theorem keyB {bs : List Bool} (ok : HOk P w H h) (e : H a = some (.tup (bs.map bV))) : (tupleKind (bKind P w)).is h bs a := by
  obtain ⟨_, its, r, o, h1, h2, n, h3⟩ := (show ObjOk P w H h a (.tup (bs.map bV)) from ok a _ e)
  exact ⟨o, its.toArray, n, h1, h2, h3, by simpa using items_bool r⟩
theorem atKey_map (bs : List Bool) : ∀ (xs : List BEn), atKey (xs.map beV) bs = (xs.find? fun x => decide (x.1 = bs)).map fun x => (x.2.1, Value.ref x.2.2)
  | [] => rfl
  | x :: xs => by
    have ih := atKey_map bs xs
    unfold atKey at ih ⊢
    rw [List.map_cons, List.find?_cons, List.find?_cons]
    by_cases e : x.1 = bs
    · simp [beV, e]
    · simp only [beV, e, decide_false]
      exact ih
end
/-- {} -/
def tDNewB (P : Program) (w : World) : TE := fun _ H Q => ∀ p, H p = none → Q (.ref p) (upd H p (dB P w p []))
theorem pe_dnewB {X : Cx} {pos : Pos} : PE X (.Dict [] [] pos) (tDNewB X.prog X.w) := fun pins s σ H Q I h =>
  wpAny_Dict_empty ⟨.ref s.heap.objs.size, _, I.laid (a := s.heap.objs.size) (o := dB X.prog X.w s.heap.objs.size []) (t' := s.toks) (fun _ _ q => Heap.get?_push_of_some _ q) (Nat.le_refl _)
    (dB_ok (Nat.zero_le _) (beq_eq_false_iff_ne.mpr (Ne.symm (Nat.ne_of_lt I.big))) (Heap.get?_push_size _ rfl) ⟨rfl, rfl, rfl⟩ rfl rfl), rfl, h _ (I.hok.fresh (Nat.le_refl _))⟩
/-- d.setdefault(t, l) -/
def tDSetB (P : Program) (w : World) (td ty tx : TE) : TE := fun σ H Q => td σ H fun x H1 => ∃ d, x = .ref d ∧ (∃ xs, H1 d = some (dB P w d xs)) ∧ ty σ H1 fun y H2 => tx σ H2 fun z H3 =>
  ∃ xs t bs c, y = .ref t ∧ H3 t = some (.tup (List.map bV bs)) ∧ z = .ref c ∧ H3 d = some (dB P w d xs) ∧ (∀ x ∈ xs, H3 x.2.1 = some (.tup (x.1.map bV))) ∧ (xs.map (·.1)).Nodup ∧ xs.length < sizeLine ∧
    (∀ p, (xs.find? fun x => decide (x.1 = bs)) = some p → Q (.ref p.2.2) H3) ∧ ((xs.find? fun x => decide (x.1 = bs)) = none → Q (.ref c) (upd H3 d (dB P w d (xs ++ [(bs, t, c)]))))
section
variable {X : Cx} {o e f : Expr} {apos cpos : Pos} {td ty tx : TE}
theorem pe_dsetB (hu : X.A.units + 1 < cLine) (ho : PE X o td) (he : PE X e ty) (hf : PE X f tx) (m : M2 X o "setdefault" apos e f cpos) : PE X (.Call (.Attribute o "setdefault" apos) [e, f] [] cpos) (tDSetB X.prog X.w td ty tx) := by
  intro pins s σ H Q I h
  refine wpAny_Call_method m.base m.few m.line PySem.F.plainAttrs_dict PySem.F.slot_dict_setdefault PySem.F.type_dict_setdefault (thn (ho pins s σ H _ I h) fun u s1 ⟨x, H1, I1, rx, d, ex, ⟨zs, d0⟩, q1⟩ => ?_)
  subst ex
  obtain rfl : u = Value.ref d := rx
  obtain ⟨_, _, o0, es0, ep0, g1, g2, _⟩ := dB_of I1.hok d0
  refine ⟨⟨o0, g1, g2.1⟩, fun b q => by cases q; exact ⟨o0, g1, g2.2.1⟩, ?_⟩
  rw [m.trees]
  refine Calls.callWith_builtin rfl (Calls.evalArgs_plain (Calls.spliced_cons (thn (he pins s1 σ H1 _ I1 q1) fun iv s2 ⟨y, H2, I2, ry, q2⟩ =>
    Calls.spliced_cons (thn (hf pins s2 σ H2 _ I2 q2) fun fv s3 ⟨z, H3, I3, rz, xs, t, bs, c, ey, et, ez, ed, hk, hnd, hlt, qo, qn⟩ => Calls.spliced_nil ?_))))
  subst ey ez
  cases (show iv = Value.ref t from ry)
  cases (show fv = Value.ref c from rz)
  obtain ⟨z1, z2, o3, es3, ep3, k1, k2, k3, k4⟩ := dB_of I3.hok ed
  have dd : s3.heap.DictOfH (tupleKind (bKind X.prog X.w)) d (xs.map beV) := by
    refine ⟨o3, es3, ep3, k1, k2, k3, k4, fun x hx => ?_, ?_⟩
    · obtain ⟨y, hy, rfl⟩ := List.mem_map.mp hx
      exact keyB I3.hok (hk y hy)
    · rw [List.map_map]
      exact hnd
  refine call_meetsIn PySem.F.slot_dict_setdefault dd.typeIs PySem.F.entry_dict_setdefault (PySem.F.args_dict_setdefault_3 _ _ _) (meets_setdefH (knd := tupleKind (bKind X.prog X.w)) z2 (.ref c)) ⟨tupleKind_room_in1 hu, bs, xs.map beV, keyB I3.hok et, dd, by rw [List.length_map]; exact z1, fun p hp => ?_, fun hn h' dd' hs' => ?_⟩
  · rw [atKey_map] at hp
    obtain ⟨p', hp', rfl⟩ := Option.map_eq_some_iff.mp hp
    exact ⟨.ref p'.2.2, H3, I3.tok _, rfl, qo p' hp'⟩
  · rw [atKey_map] at hn
    obtain ⟨o4, es4, ep4, j1, j2, j3, j4, _, _⟩ := dd'
    refine ⟨.ref c, _, d_write I3 (by rw [ed]; exact True.intro) hs' ⟨o4, j1⟩ (dB_ok (by rw [List.length_append]; exact hlt) z2 j1 j2 j3 (j4.trans ?_)), rfl, qn (Option.map_eq_none_iff.mp hn)⟩
    rw [List.map_append, List.map_append, List.map_append]
    rfl
/-- what must be seen of the text of o.m() -/
structure M0 (X : Cx) (o : Expr) (m : Str) (apos cpos : Pos) : Prop where
  base : attributeBase o m X.env (eval o X.env) = eval o X.env
  few : ((backTo cpos (starEach [] X.env)).all (fun x => !x.1) && (backToKw cpos (keywordEach [] X.env)).all (fun x => x.1.isSome)
    && decide (([] : List Expr).length + ([] : List Keyword).length + (if ([] : List Keyword).isEmpty then 0 else 1) < 30)) = true
  line : (apos.endLine == cpos.line) = true
  trees : backTo cpos (starEach [] X.env) = []
/-- d.values() -/
def tValsB (P : Program) (w : World) (td : TE) : TE := fun σ H Q => td σ H fun x H1 => ∃ d xs, x = .ref d ∧ H1 d = some (dB P w d xs) ∧ ∀ p, H1 p = none → Q (.ref p) (upd H1 p (vB p d))
theorem pe_valsB (ho : PE X o td) (m : M0 X o "values" apos cpos) : PE X (.Call (.Attribute o "values" apos) [] [] cpos) (tValsB X.prog X.w td) := by
  intro pins s σ H Q I h
  refine wpAny_Call_method m.base m.few m.line PySem.F.plainAttrs_dict PySem.F.slot_dict_values PySem.F.type_dict_values (thn (ho pins s σ H _ I h) fun u s1 ⟨x, H1, I1, rx, d, xs, ex, d0, q1⟩ => ?_)
  subst ex
  obtain rfl : u = Value.ref d := rx
  obtain ⟨_, z2, o0, es0, ep0, g1, g2, _⟩ := dB_of I1.hok d0
  refine ⟨⟨o0, g1, g2.1⟩, fun b q => by cases q; exact ⟨o0, g1, g2.2.1⟩, ?_⟩
  rw [m.trees]
  refine Calls.callWith_builtin rfl (evalArgs_nil3 ?_)
  have tD : s1.TypeIs (.ref d) "dict" := ⟨o0, g1, g2.1⟩
  refine call_meetsIn PySem.F.slot_dict_values tD PySem.F.entry_dict_values (PySem.F.args_dict_values_1 _) (meets_vals d z2) ⟨tD, ?_⟩
  have hv : (s1.heap.push { cls := .type "dict_values", data := .fields #[.ref d] }).get? s1.heap.objs.size = some { cls := .type "dict_values", data := .fields #[.ref d] } := Heap.get?_push_size _ rfl
  exact ⟨.ref s1.heap.objs.size, _, I1.laid (a := s1.heap.objs.size) (o := vB s1.heap.objs.size d) (t' := s1.toks) (fun _ _ q => Heap.get?_push_of_some _ q) (Nat.le_refl _)
    ⟨⟨_, hv, rfl, rfl⟩, ⟨_, hv⟩, fun h1 h2 ⟨o, e1, e2⟩ k => ⟨o, k o e1, e2⟩⟩, rfl, q1 _ (I1.hok.fresh (Nat.le_refl _))⟩
/-- list of such values -/
theorem call_listV (hc : X.calm = true) : CallR X (.type "list") (fun xs H Q => ∃ r d zs, xs = [.ref r] ∧ H r = some (vB r d) ∧ H d = some (dB X.prog X.w d zs) ∧ ∀ p, H p = none → Q (.ref p) (upd H p (.lst (zs.map fun x => V.ref x.2.2)))) := by
  intro pins s σ H xs us Q I rv h
  obtain ⟨r, d, zs, rfl, hr, hd, q⟩ := h
  obtain ⟨u, rfl, ru⟩ := vals1 rv
  cases ru
  obtain ⟨z1, z2, o, es, ep, k1, k2, k3, k4⟩ := dB_of I.hok hd
  have hn : es.size = zs.length := by rw [← Array.length_toList, k4, List.length_map, List.length_map]
  refine PySem.W.kdl_call (src_vals (r := r) (d := d) (es := es) (ep := ep)) (I.ok.hd hc) ⟨(I.hok r _ hr).1, o, k1, k2.1, k3⟩ (by rw [hn]; exact z1) fun h' tk acc' c' hk hD hacc => ?_
  have hl : acc'.toList = zs.map fun x => Value.ref x.2.2 := by
    refine List.ext_getElem? fun j => ?_
    rw [Array.getElem?_toList, List.getElem?_map]
    by_cases hj : j < acc'.size
    · rw [Array.getElem?_eq_getElem hj]
      obtain ⟨en, e1, e2⟩ := hacc.2 j _ (Array.getElem?_eq_getElem hj)
      rw [← Array.getElem?_toList, k4, List.getElem?_map, List.getElem?_map] at e1
      cases e3 : zs[j]? with
      | none =>
        rw [e3] at e1
        cases e1
      | some z =>
        rw [e3] at e1
        cases e1
        rw [e2]
        rfl
    · have hs : acc'.size = zs.length := hacc.1.trans hn
      rw [Array.getElem?_eq_none (by omega), List.getElem?_eq_none (by omega)]
      rfl
  have hv : Vals (zs.map fun x => V.ref x.2.2) (zs.map fun x => Value.ref x.2.2) := by
    clear hl k4 hn hd q z1
    induction zs with
    | nil => exact .nil
    | cons z zs ih => exact .cons rfl ih
  exact ⟨.ref s.heap.objs.size, _, I.laid (a := s.heap.objs.size) (o := .lst (zs.map fun x => V.ref x.2.2)) (t' := tk) hk (Nat.le_refl _) ⟨by rw [List.length_map]; exact z1, acc'.toList, c', by rw [hl]; exact hv, by rw [Array.toArray_toList]; exact hD⟩, rfl, q _ (I.hok.fresh (Nat.le_refl _))⟩
end
section
variable {X : Cx} {P : Program} {w : World} {o e f : Expr} {pos apos cpos : Pos} {td ty tx : TE}
theorem pe_dnewBK (hP : X.prog = P := by rfl) (hw : X.w = w := by rfl) : PE X (.Dict [] [] pos) (tDNewB P w) := hP ▸ hw ▸ pe_dnewB
theorem pe_dsetBK (hu : X.A.units + 1 < cLine) (ho : PE X o td) (he : PE X e ty) (hf : PE X f tx) (hP : X.prog = P := by rfl) (hw : X.w = w := by rfl)
    (h1 : attributeBase o "setdefault" X.env (eval o X.env) = eval o X.env := by rfl)
    (h2 : ((backTo cpos (starEach [e, f] X.env)).all (fun x => !x.1) && (backToKw cpos (keywordEach [] X.env)).all (fun x => x.1.isSome) && decide (([e, f] : List Expr).length + ([] : List Keyword).length + (if ([] : List Keyword).isEmpty then 0 else 1) < 30)) = true := by rfl)
    (h3 : (apos.endLine == cpos.line) = true := by rfl) (h4 : backTo cpos (starEach [e, f] X.env) = [(false, eval e X.env), (false, eval f X.env)] := by rfl) :
    PE X (.Call (.Attribute o "setdefault" apos) [e, f] [] cpos) (tDSetB P w td ty tx) := hP ▸ hw ▸ pe_dsetB hu ho he hf ⟨h1, h2, h3, h4⟩
theorem pe_valsBK (ho : PE X o td) (hP : X.prog = P := by rfl) (hw : X.w = w := by rfl) (h1 : attributeBase o "values" X.env (eval o X.env) = eval o X.env := by rfl)
    (h2 : ((backTo cpos (starEach [] X.env)).all (fun x => !x.1) && (backToKw cpos (keywordEach [] X.env)).all (fun x => x.1.isSome) && decide (([] : List Expr).length + ([] : List Keyword).length + (if ([] : List Keyword).isEmpty then 0 else 1) < 30)) = true := by rfl)
    (h3 : (apos.endLine == cpos.line) = true := by rfl) (h4 : backTo cpos (starEach [] X.env) = [] := by rfl) :
    PE X (.Call (.Attribute o "values" apos) [] [] cpos) (tValsB P w td) := hP ▸ hw ▸ pe_valsB ho ⟨h1, h2, h3, h4⟩
theorem call_listVK (hc : X.calm = true) (hP : X.prog = P := by rfl) (hw : X.w = w := by rfl) : CallR X (.type "list") (fun xs H Q => ∃ r d zs, xs = [.ref r] ∧ H r = some (vB r d) ∧ H d = some (dB P w d zs) ∧ ∀ p, H p = none → Q (.ref p) (upd H p (.lst (zs.map fun x => V.ref x.2.2)))) := hP ▸ hw ▸ call_listV hc
end
end L2

set_option maxRecDepth 100000
set_option maxHeartbeats 4000000
namespace L2
open PySem PySem.Spec PyProof.Rows
/-! ### own exceptions: their classes -/
/-! ### what stays when an exception passes: all but the frames that run -/
section
variable {X : Cx} {pins : List (Addr × Obj)} {σ : St} {H H' : Hp} {s s' : Shared} {h2 : Heap}
end
/-! ### how an exception lies behind a call -/
/-! ### try .. except C as n -/
section
variable {X : Cx} {pins : List (Addr × Obj)} {σ : St} {H H' : Hp} {s s' : Shared} {h2 : Heap}
end
end L2

set_option maxRecDepth 100000
set_option maxHeartbeats 4000000
namespace L2
open PySem PySem.Spec PyProof.Rows
/-! ### isinstance of an own exception -/
section
variable {prog : Program} {w : World} {A : Around} {E : Value → Shared → Prop} {h : Heap} {g : Array GenState} {d : Drawn} {t : Nat} {os : OsState} {a D : Addr} {o : Obj} {K : PySem.W.Frag} {bD : List Value}
end
end L2
namespace Wd
open PySem L2 Ow
end Wd

set_option maxRecDepth 100000
set_option maxHeartbeats 4000000
namespace Wd
open PySem L2 Ow
/-! ### what lies beneath an option -/
/-! ### how it is found: turn by turn -/
end Wd

set_option maxRecDepth 100000
set_option maxHeartbeats 4000000
namespace L2
open PySem PySem.Spec PyProof.Rows
end L2

set_option maxRecDepth 100000
set_option maxHeartbeats 4000000
namespace L2
open PySem PySem.Spec PyProof.Rows
/-! ### lambdas that an exception may leave -/
section
variable {X : Cx} {k : Nat} {f : Addr} {fd : FuncData} {ps : List Str} {x : Str} {p pos : Pos} {e : Expr} {es : List Expr} {t : TA}
end
end L2

set_option maxRecDepth 100000
set_option maxHeartbeats 4000000
namespace Wd
open PySem L2 Ow
/-! ### asked, and what is heard -/
end Wd

set_option maxRecDepth 100000
set_option maxHeartbeats 4000000
namespace Ow
open PySem
end Ow
namespace Wd
open PySem L2 Ow
/-! ### picks, and the stand that they tell -/
/-! ### a ware chosen option by option -/
/-! ### one wood within another, by their wares -/
end Wd

set_option maxRecDepth 100000
set_option maxHeartbeats 4000000
namespace L2
open PySem PySem.Spec PyProof.Rows
end L2
namespace Wd
open PySem L2 Ow
end Wd

set_option maxRecDepth 100000
set_option maxHeartbeats 4000000
namespace Wd
open PySem L2 Ow
/-! ### picks taken back -/
end Wd

set_option maxRecDepth 100000
set_option maxHeartbeats 4000000
namespace L2
open PySem PySem.Spec PyProof.Rows
/-! ### in, of a list of data -/
end L2
namespace Wd
open PySem L2 Ow
/-! ### the sets that a stand and ties let in -/
/-! ### picks of a ware, in any order -/
/-! ### orders of options -/
/-! ### boughs alone always have a ware -/
/-! ### picks taken back one by one -/
end Wd

set_option maxRecDepth 100000
set_option maxHeartbeats 4000000
namespace Wd
open PySem L2 Ow
/-! ### picks that a choice may hold -/
/-! ### what is offered, told option by option -/
/-! ### what a lambda closes over -/
/-! ### deeds that are refused -/
/-! ### picks, where only a pen or a choice is written -/
end Wd

set_option maxRecDepth 100000
set_option maxHeartbeats 4000000
namespace Kst
open PySem PySem.W PyProof.Rows
/-! ### the sort of fewer than 64 items, asked by a comparison that answers by a key -/
variable {key : Nat → Int}
end Kst

set_option maxRecDepth 100000
set_option maxHeartbeats 4000000
namespace Kst
open PySem PySem.W PyProof PyProof.Rows
section
variable {prog : Program} {w : World} {A : Around} {E : Value → Shared → Prop} {s : Shared}
end
end Kst
namespace L2
open PySem PySem.Spec PyProof.Rows
variable {X : Cx}
end L2

set_option maxRecDepth 100000
set_option maxHeartbeats 4000000
namespace Wd
open PySem L2 Ow
/-! ### why: the picks that are needed -/
/-! ### a choice that is played -/
/-! ### a tree with no ware -/
/-! ### what why tells, held against its law -/
end Wd

set_option maxRecDepth 100000
set_option maxHeartbeats 4000000
namespace L2
open PySem PySem.Spec PyProof.Rows
/-! ### a list turned round -/
section
variable {X : Cx} {e st : Expr} {te tst : TE} {pos p2 : Pos}
end
end L2
namespace Wd
open PySem L2 Ow
/-! ### why, held elsewhere -/
/-! ### data that lies in a heap, of any kind but dicts -/
def layD : Nat → PyData → Bool
  | _, .int _ => true
  | _, .bool _ => true
  | _, .none => true
  | _, .str s => PyData.strOk s
  | n + 1, .tuple ds => ds.all (layD n)
  | n + 1, .list ds => ds.all (layD n)
  | _, _ => false
mutual
theorem lay_ok : ∀ (n : Nat) (d : PyData), layD n d = true → PyData.canLay0 d = true ∧ PyData.depth d ≤ n + 1
  | _, .int i, _ => ⟨by simp [PyData.canLay0], by simp only [PyData.depth]; omega⟩
  | _, .bool i, _ => ⟨by simp [PyData.canLay0], by simp only [PyData.depth]; omega⟩
  | _, .none, _ => ⟨by simp [PyData.canLay0], by simp only [PyData.depth]; omega⟩
  | n, .str s, h => ⟨by cases n <;> simpa [PyData.canLay0] using (show PyData.strOk s = true from h), by simp only [PyData.depth]; omega⟩
  | n + 1, .tuple ds, h => by
    obtain ⟨a, b⟩ := lay_all n ds h
    exact ⟨by simpa [PyData.canLay0] using a, by simp only [PyData.depth]; omega⟩
  | n + 1, .list ds, h => by
    obtain ⟨a, b⟩ := lay_all n ds h
    exact ⟨by simpa [PyData.canLay0] using a, by simp only [PyData.depth]; omega⟩
  | 0, .tuple _, h => by cases h
  | 0, .list _, h => by cases h
  | 0, .dict _, h => by cases h
  | n + 1, .dict _, h => by cases h
theorem lay_all : ∀ (n : Nat) (ds : List PyData), ds.all (layD n) = true → PyData.canLayAll0 ds = true ∧ PyData.depthAll ds ≤ n + 1
  | _, [], _ => ⟨by simp [PyData.canLayAll0], by simp only [PyData.depthAll]; omega⟩
  | n, d :: ds, h => by
    rw [List.all_cons, Bool.and_eq_true] at h
    obtain ⟨a1, b1⟩ := lay_ok n d h.1
    obtain ⟨a2, b2⟩ := lay_all n ds h.2
    exact ⟨by simp [PyData.canLayAll0, a1, a2], by simp only [PyData.depthAll]; omega⟩
end
theorem shaped_lay {n : Nat} {d : PyData} (h : layD n d = true) (hn : n ≤ 62) : SeqAt.shaped d = true := by
  obtain ⟨a, b⟩ := lay_ok n d h
  unfold SeqAt.shaped
  rw [Bool.and_eq_true]
  exact ⟨a, decide_eq_true (by omega)⟩
theorem lay_self {n : Nat} {d : PyData} (h : layD n d = true) : PyData.eqv d d = true := eqv_refl d (lay_ok n d h).1
def natD (k : Nat) : PyData := .int (k : Int)
theorem nats_dnl {H : Hp} : ∀ l : List Nat, DnL H (l.map natD) (natsL l)
  | [] => rfl
  | k :: l => ⟨_, _, rfl, rfl, nats_dnl l⟩
/-! ### what others a why tells -/
/-! ### picks sorted -/
/-! ### a wood of some of its cross ties -/
end Wd

set_option maxRecDepth 100000
set_option maxHeartbeats 4000000
namespace L2
open PySem
end L2
namespace Ow
open PySem L2 Wd
/-! ### flocks -/
/-- which sets of the list have option k -/
def mkB (L : List Nat) (k : Nat) : List Bool := L.map fun s => s.testBit k
def anyB (L : List Nat) (n k : Nat) : Bool := (List.range n).any fun j => decide (mkB L j = mkB L k)
/-- below n, those that have no earlier one alike -/
def frs (L : List Nat) (n : Nat) : List Nat := (List.range n).filter fun k => !anyB L k k
def rowK (L : List Nat) (n : Nat) (bs : List Bool) : List Nat := (List.range n).filter fun k => decide (mkB L k = bs)
def rowF (L : List Nat) (n f : Nat) : List Nat := rowK L n (mkB L f)
def partW (L : List Nat) (a b : Nat) : Nat := ((L.filter fun s => s.testBit a != s.testBit b).head?).getD 0
def partsF (L : List Nat) : List Nat → List (Nat × Nat × Nat)
  | [] => []
  | a :: r => (r.map fun b => (a, b, partW L a b)) ++ partsF L r
def partD (x : Nat × Nat × Nat) : PyData := .tuple [natD x.1, natD x.2.1, natD x.2.2]
def rowsD (L : List Nat) (m : Nat) : List PyData := (frs L m).map fun f => .list ((rowF L m f).map natD)
theorem nodup_at {α : Type} {N : List α} (hN : N.Nodup) {i j : Nat} {x : α} (a : N[i]? = some x) (b : N[j]? = some x) : i = j := by
  obtain ⟨h1, e1⟩ := List.getElem?_eq_some_iff.mp a
  obtain ⟨h2, e2⟩ := List.getElem?_eq_some_iff.mp b
  exact (List.getElem_inj hN).mp (e1.trans e2.symm)
theorem anyB_iff {L : List Nat} {n k : Nat} : anyB L n k = true ↔ ∃ j, j < n ∧ mkB L j = mkB L k := by
  unfold anyB
  rw [List.any_eq_true]
  constructor
  · rintro ⟨j, h1, h2⟩
    exact ⟨j, List.mem_range.mp h1, of_decide_eq_true h2⟩
  · rintro ⟨j, h1, h2⟩
    exact ⟨j, List.mem_range.mpr h1, decide_eq_true h2⟩
theorem frs_succ (L : List Nat) (n : Nat) : frs L (n + 1) = if anyB L n n = true then frs L n else frs L n ++ [n] := by
  unfold frs
  rw [List.range_succ, List.filter_append, List.filter_cons, List.filter_nil]
  cases anyB L n n <;> simp
theorem rowK_succ (L : List Nat) (n : Nat) (bs : List Bool) : rowK L (n + 1) bs = rowK L n bs ++ if mkB L n = bs then [n] else [] := by
  unfold rowK
  rw [List.range_succ, List.filter_append, List.filter_cons, List.filter_nil]
  by_cases e : mkB L n = bs <;> simp [e]
theorem frs_mem {L : List Nat} {n f : Nat} (h : f ∈ frs L n) : f < n ∧ anyB L f f = false := by
  obtain ⟨h1, h2⟩ := List.mem_filter.mp h
  exact ⟨List.mem_range.mp h1, by simpa using h2⟩
theorem frs_any {L : List Nat} : ∀ {n : Nat} {bs : List Bool}, (∃ j, j < n ∧ mkB L j = bs) → bs ∈ (frs L n).map (mkB L)
  | 0, bs, ⟨j, h, _⟩ => absurd h (Nat.not_lt_zero j)
  | n + 1, bs, ⟨j, h, e⟩ => by
    rw [frs_succ]
    by_cases c : anyB L n n = true
    · rw [if_pos c]
      by_cases hj : j = n
      · obtain ⟨i, h1, h2⟩ := anyB_iff.mp c
        exact frs_any ⟨i, h1, by rw [h2, ← hj, e]⟩
      · exact frs_any ⟨j, by omega, e⟩
    · rw [if_neg c, List.map_append]
      by_cases hj : j = n
      · exact List.mem_append_right _ (by rw [← e, hj]; exact List.mem_singleton.mpr rfl)
      · exact List.mem_append_left _ (frs_any ⟨j, by omega, e⟩)
theorem frs_nodup (L : List Nat) : ∀ n : Nat, ((frs L n).map (mkB L)).Nodup
  | 0 => List.nodup_nil
  | n + 1 => by
    rw [frs_succ]
    by_cases c : anyB L n n = true
    · rw [if_pos c]
      exact frs_nodup L n
    · rw [if_neg c, List.map_append]
      refine nd_snoc (frs_nodup L n) fun z => c ?_
      obtain ⟨f, h1, h2⟩ := List.mem_map.mp z
      exact anyB_iff.mpr ⟨f, (frs_mem h1).1, h2⟩
theorem frs_len (L : List Nat) (n : Nat) : (frs L n).length ≤ n := by
  have := List.length_filter_le (fun k => !anyB L k k) (List.range n)
  rwa [List.length_range] at this
theorem rowK_len (L : List Nat) (n : Nat) (bs : List Bool) : (rowK L n bs).length ≤ n := by
  have := List.length_filter_le (fun k => decide (mkB L k = bs)) (List.range n)
  rwa [List.length_range] at this
theorem row_head {L : List Nat} {n f : Nat} (h : f ∈ frs L n) : ∃ r, rowF L n f = f :: r := by
  obtain ⟨h1, h2⟩ := frs_mem h
  have e : (rowF L n f).head? = some f := by
    unfold rowF rowK
    rw [List.head?_filter, List.find?_range_eq_some]
    refine ⟨decide_eq_true rfl, List.mem_range.mpr h1, fun j hj => ?_⟩
    rw [Bool.not_eq_true', decide_eq_false_iff_not]
    intro z
    rw [anyB_iff.mpr ⟨j, hj, z⟩] at h2
    cases h2
  cases q : rowF L n f with
  | nil => rw [q] at e; cases e
  | cons x r =>
    rw [q] at e
    cases e
    exact ⟨r, rfl⟩
/-- two that are not alike are parted -/
theorem parted {L : List Nat} {a b : Nat} (h : mkB L a ≠ mkB L b) : ∃ s r, (L.filter fun s => s.testBit a != s.testBit b) = s :: r ∧ partW L a b = s := by
  unfold partW
  cases q : L.filter fun s => s.testBit a != s.testBit b with
  | nil =>
    refine absurd ?_ h
    refine List.map_congr_left fun s hs => ?_
    have := List.filter_eq_nil_iff.mp q s hs
    cases ha : s.testBit a <;> cases hb : s.testBit b <;> simp [ha, hb] at this <;> rfl
  | cons s r => exact ⟨s, r, rfl, rfl⟩
theorem frs_apart {L : List Nat} {n i j : Nat} {a b : Nat} (hij : i < j) (ha : (frs L n)[i]? = some a) (hb : (frs L n)[j]? = some b) : mkB L a ≠ mkB L b := by
  intro e
  have nd := frs_nodup L n
  have h1 : ((frs L n).map (mkB L))[i]? = some (mkB L a) := by rw [List.getElem?_map, ha]; rfl
  have h2 : ((frs L n).map (mkB L))[j]? = some (mkB L a) := by rw [List.getElem?_map, hb, e]; rfl
  have := nodup_at nd h1 h2
  omega
theorem parts_len (L : List Nat) : ∀ F : List Nat, (partsF L F).length ≤ F.length * F.length
  | [] => Nat.le_refl 0
  | a :: r => by
    have := parts_len L r
    show ((r.map _) ++ partsF L r).length ≤ (r.length + 1) * (r.length + 1)
    rw [List.length_append, List.length_map, Nat.add_mul, Nat.mul_add]
    omega
theorem parts_drop {L F : List Nat} {i x : Nat} (h : F[i]? = some x) : partsF L (F.drop i) = ((F.drop (i + 1)).map fun b => (x, b, partW L x b)) ++ partsF L (F.drop (i + 1)) := by
  obtain ⟨hi, e⟩ := List.getElem?_eq_some_iff.mp h
  rw [List.drop_eq_getElem_cons hi, e]
  rfl
theorem map_drop {F : List Nat} {f : Nat → Nat × Nat × Nat} {j b : Nat} (h : F[j]? = some b) : (F.drop j).map f = f b :: (F.drop (j + 1)).map f := by
  obtain ⟨hi, e⟩ := List.getElem?_eq_some_iff.mp h
  rw [List.drop_eq_getElem_cons hi, e]
  rfl
theorem parts_tup {H H' : Hp} (h : TupS H H') : ∀ (D : List (Nat × Nat × Nat)) (ps : List V), DnL H (D.map partD) ps → DnL H' (D.map partD) ps
  | [], _, q => q
  | x :: D, _, ⟨v, r, e, ⟨a, xs, e2, q, z⟩, zz⟩ => by
    refine ⟨v, r, e, ⟨a, xs, e2, h _ _ q, ?_⟩, parts_tup h D r zz⟩
    obtain ⟨y1, r1, e1, z1, y2, r2, e2, z2, y3, r3, e3, z3, z4⟩ := z
    exact ⟨y1, r1, e1, z1, y2, r2, e2, z2, y3, r3, e3, z3, z4⟩
/-! ### promises -/
structure FlocksAt (H : Hp) (L : List Nat) (m : Nat) (t lf lp : Addr) (rs : List Addr) (ps : List V) : Prop where
  tup : H t = some (.tup [.ref lf, .ref lp])
  rows : H lf = some (.lst (rs.map V.ref))
  rowd : DnL H (rowsD L m) (rs.map V.ref)
  parts : H lp = some (.lst ps)
  partd : DnL H ((partsF L (frs L m)).map partD) ps
  nfp : lf ≠ lp
  nrf : ∀ r ∈ rs, r ≠ lf ∧ r ≠ lp
def spFlocks : Sp := fun vs H Q _ => ∃ (wd : Addr) (m : Nat) (ts : List Tie), vs = [.ref wd] ∧ WoodT H wd m ts ∧ 1 ≤ m ∧ m ≤ 9 ∧ ∀ (t lf lp : Addr) (rs : List Addr) (ps : List V) (H' : Hp), Same H H' → H t = none → H lf = none → H lp = none → (∀ r ∈ rs, H r = none) →
  FlocksAt H' (wareL m ts) m t lf lp rs ps → Q (.ref t) H'
def spFirstP : Sp := fun vs H Q _ => ∃ (l : Addr) (L : List Nat) (a b : Nat), vs = [.ref l, .int (a : Int), .int (b : Int)] ∧ H l = some (.lst (natsL L)) ∧ L.length ≤ 1000 ∧ mkB L a ≠ mkB L b ∧ ∀ H', Same H H' → Q (.int (partW L a b : Int)) H'
def spPartsOf : Sp := fun vs H Q _ => ∃ (l lf : Addr) (L F : List Nat), vs = [.ref l, .ref lf] ∧ H l = some (.lst (natsL L)) ∧ H lf = some (.lst (natsL F)) ∧ L.length ≤ 1000 ∧ F.length ≤ 9 ∧ (∀ i j a b : Nat, i < j → F[i]? = some a → F[j]? = some b → mkB L a ≠ mkB L b) ∧
  ∀ (lp : Addr) (ps : List V) (H' : Hp), Same H H' → H lp = none → H' lp = some (.lst ps) → DnL H' ((partsF L F).map partD) ps → Q (.ref lp) H'
/-! ### the dict of flocks while it grows -/
structure FlI (P : Program) (w : World) (H0 H : Hp) (d : Addr) (L : List Nat) (k : Nat) (xs : List BEn) : Prop where
  same : Same H0 H
  dct : H d = some (dB P w d xs)
  keys : xs.map (·.1) = (frs L k).map (mkB L)
  tup : ∀ x ∈ xs, H x.2.1 = some (.tup (x.1.map bV))
  row : ∀ x ∈ xs, H x.2.2 = some (.lst (natsL (rowK L k x.1)))
  new : ∀ x ∈ xs, H0 x.2.2 = none
  one : ∀ x ∈ xs, ∀ y ∈ xs, x.2.2 = y.2.2 → x = y
  nd : H0 d = none
theorem FlI.kept {P : Program} {w : World} {H0 H H' : Hp} {d : Addr} {L : List Nat} {k : Nat} {xs : List BEn} (F : FlI P w H0 H d L k xs) (s : Same H H') : FlI P w H0 H' d L k xs :=
  ⟨F.same.trans s, s _ _ F.dct, F.keys, fun x hx => s _ _ (F.tup x hx), fun x hx => s _ _ (F.row x hx), F.new, F.one, F.nd⟩
theorem rows_dnl {H : Hp} {L : List Nat} {m : Nat} : ∀ (F : List Nat) (xs : List BEn), xs.map (·.1) = F.map (mkB L) → (∀ x ∈ xs, H x.2.2 = some (.lst (natsL (rowK L m x.1)))) → DnL H (F.map fun f => .list ((rowF L m f).map natD)) ((xs.map (·.2.2)).map V.ref)
  | [], [], _, _ => rfl
  | [], _ :: _, e, _ => by cases e
  | _ :: _, [], e, _ => by cases e
  | f :: F, x :: xs, e, h => by
    rw [List.map_cons, List.map_cons, List.cons.injEq] at e
    have h0 := h x List.mem_cons_self
    rw [e.1] at h0
    exact ⟨_, _, rfl, ⟨x.2.2, _, rfl, h0, nats_dnl _⟩, rows_dnl F xs e.2 fun y hy => h y (List.mem_cons_of_mem _ hy)⟩
theorem key_one {xs : List BEn} (h : (xs.map (·.1)).Nodup) : ∀ x ∈ xs, ∀ y ∈ xs, x.1 = y.1 → x = y := by
  intro x hx y hy e
  obtain ⟨i, hi⟩ := List.mem_iff_getElem?.mp hx
  obtain ⟨j, hj⟩ := List.mem_iff_getElem?.mp hy
  have h1 : (xs.map (·.1))[i]? = some x.1 := by rw [List.getElem?_map, hi]; rfl
  have h2 : (xs.map (·.1))[j]? = some x.1 := by rw [List.getElem?_map, hj, e]; rfl
  have e := nodup_at h h1 h2
  rw [e, hj] at hi
  exact (Option.some.inj hi).symm
theorem dB_code {P : Program} {w : World} {d : Addr} {xs : List BEn} (z : dB P w d xs = .ext (codeP d)) : False := by
  unfold dB at z
  have e := HO.ext.inj z
  have hg : (Heap.mk (Array.replicate (d + 1) { cls := .none, data := .fields #[.none, .str ("" : Str) 0] }) {}).get? d = some { cls := .none, data := .fields #[.none, .str ("" : Str) 0] } := by
    unfold Heap.get?
    rw [Array.getElem?_replicate, if_pos (Nat.lt_succ_self d)]
  have h1 : codeP d (Heap.mk (Array.replicate (d + 1) { cls := .none, data := .fields #[.none, .str ("" : Str) 0] }) {}) := ⟨_, _, ("" : Str), 0, hg, rfl, rfl⟩
  rw [← e] at h1
  obtain ⟨_, _, o, es, ep, q1, _, q2, _⟩ := h1
  rw [hg] at q1
  cases q1
  cases q2
theorem Same.putD {P : Program} {w : World} {H H1 : Hp} {d : Addr} {xs : List BEn} (s : Same H H1) (n : H d = none) (e : H1 d = some (dB P w d xs)) (o : HO) : Same H (L2.upd H1 d o) := fun b u hb => by
  have ne : b ≠ d := ne_of_none hb n
  have z := s b u hb
  cases u
  case tbl ps =>
    refine ⟨⟨z.1.choose, by rw [upd_ne ne]; exact z.1.choose_spec⟩, fun t => ?_⟩
    obtain ⟨qs, hq, tr, hp⟩ := z.2 t
    refine ⟨qs, by rw [upd_ne ne]; exact hq, tr, fun pos => ?_⟩
    rcases hp pos with y | ⟨c, y1, y2⟩
    · exact .inl y
    · refine .inr ⟨c, y1, ?_⟩
      rw [upd_ne fun z => by rw [z, e] at y2; exact dB_code (Option.some.inj y2)]
      exact y2
  all_goals (show L2.upd H1 d o b = _; rw [upd_ne ne]; exact z)
section
variable {P : Program} {w : World} {H0 H : Hp} {d : Addr} {L : List Nat} {k : Nat} {xs : List BEn}
theorem FlI.old (F : FlI P w H0 H d L k xs) {p : BEn} (hp : (xs.find? fun x => decide (x.1 = mkB L k)) = some p) :
    H p.2.2 = some (.lst (natsL (rowK L k (mkB L k)))) ∧ FlI P w H0 (L2.upd H p.2.2 (.lst (natsL (rowK L k (mkB L k)) ++ [.int (k : Int)]))) d L (k + 1) xs := by
  have hm := List.mem_of_find?_eq_some hp
  have hk : p.1 = mkB L k := by simpa using List.find?_some hp
  have hr := F.row p hm
  rw [hk] at hr
  have nodup : (xs.map (·.1)).Nodup := by rw [F.keys]; exact frs_nodup L k
  have k1 := key_one nodup
  have any : anyB L k k = true := by
    have : mkB L k ∈ (frs L k).map (mkB L) := by
      rw [← F.keys, ← hk]
      exact List.mem_map_of_mem hm
    obtain ⟨f, h1, h2⟩ := List.mem_map.mp this
    exact anyB_iff.mpr ⟨f, (frs_mem h1).1, h2⟩
  refine ⟨hr, ⟨Same.put F.same (F.new p hm) hr, ?_, by rw [frs_succ, if_pos any]; exact F.keys, fun x hx => ?_, fun x hx => ?_, F.new, F.one, F.nd⟩⟩
  · rw [upd_ne (fun z => by have := F.dct; rw [z, hr] at this; cases this)]
    exact F.dct
  · rw [upd_ne (fun z => by have := F.tup x hx; rw [z, hr] at this; cases this)]
    exact F.tup x hx
  · by_cases e : x = p
    · subst e
      rw [upd_same, rowK_succ, if_pos hk.symm, hk]
      show _ = some (HO.lst (natsL (_ ++ [k])))
      rw [show natsL (rowK L k (mkB L k) ++ [k]) = natsL (rowK L k (mkB L k)) ++ [V.int (k : Int)] from List.map_append]
    · rw [upd_ne (fun z => e (F.one x hx p hm z)), rowK_succ, if_neg (fun z => e (k1 x hx p hm (by rw [hk, z]))), List.append_nil]
      exact F.row x hx
theorem FlI.newr (F : FlI P w H0 H d L k xs) {t c : Addr} (hp : (xs.find? fun x => decide (x.1 = mkB L k)) = none) (ht : H t = some (.tup ((mkB L k).map bV))) (hc : H c = some (.lst [])) (nc : H0 c = none) (nx : ∀ x ∈ xs, x.2.2 ≠ c) :
    (L2.upd H d (dB P w d (xs ++ [(mkB L k, t, c)]))) c = some (.lst []) ∧ FlI P w H0 (L2.upd (L2.upd H d (dB P w d (xs ++ [(mkB L k, t, c)]))) c (.lst [.int (k : Int)])) d L (k + 1) (xs ++ [(mkB L k, t, c)]) := by
  have hn : ∀ x ∈ xs, x.1 ≠ mkB L k := fun x hx z => by
    have := List.find?_eq_none.mp hp x hx
    simp [z] at this
  have any : anyB L k k = false := by
    cases q : anyB L k k with
    | false => rfl
    | true =>
      have h1 := frs_any (anyB_iff.mp q)
      rw [← F.keys] at h1
      obtain ⟨x, hx, e⟩ := List.mem_map.mp h1
      exact absurd e (hn x hx)
  have ncd : c ≠ d := fun z => by
    rw [z, F.dct] at hc
    cases hc
  have hc' : (L2.upd H d (dB P w d (xs ++ [(mkB L k, t, c)]))) c = some (.lst []) := by rw [upd_ne ncd]; exact hc
  have same1 : Same H0 (L2.upd H d (dB P w d (xs ++ [(mkB L k, t, c)]))) := Same.putD F.same F.nd F.dct _
  refine ⟨hc', ⟨Same.put same1 nc hc', ?_, ?_, fun x hx => ?_, fun x hx => ?_, fun x hx => ?_, fun x hx y hy e => ?_, F.nd⟩⟩
  · rw [upd_ne ncd.symm]
    exact upd_same
  · rw [frs_succ, if_neg (by rw [any]; decide), List.map_append, List.map_append, F.keys]
    rfl
  · rcases List.mem_append.mp hx with z | z
    · rw [upd_ne (fun y => by have := F.tup x z; rw [y, hc] at this; cases this), upd_ne (fun y => by have := F.tup x z; rw [y, F.dct] at this; cases this)]
      exact F.tup x z
    · rw [List.mem_singleton.mp z]
      show (L2.upd _ c _) t = some (.tup ((mkB L k).map bV))
      rw [upd_ne (fun y => by rw [y, hc] at ht; cases ht), upd_ne (fun y => by rw [y, F.dct] at ht; cases ht)]
      exact ht
  · rcases List.mem_append.mp hx with z | z
    · rw [upd_ne (nx x z), upd_ne (fun y => by have := F.row x z; rw [y, F.dct] at this; cases this), rowK_succ, if_neg (fun y => hn x z y.symm), List.append_nil]
      exact F.row x z
    · rw [List.mem_singleton.mp z]
      show (L2.upd _ c _) c = _
      rw [upd_same, rowK_succ, if_pos rfl]
      have e0 : rowK L k (mkB L k) = [] := by
        unfold rowK
        rw [List.filter_eq_nil_iff]
        intro j hj z
        rw [anyB_iff.mpr ⟨j, List.mem_range.mp hj, of_decide_eq_true z⟩] at any
        cases any
      rw [e0]
      rfl
  · rcases List.mem_append.mp hx with z | z
    · exact F.new x z
    · rw [List.mem_singleton.mp z]
      exact nc
  · rcases List.mem_append.mp hx with z | z <;> rcases List.mem_append.mp hy with u | u
    · exact F.one x z y u e
    · rw [List.mem_singleton.mp u] at e
      exact absurd e (nx x z)
    · rw [List.mem_singleton.mp z] at e
      exact absurd e.symm (nx y u)
    · rw [List.mem_singleton.mp z, List.mem_singleton.mp u]
end
theorem dnl_nats {H : Hp} : ∀ {l : List Nat} {xs : List V}, DnL H (l.map natD) xs → xs = natsL l
  | [], _, q => q
  | k :: l, _, ⟨x, r, e, q, z⟩ => by
    have q : x = .int (k : Int) := q
    rw [e, q, dnl_nats z]
    rfl
/-! ### the same by lists of noughts and ones -/
end Ow

set_option maxRecDepth 100000
set_option maxHeartbeats 4000000
namespace L2
open PySem PySem.Spec
end L2
namespace Wd
open PySem L2 Ow
/-! ### woods drawn, kids handed on in a tuple -/
end Wd

set_option maxRecDepth 100000
set_option maxHeartbeats 4000000
namespace L2
open PySem PySem.Spec PyProof.Rows
section
variable {X : Cx}
end
end L2

set_option maxRecDepth 100000
set_option maxHeartbeats 4000000
namespace L2
open PySem PySem.Spec PyProof.Rows
/-! ### try .. except C, without a name -/
end L2

set_option maxRecDepth 100000
set_option maxHeartbeats 4000000
namespace Wd
open PySem L2 Ow
/-! ### options that stay, numbered anew -/
/-! ### ties numbered anew -/
/-! ### a ware's set keeps the ties numbered anew -/
/-! ### the options of some ware -/
end Wd

set_option maxRecDepth 100000
set_option maxHeartbeats 4000000
namespace Wd
open PySem L2 Ow
/-! ### ties in a tuple -/
/-! ### the whole fold -/
end Wd

set_option maxRecDepth 100000
set_option maxHeartbeats 4000000
namespace L2
open PySem PySem.Spec
end L2
namespace Wd
open PySem L2 Ow
end Wd

set_option maxRecDepth 100000
set_option maxHeartbeats 4000000
namespace Wd
open PySem L2 Ow
/-! ### what a fold keeps -/
end Wd

set_option maxRecDepth 100000
set_option maxHeartbeats 4000000
namespace Wd
open PySem L2 Ow
end Wd

set_option maxRecDepth 100000
set_option maxHeartbeats 4000000
namespace Wd
open PySem L2 Ow
/-! ### sets of new numbers, by the old ones -/
/-! ### a set that keeps the ties numbered anew, by the old numbers -/
/-! ### folded again -/
end Wd

set_option maxRecDepth 100000
set_option maxHeartbeats 4000000
namespace L2
open PySem PySem.Spec PyProof.Rows
end L2
namespace Wd
open PySem L2 Ow
theorem ins_root {s : Nat} (h : s.testBit 0 = true) : InS 1 0 s := ⟨fun k hk => by
    cases k with
    | zero => exact h
    | succ k => rw [show (1 : Nat) = 2 ^ 0 from rfl, Nat.testBit_two_pow] at hk; simp at hk, fun k hk => by rw [Nat.zero_testBit] at hk; cases hk⟩
theorem ins_with {s k : Nat} (h : s.testBit 0 = true) (hk : s.testBit k = true) : InS (1 ||| 2 ^ k) 0 s := ⟨fun j hj => by
    rw [Nat.testBit_or, Bool.or_eq_true] at hj
    rcases hj with z | z
    · exact (ins_root h).1 j z
    · rw [Nat.testBit_two_pow, decide_eq_true_iff] at z
      rw [← z]
      exact hk, fun k hk => by rw [Nat.zero_testBit] at hk; cases hk⟩
end Wd

set_option maxRecDepth 100000
set_option maxHeartbeats 4000000
namespace L2
open PySem PySem.Spec PyProof.Rows
section
variable {X : Cx} {tg iter elt : Expr} {cs : List Expr} {sc sc0 : Scope} {pos : Pos} {wi : TI} {g : TG} {tc : TT} {te : TE} {XN N' : List Str} {n : Nat} {kp : List Nat}
end
end L2
namespace L2
open PySem PySem.Spec PyProof.Rows
/-! ### isinstance of an own exception, of several classes -/
end L2
namespace Wd
open PySem L2 Ow
/-! ### the fold, told by wares -/
/-! ### the folded wood is a wood -/
end Wd

set_option maxRecDepth 100000
set_option maxHeartbeats 4000000
namespace L2
open PySem PySem.Spec PyProof.Rows
section
variable {prog : Program} {w : World} {A : Around} {E : Value → Shared → Prop} {s : Shared}
end
section
variable {prog : Program} {w : World} {A : Around} {s : Shared} {R : Result → Shared → Prop}
end
section
variable {prog : Program} {w : World} {A : Around} {E : Value → Shared → Prop} {s : Shared}
end
section
variable {X : Cx} {pins : List (Addr × Obj)} {σ : List (Option V)} {H H' : Hp} {s : Shared} {h' : Heap}
end
open Classical in
section
variable {X : Cx}
end
end L2

set_option maxRecDepth 100000
set_option maxHeartbeats 4000000
namespace Wd
open PySem L2 Ow
end Wd

set_option maxRecDepth 100000
set_option maxHeartbeats 4000000
namespace Wd
open PySem L2 Ow
end Wd

set_option maxRecDepth 100000
set_option maxHeartbeats 4000000
namespace L2
open PySem PySem.Spec PyProof.Rows
section
variable {X : Cx} {pins : List (Addr × Obj)} {σ : St} {H : Hp} {s : Shared}
variable {B : Heap} {H0 : Hp} {S J : Addr} {oS oJ oS' oJ' : Obj}
variable {k : Nat} {q l : Addr} {fd : FuncData} {ps : List Str} {sp : Sp} {xs : List V} {kf : Nat → Int} {R : Result → Shared → Prop}
end
end L2

set_option maxRecDepth 100000
set_option maxHeartbeats 4000000
namespace L2
open PySem PySem.Spec PyProof.Rows
end L2

set_option maxRecDepth 100000
set_option maxHeartbeats 4000000
namespace Wd
open PySem L2 Ow
end Wd

set_option maxRecDepth 100000
set_option maxHeartbeats 4000000
namespace Wd
open PySem L2 Ow
/-! ### prices changed -/
end Wd

set_option maxRecDepth 100000
set_option maxHeartbeats 4000000
namespace L2
open PySem PySem.Spec PyProof.Rows
end L2
namespace Wd
open PySem L2 Ow
end Wd

set_option maxRecDepth 100000
set_option maxHeartbeats 4000000
namespace Ow
open PySem L2 Wd
/-! ### words of options, by the wares -/
theorem keep_ware {ts : List Tie} {m y n : Nat} (ok : ∀ t ∈ ts, t.Ok m) (m9 : m ≤ 9) (S : Stand m y n) (y0 : y.testBit 0 = true) : FirstWare ts m y n (keepF ts (allT ts) m 9 y n) := by
  have h := keepF_first (il := allT ts) ok 9 y n (Nat.le_trans (open_few m y n) m9) S
  have e : ∀ s', InS y n s' → wareB ts s' = allKeep ts (allT ts) s' := fun s' hs => by
    unfold wareB
    rw [hs.1 0 y0, allKeep_all, Bool.true_and]
  cases o : keepF ts (allT ts) m 9 y n with
  | none =>
    rw [o] at h
    exact fun s' a b => by rw [e s' b]; exact h s' a b
  | some s =>
    rw [o] at h
    exact ⟨h.1, h.2.1, by rw [e s h.2.1]; exact h.2.2.1, fun s' a b c => h.2.2.2 s' a b (by rw [← e s' b]; exact c)⟩
def hasL (L : List Nat) (k : Nat) : List Nat := L.filter fun s => s.testBit k
def notL (L : List Nat) (k : Nat) : List Nat := L.filter fun s => !s.testBit k
def hd0 (l : List Nat) : Nat := l.head?.getD 0
def wordS (L : List Nat) (k : Nat) : Str := if L = [] then ("void" : Str) else if hasL L k = [] then ("never" : Str) else if hasL L k = L then ("always" : Str) else ("either" : Str)
def wordE (L : List Nat) (k : Nat) : Bool := !decide (L = []) && (!decide (hasL L k = []) && !decide (hasL L k = L))
def wordDt (L : List Nat) (k : Nat) : PyData := .tuple (.str (wordS L k) :: if wordE L k = true then [natD (hd0 (hasL L k)), natD (hd0 (notL L k))] else [])
def wordR (L : List Nat) (k : Nat) : List V := if wordE L k = true then [.int (hd0 (hasL L k) : Int), .int (hd0 (notL L k) : Int)] else []
theorem word_dn {H : Hp} {p : Addr} {L : List Nat} {k : Nat} (h : H p = some (.tup (.str (wordS L k) :: wordR L k))) : Dn H (wordDt L k) (.ref p) := by
  refine ⟨p, _, rfl, h, _, _, rfl, rfl, ?_⟩
  unfold wordR
  cases wordE L k
  · exact (rfl : ([] : List V) = [])
  · exact ⟨_, _, rfl, rfl, _, _, rfl, rfl, rfl⟩
theorem word_of {H : Hp} {v : V} {L : List Nat} {k : Nat} (h : Dn H (wordDt L k) v) : ∃ p, v = .ref p ∧ H p = some (.tup (.str (wordS L k) :: wordR L k)) := by
  obtain ⟨p, xs, e, hp, x, r, ex, q, z⟩ := h
  refine ⟨p, e, ?_⟩
  have q : x = .str (wordS L k) := q
  rw [hp, ex, q]
  unfold wordR
  cases hw : wordE L k
  · rw [hw] at z
    have z : r = [] := z
    rw [z]
    rfl
  · rw [hw] at z
    rw [dnl_nats (l := [hd0 (hasL L k), hd0 (notL L k)]) z]
    rfl
theorem has_alike {L : List Nat} {j k : Nat} (h : mkB L j = mkB L k) : hasL L j = hasL L k ∧ notL L j = notL L k := by
  have e : ∀ s ∈ L, s.testBit j = s.testBit k := fun s hs => by
    obtain ⟨i, hi⟩ := List.mem_iff_getElem?.mp hs
    have := congrArg (fun l => l[i]?) h
    unfold mkB at this
    simp only [List.getElem?_map, hi, Option.map_some, Option.some.injEq] at this
    exact this
  exact ⟨List.filter_congr fun s hs => e s hs, List.filter_congr fun s hs => by rw [e s hs]⟩
theorem word_alike {L : List Nat} {j k : Nat} (h : mkB L j = mkB L k) : wordDt L j = wordDt L k := by
  obtain ⟨h1, h2⟩ := has_alike h
  unfold wordDt wordE wordS
  rw [h1, h2]
theorem strOk_words (L : List Nat) (k : Nat) : PyData.strOk (wordS L k) = true := by
  unfold wordS
  repeat' split
  all_goals decide +kernel
theorem lay_word (L : List Nat) (k : Nat) : layD 2 (wordDt L k) = true := by
  unfold wordDt
  show ((PyData.str (wordS L k) :: _).all (layD 1)) = true
  rw [List.all_cons]
  have : layD 1 (.str (wordS L k)) = true := strOk_words L k
  rw [this]
  cases wordE L k <;> rfl
theorem wordE_iff {L : List Nat} {k : Nat} : wordS L k = ("either" : Str) ↔ wordE L k = true := by
  have a1 : ¬ ("void" : Str) = ("either" : Str) := by decide +kernel
  have a2 : ¬ ("never" : Str) = ("either" : Str) := by decide +kernel
  have a3 : ¬ ("always" : Str) = ("either" : Str) := by decide +kernel
  unfold wordS wordE
  by_cases h1 : L = []
  · simp [h1, a1]
  · by_cases h2 : hasL L k = []
    · simp [h1, h2, a2]
    · by_cases h3 : hasL L k = L
      · simp [h1, h3, a3]
      · simp [h1, h2, h3]
theorem hd_least {L : List Nat} {g : Nat → Bool} (pw : L.Pairwise (· < ·)) {s : Nat} (hs : s ∈ L) (hg : g s = true) (least : ∀ s' ∈ L, g s' = true → s ≤ s') : hd0 (L.filter g) = s := by
  have pw2 := pw.filter g
  have m1 : s ∈ L.filter g := List.mem_filter.mpr ⟨hs, hg⟩
  cases e : L.filter g with
  | nil => rw [e] at m1; cases m1
  | cons x r =>
    show x = s
    have hx : x ∈ L.filter g := by rw [e]; exact List.mem_cons_self
    obtain ⟨hx1, hx2⟩ := List.mem_filter.mp hx
    have h1 := least x hx1 hx2
    rw [e] at pw2 m1
    rcases List.mem_cons.mp m1 with z | z
    · exact z.symm
    · have := (List.pairwise_cons.mp pw2).1 s z
      omega
theorem ins_without {s k : Nat} (h : s.testBit 0 = true) (hk : s.testBit k = false) : InS 1 (2 ^ k) s := ⟨(ins_root h).1, fun j hj => by
  rw [Nat.testBit_two_pow, decide_eq_true_iff] at hj
  rw [← hj]
  exact hk⟩
theorem stand_is {H0 H : Hp} {v : V} {ts : List Tie} {m k : Nat} (h : StandV H0 H v ts m k) (ok : ∀ t ∈ ts, t.Ok m) (m1 : 1 ≤ m) (m9 : m ≤ 9) (km : k < m) :
    ∃ p r, v = .ref p ∧ H p = some (.tup (.str (wordS (wareL m ts) k) :: r)) ∧ (wordE (wareL m ts) k = true → r = wordR (wareL m ts) k) := by
  have bit0 : ∀ s ∈ wareL m ts, s.testBit 0 = true := fun s hs => by
    have := (mem_wareL.mp hs).2
    unfold wareB at this
    exact (Bool.and_eq_true_iff.mp this).1
  have R := keep_ware ok m9 (stand_root m1) rfl
  have y1 : (1 ||| 2 ^ k).testBit 0 = true := by rw [Nat.testBit_or]; rfl
  have Wt := keep_ware ok m9 (stand_with m1 km) y1
  have withW : ∀ s, InS (1 ||| 2 ^ k) 0 s ↔ s.testBit 0 = true ∧ s.testBit k = true := fun s => by
    constructor
    · intro z
      exact ⟨z.1 0 y1, z.1 k (by rw [Nat.testBit_or, Nat.testBit_two_pow]; simp)⟩
    · rintro ⟨a, b⟩
      exact ins_with a b
  have noneL : ∀ {y n : Nat}, barB ts (allT ts) m y n = true → keepF ts (allT ts) m 9 y n = none := fun {y n} hb => by
    cases e : keepF ts (allT ts) m 9 y n with
    | none => rfl
    | some s => rw [bar_some e] at hb; cases hb
  have nonvoid : barB ts (allT ts) m 1 0 = false → wareL m ts ≠ [] := fun hb z => by
    obtain ⟨s, hs⟩ := bar_get hb
    rw [hs] at R
    have : s ∈ wareL m ts := mem_wareL.mpr ⟨R.1, R.2.2.1⟩
    rw [z] at this
    cases this
  have has0 : hasL (wareL m ts) 0 = wareL m ts := List.filter_eq_self.mpr fun s hs => bit0 s hs
  have never : barB ts (allT ts) m (1 ||| 2 ^ k) 0 = true → hasL (wareL m ts) k = [] := fun hb => by
    rw [noneL hb] at Wt
    refine List.filter_eq_nil_iff.mpr fun s hs z => ?_
    have := Wt s (mem_wareL.mp hs).1 ((withW s).mpr ⟨bit0 s hs, z⟩)
    rw [(mem_wareL.mp hs).2] at this
    cases this
  have some_ : barB ts (allT ts) m (1 ||| 2 ^ k) 0 = false → hasL (wareL m ts) k ≠ [] := fun hb z => by
    obtain ⟨s, hs⟩ := bar_get hb
    rw [hs] at Wt
    have : s ∈ hasL (wareL m ts) k := List.mem_filter.mpr ⟨mem_wareL.mpr ⟨Wt.1, Wt.2.2.1⟩, ((withW s).mp Wt.2.1).2⟩
    rw [z] at this
    cases this
  obtain ⟨p, e, h⟩ := h
  rcases h with ⟨b1, b, hp, _⟩ | ⟨b1, k0, hp⟩ | ⟨b1, k0, b2, b, hp, _⟩ | ⟨b1, k0, b2, b3, b, hp, _⟩ | ⟨b1, k0, b2, b3, s1, s2, e1, e2, hp⟩
  · have v0 : wareL m ts = [] := by
      rw [noneL b1] at R
      unfold wareL
      refine List.filter_eq_nil_iff.mpr fun s hs z => ?_
      have h0 : s.testBit 0 = true := by
        unfold wareB at z
        exact (Bool.and_eq_true_iff.mp z).1
      rw [R s (List.mem_range.mp hs) (ins_root h0)] at z
      cases z
    refine ⟨p, [b], e, ?_, fun z => ?_⟩
    · rw [hp]
      unfold wordS
      rw [if_pos v0]
    · unfold wordE at z
      rw [v0] at z
      cases z
  · have nv := nonvoid b1
    have w : wordS (wareL m ts) k = ("always" : Str) := by
      unfold wordS
      rw [k0, has0, if_neg nv, if_neg nv, if_pos rfl]
    refine ⟨p, [.non], e, by rw [hp, w], fun z => ?_⟩
    unfold wordE at z
    rw [k0, has0] at z
    simp at z
  · have nv := nonvoid b1
    have nb := never b2
    refine ⟨p, [b], e, ?_, fun z => ?_⟩
    · rw [hp]
      unfold wordS
      rw [if_neg nv, if_pos nb]
    · unfold wordE at z
      rw [nb] at z
      simp at z
  · have nv := nonvoid b1
    have nb := some_ b2
    have Wn := keep_ware ok m9 (stand_without m1 km k0) rfl
    rw [noneL b3] at Wn
    have al : hasL (wareL m ts) k = wareL m ts := List.filter_eq_self.mpr fun s hs => by
      cases q : s.testBit k with
      | true => rfl
      | false =>
        have := Wn s (mem_wareL.mp hs).1 (ins_without (bit0 s hs) q)
        rw [(mem_wareL.mp hs).2] at this
        cases this
    refine ⟨p, [b], e, ?_, fun z => ?_⟩
    · rw [hp]
      unfold wordS
      rw [if_neg nv, if_neg nb, if_pos al]
    · unfold wordE at z
      rw [al] at z
      simp at z
  · have nv := nonvoid b1
    have nb := some_ b2
    have Wn := keep_ware ok m9 (stand_without m1 km k0) rfl
    rw [e2] at Wn
    rw [e1] at Wt
    have t2 : s2.testBit k = false := Wn.2.1.2 k (by rw [Nat.testBit_two_pow]; simp)
    have na : hasL (wareL m ts) k ≠ wareL m ts := fun z => by
      have := List.filter_eq_self.mp z s2 (mem_wareL.mpr ⟨Wn.1, Wn.2.2.1⟩)
      rw [t2] at this
      cases this
    have we : wordE (wareL m ts) k = true := by
      unfold wordE
      rw [decide_eq_false nv, decide_eq_false nb, decide_eq_false na]
      rfl
    have h1 : hd0 (hasL (wareL m ts) k) = s1 := hd_least (wareL_pw m ts) (mem_wareL.mpr ⟨Wt.1, Wt.2.2.1⟩) ((withW s1).mp Wt.2.1).2 fun s' hs' z => Wt.2.2.2 s' (mem_wareL.mp hs').1 ((withW s').mpr ⟨bit0 s' hs', z⟩) (mem_wareL.mp hs').2
    have h2 : hd0 (notL (wareL m ts) k) = s2 := hd_least (wareL_pw m ts) (mem_wareL.mpr ⟨Wn.1, Wn.2.2.1⟩) (by rw [t2]; rfl) fun s' hs' z => Wn.2.2.2 s' (mem_wareL.mp hs').1 (ins_without (bit0 s' hs') (by simpa using z)) (mem_wareL.mp hs').2
    refine ⟨p, [.int (s1 : Int), .int (s2 : Int)], e, by rw [hp, wordE_iff.mpr we], fun _ => ?_⟩
    unfold wordR
    rw [if_pos we, h1, h2]
/-! ### all options stand in the rows, each once -/
theorem rows_perm_of (L : List Nat) (R : List Nat) : ∀ F : List Nat, (F.map (mkB L)).Nodup → (F.flatMap fun f => R.filter fun k => decide (mkB L k = mkB L f)).Perm (R.filter fun k => decide (mkB L k ∈ F.map (mkB L)))
  | [], _ => by simp
  | f :: F, nd => by
    rw [List.map_cons, List.nodup_cons] at nd
    rw [List.flatMap_cons]
    refine (List.Perm.append_left _ (rows_perm_of L R F nd.2)).trans ?_
    have h := List.filter_append_perm (fun k => decide (mkB L k = mkB L f)) (R.filter fun k => decide (mkB L k ∈ (f :: F).map (mkB L)))
    rw [List.filter_filter, List.filter_filter] at h
    have e1 : (R.filter fun k => decide (mkB L k = mkB L f) && decide (mkB L k ∈ (f :: F).map (mkB L))) = R.filter fun k => decide (mkB L k = mkB L f) := List.filter_congr fun k _ => by
      by_cases z : mkB L k = mkB L f <;> simp [z]
    have e2 : (R.filter fun k => (!decide (mkB L k = mkB L f)) && decide (mkB L k ∈ (f :: F).map (mkB L))) = R.filter fun k => decide (mkB L k ∈ F.map (mkB L)) := List.filter_congr fun k _ => by
      by_cases z : mkB L k = mkB L f
      · rw [z]
        rw [decide_eq_false nd.1]
        simp
      · rw [List.map_cons]
        simp only [List.mem_cons, z, decide_false, Bool.not_false, Bool.true_and, false_or]
    rw [e1, e2] at h
    exact h
theorem rows_perm (L : List Nat) (m : Nat) : ((frs L m).flatMap fun f => rowF L m f).Perm (List.range m) := by
  have h := rows_perm_of L (List.range m) (frs L m) (frs_nodup L m)
  have e : ((List.range m).filter fun k => decide (mkB L k ∈ (frs L m).map (mkB L))) = List.range m := List.filter_eq_self.mpr fun k hk => decide_eq_true (frs_any ⟨k, List.mem_range.mp hk, rfl⟩)
  rw [e] at h
  exact h
theorem parts_mem {L : List Nat} : ∀ {F : List Nat} {x : Nat × Nat × Nat}, (F.map (mkB L)).Nodup → x ∈ partsF L F → x.2.2 ∈ L ∧ x.2.2.testBit x.1 ≠ x.2.2.testBit x.2.1
  | [], _, _, h => by cases h
  | a :: r, x, nd, h => by
    rw [List.map_cons, List.nodup_cons] at nd
    rcases List.mem_append.mp (show x ∈ (r.map fun b => (a, b, partW L a b)) ++ partsF L r from h) with z | z
    · obtain ⟨b, hb, rfl⟩ := List.mem_map.mp z
      obtain ⟨s, t, e1, e2⟩ := parted (L := L) (a := a) (b := b) fun z => nd.1 (by rw [z]; exact List.mem_map_of_mem hb)
      have hm : s ∈ L.filter fun s => s.testBit a != s.testBit b := by rw [e1]; exact List.mem_cons_self
      obtain ⟨g1, g2⟩ := List.mem_filter.mp hm
      show partW L a b ∈ L ∧ (partW L a b).testBit a ≠ (partW L a b).testBit b
      rw [e2]
      exact ⟨g1, by simpa using g2⟩
    · exact parts_mem nd.2 z
theorem parts_len2 (L : List Nat) : ∀ F : List Nat, 2 * (partsF L F).length = F.length * (F.length - 1)
  | [] => rfl
  | a :: r => by
    have ih := parts_len2 L r
    show 2 * ((r.map _) ++ partsF L r).length = (r.length + 1) * (r.length + 1 - 1)
    rw [List.length_append, List.length_map, Nat.mul_add, ih, Nat.add_sub_cancel]
    cases r.length with
    | zero => rfl
    | succ n =>
      rw [Nat.add_sub_cancel, Nat.mul_comm (n + 1) n, ← Nat.add_mul]
      congr 1
      omega
def spWordF : Sp := fun vs H Q _ => ∃ (l : Addr) (L : List Nat) (k : Nat), vs = [.ref l, .int (k : Int)] ∧ H l = some (.lst (natsL L)) ∧ L.length ≤ 1000 ∧ ∀ (p : Addr) (H' : Hp), Same H H' → H' p = some (.tup (.str (wordS L k) :: wordR L k)) → Q (.ref p) H'
theorem words_tup {H H' : Hp} {L : List Nat} (h : TupS H H') : ∀ (l : List Nat) (ws : List V), DnL H (l.map (wordDt L)) ws → DnL H' (l.map (wordDt L)) ws
  | [], _, q => q
  | k :: l, _, ⟨v, r, e, q, z⟩ => by
    obtain ⟨p, rfl, hp⟩ := word_of q
    exact ⟨_, r, e, word_dn (h _ _ hp), words_tup h l r z⟩
end Ow

set_option maxRecDepth 100000
set_option maxHeartbeats 4000000
namespace Ow
open PySem L2 Wd
def top (i : Nat) : Stmt := PySem.Challenge.pw_optionwood_k35_whole_standing_and_wares.main.body.getD i (.Pass ⟨0, 0, 0, 0⟩)
abbrev s_has : Stmt := top 1
abbrev s_with_option : Stmt := top 2
abbrev s_open_options : Stmt := top 3
abbrev s_many_ties : Stmt := top 5
abbrev s_tie_at : Stmt := top 6
abbrev s_count_in : Stmt := top 8
abbrev s_every_tie : Stmt := top 9
abbrev s_sure_broken : Stmt := top 10
abbrev s_least_sum : Stmt := top 11
abbrev s_sure_broken_bough : Stmt := top 12
abbrev s_first_sure_broken : Stmt := top 13
abbrev s_cases : Stmt := top 15
abbrev s_cases_of : Stmt := top 16
abbrev s_ware_leaf : Stmt := top 17
abbrev s_told_tree : Stmt := top 18
abbrev s_wares_in : Stmt := top 19
abbrev s_wares : Stmt := top 21
abbrev s_first_ware : Stmt := top 22
abbrev s_first_keeping : Stmt := top 23
abbrev s_bars : Stmt := top 25
abbrev s_least_bar : Stmt := top 26
abbrev s_least_ties : Stmt := top 27
abbrev s_tie_others : Stmt := top 28
abbrev s_left_without : Stmt := top 29
abbrev s_standing : Stmt := top 30
abbrev s_flocks : Stmt := top 32
abbrev s_parts_of : Stmt := top 33
abbrev s_first_parting : Stmt := top 34
abbrev s_law_cell : Stmt := top 36
abbrev s_law_next : Stmt := top 37
abbrev s_law_kids : Stmt := top 38
abbrev s_law_bough : Stmt := top 39
abbrev s_law_cross : Stmt := top 40
abbrev s_law_wood : Stmt := top 41
abbrev s_law_word : Stmt := top 42
abbrev s_law : Stmt := top 43
set_option genInjectivity false
set_option genSizeOfSpec false
set_option genSizeOf false
structure Adr where
  (f_has f_with_option f_open_options f_many_ties f_tie_at f_count_in f_every_tie f_sure_broken f_least_sum f_sure_broken_bough f_first_sure_broken f_cases f_cases_of f_ware_leaf f_told_tree f_wares_in f_wares f_first_ware f_first_keeping f_bars f_least_bar f_least_ties f_tie_others f_left_without f_standing f_flocks f_parts_of f_first_parting f_law_cell f_law_next f_law_kids f_law_bough f_law_cross f_law_wood f_law_word f_law : Addr)
  (c_cases_of t_cases_of : Addr)
structure Fds where
  (f_has f_with_option f_open_options f_many_ties f_tie_at f_count_in f_every_tie f_sure_broken f_least_sum f_sure_broken_bough f_first_sure_broken f_cases f_cases_of f_ware_leaf f_told_tree f_wares_in f_wares f_first_ware f_first_keeping f_bars f_least_bar f_least_ties f_tie_others f_left_without f_standing f_flocks f_parts_of f_first_parting f_law_cell f_law_next f_law_kids f_law_bough f_law_cross f_law_wood f_law_word f_law : FuncData)
structure Txt (K : PySem.W.Frag) (mg : Str → Option Value) (a : Adr) (d : Fds) : Prop where
  m_range : mg "range" = none
  m_len : mg "len" = none
  m_max : mg "max" = none
  m_int : mg "int" = none
  m_list : mg "list" = none
  m_tuple : mg "tuple" = none
  m_sorted : mg "sorted" = none
  m_enumerate : mg "enumerate" = none
  m_sum : mg "sum" = none
  K_has : Df K mg "has" s_has a.f_has d.f_has ["some", "k"]
  K_with_option : Df K mg "with_option" s_with_option a.f_with_option d.f_with_option ["some", "k"]
  K_open_options : Df K mg "open_options" s_open_options a.f_open_options d.f_open_options ["many", "yes", "no"]
  K_many_ties : Df K mg "many_ties" s_many_ties a.f_many_ties d.f_many_ties ["wood"]
  K_tie_at : Df K mg "tie_at" s_tie_at a.f_tie_at d.f_tie_at ["wood", "t"]
  K_count_in : Df K mg "count_in" s_count_in a.f_count_in d.f_count_in ["kids", "some"]
  K_every_tie : Df K mg "every_tie" s_every_tie a.f_every_tie d.f_every_tie ["wood"]
  K_sure_broken : Df K mg "sure_broken" s_sure_broken a.f_sure_broken d.f_sure_broken ["tie", "yes", "no"]
  K_least_sum : Df K mg "least_sum" s_least_sum a.f_least_sum d.f_least_sum ["pairs", "yes", "no"]
  K_sure_broken_bough : Df K mg "sure_broken_bough" s_sure_broken_bough a.f_sure_broken_bough d.f_sure_broken_bough ["bough", "yes", "no"]
  K_first_sure_broken : Df K mg "first_sure_broken" s_first_sure_broken a.f_first_sure_broken d.f_first_sure_broken ["wood", "ties", "yes", "no"]
  K_cases : Df K mg "cases" s_cases a.f_cases d.f_cases ["wood", "yes", "no"]
  K_cases_of : Df K mg "cases_of" s_cases_of a.f_cases_of d.f_cases_of ["wood", "ties", "yes", "no"]
  K_ware_leaf : Df K mg "ware_leaf" s_ware_leaf a.f_ware_leaf d.f_ware_leaf ["wood", "yes", "no"]
  K_told_tree : Df K mg "told_tree" s_told_tree a.f_told_tree d.f_told_tree ["wood", "ties", "yes", "no", "leaf_at"]
  K_wares_in : Df K mg "wares_in" s_wares_in a.f_wares_in d.f_wares_in ["yes", "tree"]
  K_wares : Df K mg "wares" s_wares a.f_wares d.f_wares ["wood"]
  K_first_ware : Df K mg "first_ware" s_first_ware a.f_first_ware d.f_first_ware ["wood", "yes", "no"]
  K_first_keeping : Df K mg "first_keeping" s_first_keeping a.f_first_keeping d.f_first_keeping ["wood", "ties", "yes", "no"]
  K_bars : Df K mg "bars" s_bars a.f_bars d.f_bars ["wood", "ties", "yes", "no"]
  K_least_bar : Df K mg "least_bar" s_least_bar a.f_least_bar d.f_least_bar ["wood", "yes", "no"]
  K_least_ties : Df K mg "least_ties" s_least_ties a.f_least_ties d.f_least_ties ["wood", "yes", "no"]
  K_tie_others : Df K mg "tie_others" s_tie_others a.f_tie_others d.f_tie_others ["wood", "ties", "yes", "no"]
  K_left_without : Df K mg "left_without" s_left_without a.f_left_without d.f_left_without ["things", "one"]
  K_standing : Df K mg "standing" s_standing a.f_standing d.f_standing ["wood", "k"]
  K_flocks : Df K mg "flocks" s_flocks a.f_flocks d.f_flocks ["wood"]
  K_parts_of : Df K mg "parts_of" s_parts_of a.f_parts_of d.f_parts_of ["sold", "firsts"]
  K_first_parting : Df K mg "first_parting" s_first_parting a.f_first_parting d.f_first_parting ["sold", "a", "b"]
  K_law_cell : Df K mg "_law_cell" s_law_cell a.f_law_cell d.f_law_cell ["_law_script", "_law_k"]
  K_law_next : Df K mg "_law_next" s_law_next a.f_law_next d.f_law_next ["_law_pen", "_law_most"]
  K_law_kids : Df K mg "_law_kids" s_law_kids a.f_law_kids d.f_law_kids ["_law_pen", "_law_many"]
  K_law_bough : Df K mg "_law_bough" s_law_bough a.f_law_bough d.f_law_bough ["_law_pen", "_law_up", "_law_kids_here"]
  K_law_cross : Df K mg "_law_cross" s_law_cross a.f_law_cross d.f_law_cross ["_law_pen", "_law_many"]
  K_law_wood : Df K mg "_law_wood" s_law_wood a.f_law_wood d.f_law_wood ["_law_pen", "_law_many", "_law_most"]
  K_law_word : Df K mg "_law_word" s_law_word a.f_law_word d.f_law_word ["_law_every", "_law_k"]
  K_law : Df K mg "law" s_law a.f_law d.f_law ["_law_script"]
  code_cases_of : d.f_cases_of.code = .ref a.c_cases_of
theorem sc_has : FnScope ["some", "k"] ["some", "k"] (defScope s_has) := scm rfl rfl rfl rfl (by decide +kernel)
theorem sc_with_option : FnScope ["some", "k"] ["some", "k"] (defScope s_with_option) := scm rfl rfl rfl rfl (by decide +kernel)
theorem sc_open_options : FnScope ["many", "yes", "no"] ["many", "yes", "no"] (defScope s_open_options) := scm rfl rfl rfl rfl (by decide +kernel)
theorem sc_many_ties : FnScope ["wood"] ["wood"] (defScope s_many_ties) := scm rfl rfl rfl rfl (by decide +kernel)
theorem sc_tie_at : FnScope ["wood", "t", "boughs"] ["wood", "t"] (defScope s_tie_at) := scm rfl rfl rfl rfl (by decide +kernel)
theorem sc_count_in : FnScope ["kids", "some"] ["kids", "some"] (defScope s_count_in) := scm rfl rfl rfl rfl (by decide +kernel)
theorem sc_every_tie : FnScope ["wood"] ["wood"] (defScope s_every_tie) := scm rfl rfl rfl rfl (by decide +kernel)
theorem sc_sure_broken : FnScope ["tie", "yes", "no"] ["tie", "yes", "no"] (defScope s_sure_broken) := scm rfl rfl rfl rfl (by decide +kernel)
theorem sc_least_sum : FnScope ["pairs", "yes", "no"] ["pairs", "yes", "no"] (defScope s_least_sum) := scm rfl rfl rfl rfl (by decide +kernel)
theorem sc_sure_broken_bough : FnScope ["bough", "yes", "no", "least", "greatest", "some_with_up", "some_without_up"] ["bough", "yes", "no"] (defScope s_sure_broken_bough) := scm rfl rfl rfl rfl (by decide +kernel)
theorem sc_first_sure_broken : FnScope ["wood", "ties", "yes", "no", "t"] ["wood", "ties", "yes", "no"] (defScope s_first_sure_broken) := scm rfl rfl rfl rfl (by decide +kernel)
theorem sc_cases : FnScope ["wood", "yes", "no"] ["wood", "yes", "no"] (defScope s_cases) := scm rfl rfl rfl rfl (by decide +kernel)
theorem sc_cases_of : FnScope ["wood", "ties", "yes", "no"] ["wood", "ties", "yes", "no"] (defScope s_cases_of) := scm rfl rfl rfl rfl (by decide +kernel)
theorem sc_ware_leaf : FnScope ["wood", "yes", "no"] ["wood", "yes", "no"] (defScope s_ware_leaf) := scm rfl rfl rfl rfl (by decide +kernel)
theorem sc_told_tree : FnScope ["wood", "ties", "yes", "no", "leaf_at", "broken", "leaf", "k", "one", "other"] ["wood", "ties", "yes", "no", "leaf_at"] (defScope s_told_tree) := scm rfl rfl rfl rfl (by decide +kernel)
theorem sc_wares_in : FnScope ["yes", "tree"] ["yes", "tree"] (defScope s_wares_in) := scm rfl rfl rfl rfl (by decide +kernel)
theorem sc_wares : FnScope ["wood", "root"] ["wood"] (defScope s_wares) := scm rfl rfl rfl rfl (by decide +kernel)
theorem sc_first_ware : FnScope ["wood", "yes", "no"] ["wood", "yes", "no"] (defScope s_first_ware) := scm rfl rfl rfl rfl (by decide +kernel)
theorem sc_first_keeping : FnScope ["wood", "ties", "yes", "no", "left", "k", "found"] ["wood", "ties", "yes", "no"] (defScope s_first_keeping) := scm rfl rfl rfl rfl (by decide +kernel)
theorem sc_bars : FnScope ["wood", "ties", "yes", "no"] ["wood", "ties", "yes", "no"] (defScope s_bars) := scm rfl rfl rfl rfl (by decide +kernel)
theorem sc_least_bar : FnScope ["wood", "yes", "no", "left"] ["wood", "yes", "no"] (defScope s_least_bar) := scm rfl rfl rfl rfl (by decide +kernel)
theorem sc_least_ties : FnScope ["wood", "yes", "no", "left", "t", "fewer"] ["wood", "yes", "no"] (defScope s_least_ties) := scm rfl rfl rfl rfl (by decide +kernel)
theorem sc_tie_others : FnScope ["wood", "ties", "yes", "no"] ["wood", "ties", "yes", "no"] (defScope s_tie_others) := scm rfl rfl rfl rfl (by decide +kernel)
theorem sc_left_without : FnScope ["things", "one"] ["things", "one"] (defScope s_left_without) := scm rfl rfl rfl rfl (by decide +kernel)
theorem sc_standing : FnScope ["wood", "k", "root", "alone", "having", "without"] ["wood", "k"] (defScope s_standing) := scm rfl rfl rfl rfl (by decide +kernel)
theorem sc_flocks : FnScope ["wood", "sold", "together", "k", "found"] ["wood"] (defScope s_flocks) := scm rfl rfl rfl rfl (by decide +kernel)
theorem sc_parts_of : FnScope ["sold", "firsts", "parts", "place", "a", "b"] ["sold", "firsts"] (defScope s_parts_of) := scm rfl rfl rfl rfl (by decide +kernel)
theorem sc_first_parting : FnScope ["sold", "a", "b"] ["sold", "a", "b"] (defScope s_first_parting) := scm rfl rfl rfl rfl (by decide +kernel)
theorem sc_law_cell : FnScope ["_law_script", "_law_k", "_law_number", "_law_spot"] ["_law_script", "_law_k"] (defScope s_law_cell) := scm rfl rfl rfl rfl (by decide +kernel)
theorem sc_law_next : FnScope ["_law_pen", "_law_most", "_law_cell_here"] ["_law_pen", "_law_most"] (defScope s_law_next) := scm rfl rfl rfl rfl (by decide +kernel)
theorem sc_law_kids : FnScope ["_law_pen", "_law_many", "_law_rows", "_law_k"] ["_law_pen", "_law_many"] (defScope s_law_kids) := scm rfl rfl rfl rfl (by decide +kernel)
theorem sc_law_bough : FnScope ["_law_pen", "_law_up", "_law_kids_here", "_law_size", "_law_low", "_law_high", "_law_way"] ["_law_pen", "_law_up", "_law_kids_here"] (defScope s_law_bough) := scm rfl rfl rfl rfl (by decide +kernel)
theorem sc_law_cross : FnScope ["_law_pen", "_law_many", "_law_way", "_law_a", "_law_some", "_law_by", "_law_numbers", "_law_pairs", "_law_k", "_law_most"] ["_law_pen", "_law_many"] (defScope s_law_cross) := scm rfl rfl rfl rfl (by decide +kernel)
theorem sc_law_wood : FnScope ["_law_pen", "_law_many", "_law_most", "_law_rows", "_law_boughs", "_law_turn", "_law_cross_here"] ["_law_pen", "_law_many", "_law_most"] (defScope s_law_wood) := scm rfl rfl rfl rfl (by decide +kernel)
theorem sc_law_word : FnScope ["_law_every", "_law_k", "_law_having"] ["_law_every", "_law_k"] (defScope s_law_word) := scm rfl rfl rfl rfl (by decide +kernel)
theorem sc_law : FnScope ["_law_script", "_law_pen", "_law_many", "_law_wood_here", "_law_every", "_law_words", "_law_k", "_law_due", "_law_found", "_law_rows", "_law_parts", "_law_met", "_law_row", "_law_a", "_law_b", "_law_ware"] ["_law_script"] (defScope s_law) := scm rfl rfl rfl rfl (by decide +kernel)
end Ow

namespace Ow
open PySem L2 Wd
section
variable {P : Program} {w : World} {K : PySem.W.Frag} {mg : Str → Option Value} {base : Heap} {a : Adr} {d : Fds}
def spHas : Sp := fun vs H Q _ => ∃ n k : Int, vs = [.int n, .int k] ∧ Q (.bl (hasV n k)) H
theorem ok_has (T : Txt K mg a d) : FnOk P w K mg base CX0 1 a.f_has d.f_has ["some", "k"] spHas := by
  refine T.K_has.ok sc_has (fun vs H Q E h => ?_) (fun cdv A outer s H vs Q E hr h => ?_)
  · obtain ⟨n, k, rfl, _⟩ := h
    rfl
  obtain ⟨n, k, rfl, q⟩ := h
  refine ⟨_, (pss_one (ps_ret (pe_and (pe_cmpR op_ge (pv 1) pe_int (nomark _)) (pe_one (pe_cmpR op_eq (pe_op op_and (pe_op op_shr (pv 0) (pv 1)) pe_int) pe_int (nomark _)))))), ?_⟩
  refine ⟨_, rfl, _, _, rfl, rfl, _, rfl, ?_⟩
  refine ite2 (fun c => ?_) (fun c => ?_)
  · have hk : (0 : Int) ≤ k := of_decide_eq_true c
    refine ⟨_, rfl, _, rfl, _, _, rfl, rfl, hk, _, _, rfl, rfl, rfl, ?_⟩
    have e : decide (V.int (Builtin.bitAnd (n / 2 ^ k.toNat) 1) = V.int 1) = hasV n k := by
      unfold hasV
      rw [decide_eq_true hk, Bool.true_and, dec_int, bitI]
      by_cases z : n / 2 ^ k.toNat % 2 = 1
      · rw [decide_eq_true z]
        simpa using z
      · rw [decide_eq_false z]
        simpa using z
    show Q (.bl (decide (V.int (Builtin.bitAnd (n / 2 ^ k.toNat) 1) = V.int 1))) H
    rw [e]
    exact q
  · have hk : ¬ (0 : Int) ≤ k := of_decide_eq_false (Bool.eq_false_iff.mpr c)
    have e : hasV n k = false := by
      unfold hasV
      rw [decide_eq_false hk, Bool.false_and]
    rw [e] at q
    exact q

end
section
variable {P : Program} {w : World} {K : PySem.W.Frag} {mg : Str → Option Value} {base : Heap} {a : Adr} {d : Fds}
theorem ok_with_option (T : Txt K mg a d) : FnOk P w K mg base CX0 1 a.f_with_option d.f_with_option ["some", "k"] spWithO := by
  refine T.K_with_option.ok sc_with_option (fun vs H Q E h => ?_) (fun cdv A outer s H vs Q E hr h => ?_)
  · obtain ⟨n, k, rfl, _⟩ := h
    rfl
  obtain ⟨n, k, rfl, hk, q⟩ := h
  refine ⟨_, (pss_one (ps_ret (pe_op op_or (pv 0) (pe_op op_shl pe_int (pv 1))))), ?_⟩
  refine ⟨_, rfl, _, rfl, _, _, rfl, rfl, ⟨by omega, by omega, by decide⟩, _, _, rfl, rfl, ?_⟩
  have e : Builtin.bitOr (n : Int) (1 * 2 ^ ((k : Nat) : Int).toNat) = ((n ||| 2 ^ k : Nat) : Int) := by rw [shl1, lor_nat]
  show Q (.int (Builtin.bitOr (n : Int) (1 * 2 ^ ((k : Nat) : Int).toNat))) H
  rw [e]
  exact q

end
section
variable {P : Program} {w : World} {K : PySem.W.Frag} {mg : Str → Option Value} {base : Heap} {a : Adr} {d : Fds}
theorem ok_open_options (T : Txt K mg a d) : FnOk P w K mg base CX0 2 a.f_open_options d.f_open_options ["many", "yes", "no"] spOpen := by
  have G_has := ok_has (P := P) (w := w) (base := base) T
  refine T.K_open_options.ok sc_open_options (fun vs H Q E h => ?_) (fun cdv A outer s H vs Q E hr h => ?_)
  · obtain ⟨m, y, n, rfl, _⟩ := h
    rfl
  obtain ⟨m, y, n, rfl, m9, q⟩ := h
  have p62 : (2 : Int) ^ 62 = 4611686018427387904 := by decide
  refine ⟨_, (pss_one (ps_ret (pe_lc (sc0 := defScope s_open_options) (XN := ["many", "yes", "no"]) (N' := ["k", "yes", "no"]) (n := 1) (kp := [1, 2]) rfl (pi_range1 rfl T.m_range (pa_cons (pv 0) pa_nil)) rfl rfl (by decide +kernel) (fun _ _ _ _ _ => (pg_name (i := 0) (by show List.Nodup (["k", "yes", "no"] : List Str); decide +kernel) rfl (Or.inl rfl))) (fun _ _ _ _ _ => (pts_one (pt_not (pt_val (pe_callD G_has hr.lv rfl T.K_has (pa_cons (pe_op op_or (pv 1) (pv 2)) (pa_cons (pv 0) pa_nil))))))) (fun _ _ _ _ _ => (pv 0))))), ?_⟩
  refine ⟨_, rfl, _, rfl, by rw [p62]; omega, by rw [p62]; omega, ?_⟩
  rw [Int.toNat_natCast]
  refine lc_range0 (k := m) (fun i ys σ H2 => (∃ v, σ = [v, some (.int y), some (.int n)]) ∧ H2 = H ∧ i ≤ m ∧ ys = natsL ((List.range i).filter fun k => !(y ||| n).testBit k)) ⟨⟨none, rfl⟩, rfl, Nat.zero_le _, rfl⟩ (fun i ys σ H2 hi pv => ?_) (fun i ys σ H2 hi pv => ?_) (fun ys σ H2 pv fl hfl => ?_)
  · obtain ⟨_, _, h1, rfl⟩ := pv
    rw [List.length_map]
    refine small (Nat.le_trans (List.length_filter_le _ _) ?_)
    rw [List.length_range]
    omega
  · obtain ⟨⟨v0, rfl⟩, rfl, h1, rfl⟩ := pv
    refine ⟨_, rfl, _, rfl, _, _, rfl, rfl, _, rfl, _, _, rfl, _, rfl, ?_⟩
    have ee := filter_range_succ (fun k => !(y ||| n).testBit k) i
    rw [lor_nat, hasV_nat]
    refine ite2 (fun c2 => ?_) (fun c2 => ?_)
    · refine ⟨_, rfl, ⟨_, rfl⟩, rfl, hi, ?_⟩
      rw [ee, if_pos c2]
      show _ = List.map _ (_ ++ [i])
      rw [List.map_append]
      rfl
    · refine ⟨⟨_, rfl⟩, rfl, hi, ?_⟩
      rw [ee, if_neg c2, List.append_nil]
  obtain ⟨_, rfl, _, rfl⟩ := pv
  exact q fl _ (same_new hfl _) hfl upd_same

end
section
variable {P : Program} {w : World} {K : PySem.W.Frag} {mg : Str → Option Value} {base : Heap} {a : Adr} {d : Fds}
theorem ok_many_ties (T : Txt K mg a d) : FnOk P w K mg base CX0 1 a.f_many_ties d.f_many_ties ["wood"] spMany := by
  refine T.K_many_ties.ok sc_many_ties (fun vs H Q E h => ?_) (fun cdv A outer s H vs Q E hr h => ?_)
  · obtain ⟨wd, many, xs, ys, rfl, _⟩ := h
    rfl
  obtain ⟨wd, many, xs, ys, rfl, ⟨tb, tc, hw, hb, hc⟩, q⟩ := h
  refine ⟨_, (pss_one (ps_ret (pe_op op_add (pe_callB (lenS (K := K)) rfl T.m_len PySem.boot_len (pa_cons (pe_ix (ixT (K := K)) (pv 0) pe_int (fun _ _ => rfl)) pa_nil)) (pe_callB (lenS (K := K)) rfl T.m_len PySem.boot_len (pa_cons (pe_ix (ixT (K := K)) (pv 0) pe_int (fun _ _ => rfl)) pa_nil))))), ?_⟩
  exact ⟨_, rfl, wd, _, _, _, rfl, rfl, sqT hw, at1, tb, _, rfl, .inr (sqT hb), _, rfl, wd, _, _, _, rfl, rfl, sqT hw, at2, tc, _, rfl, .inr (sqT hc), _, _, rfl, rfl, q⟩

end
section
variable {P : Program} {w : World} {K : PySem.W.Frag} {mg : Str → Option Value} {base : Heap} {a : Adr} {d : Fds}
theorem ok_tie_at (T : Txt K mg a d) : FnOk P w K mg base CX0 1 a.f_tie_at d.f_tie_at ["wood", "t"] spTieAt := by
  refine T.K_tie_at.ok sc_tie_at (fun vs H Q E h => ?_) (fun cdv A outer s H vs Q E hr h => ?_)
  · obtain ⟨wd, many, xs, ys, t, v, rfl, _⟩ := h
    rfl
  obtain ⟨wd, many, xs, ys, t, v, rfl, ⟨tb, tc, hw, hb, hc⟩, hv, q⟩ := h
  refine ⟨_, (pss_cons (ps_set (i := 2) sc_tie_at.nd rfl (Or.inl rfl) (pe_ix (ixT (K := K)) (pv 0) pe_int (fun _ _ => rfl)))
      (pss_cons (ps_if (pt_cmpR op_lt (pv 1) (pe_callB (lenS (K := K)) rfl T.m_len PySem.boot_len (pa_cons (pv 2) pa_nil)) (nomark _)) (pss_one (ps_ret (pe_ix (ixT (K := K)) (pv 2) (pv 1) (fun _ _ => rfl)))) pss_nil)
      (pss_one (ps_ret (pe_ix (ixT (K := K)) (pe_ix (ixT (K := K)) (pv 0) pe_int (fun _ _ => rfl)) (pe_op op_sub (pv 1) (pe_callB (lenS (K := K)) rfl T.m_len PySem.boot_len (pa_cons (pv 2) pa_nil))) (fun _ _ => rfl)))))), ?_⟩
  refine ⟨_, rfl, wd, _, _, _, rfl, rfl, sqT hw, at1, ?_⟩
  refine ⟨_, rfl, _, rfl, tb, _, rfl, .inr (sqT hb), _, _, rfl, rfl, _, rfl, ?_⟩
  refine ite2 (fun c => ?_) (fun c => ?_)
  · have c' : (t : Int) < (xs.length : Nat) := of_decide_eq_true c
    rw [List.getElem?_append_left (by omega)] at hv
    exact ⟨_, rfl, _, rfl, tb, _, _, _, rfl, rfl, sqT hb, atI_nat hv, q⟩
  · have c' : ¬ (t : Int) < (xs.length : Nat) := of_decide_eq_false (Bool.eq_false_iff.mpr c)
    rw [List.getElem?_append_right (by omega)] at hv
    have e : ((t : Int) - ((xs.length : Nat) : Int)) = ((t - xs.length : Nat) : Int) := by omega
    refine ⟨_, rfl, wd, _, _, _, rfl, rfl, sqT hw, at2, _, rfl, _, rfl, tb, _, rfl, .inr (sqT hb), _, _, rfl, rfl, tc, _, _, _, rfl, rfl, sqT hc, ?_, q⟩
    show atI ys ((t : Int) - ((xs.length : Nat) : Int)) = some v
    rw [e]
    exact atI_nat hv

end
section
variable {P : Program} {w : World} {K : PySem.W.Frag} {mg : Str → Option Value} {base : Heap} {a : Adr} {d : Fds}
def spCount : Sp := fun vs H Q _ => ∃ (p : Addr) (ks : List Nat) (n : Nat), vs = [.ref p, .int n] ∧ H p = some (.tup (ks.map fun k : Nat => V.int (k : Int))) ∧ ks.length ≤ 1000 ∧ ∀ H', Same H H' → Q (.int (cnt ks n : Nat)) H'
theorem ok_count_in (T : Txt K mg a d) : FnOk P w K mg base CX0 2 a.f_count_in d.f_count_in ["kids", "some"] spCount := by
  have G_has := ok_has (P := P) (w := w) (base := base) T
  refine T.K_count_in.ok sc_count_in (fun vs H Q E h => ?_) (fun cdv A outer s H vs Q E hr h => ?_)
  · obtain ⟨p, ks, n, rfl, _⟩ := h
    rfl
  obtain ⟨p, ks, n, rfl, hp, hk, q⟩ := h
  refine ⟨_, (pss_one (ps_ret (pe_callB (lenS (K := K)) rfl T.m_len PySem.boot_len (pa_cons (pe_lc (sc0 := defScope s_count_in) (XN := ["kids", "some"]) (N' := ["k", "some"]) (n := 1) (kp := [1]) rfl (piT (K := K) (pv 0)) rfl rfl (by decide +kernel) (fun _ _ _ _ _ => (pg_name (i := 0) (by show List.Nodup (["k", "some"] : List Str); decide +kernel) rfl (Or.inl rfl))) (fun _ _ _ _ _ => (pts_one (pt_val (pe_callD G_has hr.lv rfl T.K_has (pa_cons (pv 1) (pa_cons (pv 0) pa_nil)))))) (fun _ _ _ _ _ => (pv 0))) pa_nil)))), ?_⟩
  refine ⟨_, rfl, p, rfl, ⟨_, sqT hp⟩, ?_⟩
  refine lc_tup (K := K) (a := p) (xs := ks.map fun k : Nat => V.int (k : Int)) (fun i ys σ H2 => (∃ v, σ = [v, some (.int n)]) ∧ H2 = H ∧ i ≤ ks.length ∧ ys = ((ks.take i).filter fun k => n.testBit k).map fun k : Nat => V.int (k : Int)) ⟨⟨none, rfl⟩, rfl, Nat.zero_le _, rfl⟩ (fun i ys σ H2 hi pv => ?_) (fun i ys σ H2 hi pv => ?_) (fun i x ys σ H2 hx pv => ?_) (fun ys σ H2 pv l hl => ?_)
  · obtain ⟨_, _, h1, rfl⟩ := pv
    rw [List.length_map]
    refine small (Nat.le_trans (List.length_filter_le _ _) ?_)
    rw [List.length_take]
    omega
  · rw [pv.2.1]
    exact sqT hp
  · obtain ⟨⟨v, rfl⟩, rfl, h1, rfl⟩ := pv
    rw [List.getElem?_map] at hx
    obtain ⟨k, hk', rfl⟩ := Option.map_eq_some_iff.mp hx
    have hj : i < ks.length := (List.getElem?_eq_some_iff.mp hk').1
    have ee := PySem.take_succ_filter (fun k => n.testBit k) ks i k hk'
    refine ⟨_, rfl, _, rfl, _, _, rfl, _, rfl, ?_⟩
    rw [hasV_nat]
    refine ite2 (fun c => ?_) (fun c => ?_)
    · refine ⟨_, rfl, ⟨_, rfl⟩, rfl, hj, ?_⟩
      rw [ee, if_pos c, List.map_append]
      rfl
    · refine ⟨⟨_, rfl⟩, rfl, hj, ?_⟩
      rw [ee, if_neg c, List.append_nil]
  · obtain ⟨_, rfl, _, rfl⟩ := pv
    have fin : ∀ L : List V, L.length = cnt ks n → ∀ H', Same H2 H' → Q (.int (L.length : Nat)) H' := fun L e H' sm => by
      rw [e]
      exact q H' sm
    exact ⟨l, _, rfl, .inl (SqL.of upd_same), fin _ (by simp [cnt]) _ (same_new hl _)⟩

end
section
variable {P : Program} {w : World} {K : PySem.W.Frag} {mg : Str → Option Value} {base : Heap} {a : Adr} {d : Fds}
theorem ok_every_tie (T : Txt K mg a d) : FnOk P w K mg base CX0 2 a.f_every_tie d.f_every_tie ["wood"] spEvery := by
  have G_many_ties := ok_many_ties (P := P) (w := w) (base := base) T
  refine T.K_every_tie.ok sc_every_tie (fun vs H Q E h => ?_) (fun cdv A outer s H vs Q E hr h => ?_)
  · obtain ⟨wd, m, ts, rfl, _⟩ := h
    rfl
  obtain ⟨wd, m, ts, rfl, W, q⟩ := h
  have p62 : (2 : Int) ^ 62 = 4611686018427387904 := by decide
  obtain ⟨xs, ys, WA, dn⟩ := W.ex
  have few := W.few
  have ln : ts.length = xs.length + ys.length := by
    have := dn.length
    rw [List.length_map, List.length_append] at this
    exact this
  refine ⟨_, (pss_one (ps_ret (pe_callTy (call_list_rng rfl) rfl T.m_list PyProof.Rows.boot_list (pa_cons (pe_callTy call_rng1 rfl T.m_range PyProof.Rows.boot_range (pa_cons (pe_callD G_many_ties hr.lv rfl T.K_many_ties (pa_cons (pv 0) pa_nil)) pa_nil)) pa_nil)))), ?_⟩
  refine ⟨_, rfl, wd, m, xs, ys, rfl, WA, _, rfl, fun rp hrp => ?_⟩
  refine ⟨rp, 0, _, rfl, upd_same, by rw [p62]; omega, by rw [p62]; omega, by rw [p62]; omega, by rw [p62]; omega, by omega, fun l hl => ?_⟩
  have e : ((List.range' 0 ((xs.length : Int) + (ys.length : Int) - 0).toNat).map fun i : Nat => V.int (0 + (i : Int))) = (List.range ts.length).map fun i : Nat => V.int (i : Int) := by
    have e1 : ((xs.length : Int) + (ys.length : Int) - 0).toNat = ts.length := by omega
    rw [e1, List.range_eq_range']
    simp
  rw [e]
  have s1 := (same_new hrp (.rng 0 ((xs.length : Int) + (ys.length : Int)))).trans (same_new hl (.lst ((List.range ts.length).map fun i : Nat => V.int (i : Int))))
  exact q l _ s1 ((same_new hrp (.rng 0 ((xs.length : Int) + (ys.length : Int)))).free hl) upd_same

end
section
variable {P : Program} {w : World} {K : PySem.W.Frag} {mg : Str → Option Value} {base : Heap} {a : Adr} {d : Fds}
theorem ok_sure_broken_bough (T : Txt K mg a d) : FnOk P w K mg base CX0 3 a.f_sure_broken_bough d.f_sure_broken_bough ["bough", "yes", "no"] (spTie3B Tie.sb) := by
  have G_has := ok_has (P := P) (w := w) (base := base) T
  have G_count_in := ok_count_in (P := P) (w := w) (base := base) T
  refine T.K_sure_broken_bough.ok sc_sure_broken_bough (fun vs H Q E h => ?_) (fun cdv A outer s H vs Q E hr h => ?_)
  · obtain ⟨u, lo, hi, ks, m, y, n, v, rfl, _⟩ := h
    rfl
  obtain ⟨u, lo, hi, ks, m, y, n, v, rfl, hd, ok, hm, q⟩ := h
  obtain ⟨p, pk, rfl, hp, hpk⟩ := at_bough hd
  have few := ok.few
  have rest4 : ∃ t, PSs (cxOf CX0 P w K mg base ["bough", "yes", "no", "least", "greatest", "some_with_up", "some_without_up"] "sure_broken_bough" (defScope s_sure_broken_bough) a.f_sure_broken_bough cdv A outer s H E).nox ((defBody s_sure_broken_bough).drop 4) t ∧ ∀ (v3 v4 : Option V) (b5 b6 : Bool) (H1 : Hp), Same H H1 → (!b5 && !b6) = (Tie.bough u lo hi ks).sb y n → t { nx := fun _ H' => Q .non H', rt := Q } [some (.ref p), some (.int y), some (.int n), v3, v4, some (.bl b5), some (.bl b6)] H1 := by
    refine ⟨_, (pss_one (ps_ret (pe_and (pe_not (pv 5)) (pe_one (pe_not (pv 6)))))), ?_⟩
    intro v3 v4 b5 b6 H1 s1 e
    have q1 := q H1 s1
    rw [← e] at q1
    refine ⟨_, rfl, _, rfl, _, rfl, ?_⟩
    refine ite2 (fun c => ?_) (fun c => ?_)
    · rw [c, Bool.true_and] at q1
      exact ⟨_, rfl, _, rfl, q1⟩
    · rw [Bool.eq_false_iff.mpr c, Bool.false_and] at q1
      exact q1
  obtain ⟨t4, h4, r4⟩ := rest4
  have rest3 : ∃ t, PSs (cxOf CX0 P w K mg base ["bough", "yes", "no", "least", "greatest", "some_with_up", "some_without_up"] "sure_broken_bough" (defScope s_sure_broken_bough) a.f_sure_broken_bough cdv A outer s H E).nox ((defBody s_sure_broken_bough).drop 3) t ∧ ∀ (g : Int) (b5 : Bool) (H1 : Hp), Same H H1 → g = (ks.length : Int) - cnt ks n → b5 = (!n.testBit u && (decide ((cnt ks y : Int) ≤ hi) && decide (lo ≤ g))) → t { nx := fun _ H' => Q .non H', rt := Q } [some (.ref p), some (.int y), some (.int n), some (.int (cnt ks y : Nat)), some (.int g), some (.bl b5), none] H1 := by
    refine ⟨_, (pss_cons (ps_set (i := 6) sc_sure_broken_bough.nd rfl (Or.inl rfl) (pe_and (pe_not (pe_callD G_has hr.lv rfl T.K_has (pa_cons (pv 1) (pa_cons (pe_ix (ixT (K := K)) (pv 0) pe_int (fun _ _ => rfl)) pa_nil)))) (pe_one (pe_cmpR op_eq (pv 3) pe_int (nomark _)))))
      h4), ?_⟩
    intro g b5 H1 s1 eg e5
    have hp1 := s1 _ _ hp
    refine ⟨_, rfl, _, rfl, p, _, _, _, rfl, rfl, sqT hp1, at0, _, _, rfl, _, rfl, _, rfl, ?_⟩
    rw [hasV_nat]
    refine ite2 (fun c => ?_) (fun c => ?_)
    · refine ⟨_, rfl, rfl, ?_⟩
      refine r4 _ _ _ _ _ s1 ?_
      rw [e5, eg, dec_cnt0]
      show _ = (!_ && !(!y.testBit u && decide (cnt ks y = 0)))
      rw [c, Bool.true_and]
    · refine r4 _ _ _ _ _ s1 ?_
      rw [e5, eg]
      show _ = (!_ && !(!y.testBit u && decide (cnt ks y = 0)))
      rw [Bool.eq_false_iff.mpr c, Bool.false_and]
  obtain ⟨t3, h3, r3⟩ := rest3
  have rest2 : ∃ t, PSs (cxOf CX0 P w K mg base ["bough", "yes", "no", "least", "greatest", "some_with_up", "some_without_up"] "sure_broken_bough" (defScope s_sure_broken_bough) a.f_sure_broken_bough cdv A outer s H E).nox ((defBody s_sure_broken_bough).drop 2) t ∧ ∀ (g : Int) (H1 : Hp), Same H H1 → g = (ks.length : Int) - cnt ks n → t { nx := fun _ H' => Q .non H', rt := Q } [some (.ref p), some (.int y), some (.int n), some (.int (cnt ks y : Nat)), some (.int g), none, none] H1 := by
    refine ⟨_, (pss_cons (ps_set (i := 5) sc_sure_broken_bough.nd rfl (Or.inl rfl) (pe_and (pe_not (pe_callD G_has hr.lv rfl T.K_has (pa_cons (pv 2) (pa_cons (pe_ix (ixT (K := K)) (pv 0) pe_int (fun _ _ => rfl)) pa_nil)))) (pe_and (pe_cmpR op_le (pv 3) (pe_ix (ixT (K := K)) (pv 0) pe_int (fun _ _ => rfl)) (nomark _)) (pe_one (pe_cmpR op_le (pe_ix (ixT (K := K)) (pv 0) pe_int (fun _ _ => rfl)) (pv 4) (nomark _))))))
      h3), ?_⟩
    intro g H1 s1 eg
    have hp1 := s1 _ _ hp
    refine ⟨_, rfl, _, rfl, p, _, _, _, rfl, rfl, sqT hp1, at0, _, _, rfl, _, rfl, _, rfl, ?_⟩
    rw [hasV_nat]
    refine ite2 (fun c => ?_) (fun c => ?_)
    · refine ⟨_, rfl, _, rfl, p, _, _, _, rfl, rfl, sqT hp1, at2, _, _, rfl, rfl, _, rfl, ?_⟩
      refine ite2 (fun c2 => ?_) (fun c2 => ?_)
      · refine ⟨_, rfl, p, _, _, _, rfl, rfl, sqT hp1, at1, _, rfl, _, _, rfl, rfl, ?_⟩
        exact r3 _ _ _ s1 eg (by rw [c, Bool.true_and, c2, Bool.true_and])
      · exact r3 _ _ _ s1 eg (by rw [c, Bool.true_and, Bool.eq_false_iff.mpr c2, Bool.false_and])
    · exact r3 _ _ _ s1 eg (by rw [Bool.eq_false_iff.mpr c, Bool.false_and])
  obtain ⟨t2, h2, r2⟩ := rest2
  refine ⟨_, (pss_cons (ps_set (i := 3) sc_sure_broken_bough.nd rfl (Or.inl rfl) (pe_callD G_count_in hr.lv rfl T.K_count_in (pa_cons (pe_ix (ixT (K := K)) (pv 0) pe_int (fun _ _ => rfl)) (pa_cons (pv 1) pa_nil))))
      (pss_cons (ps_set (i := 4) sc_sure_broken_bough.nd rfl (Or.inl rfl) (pe_op op_sub (pe_callB (lenS (K := K)) rfl T.m_len PySem.boot_len (pa_cons (pe_ix (ixT (K := K)) (pv 0) pe_int (fun _ _ => rfl)) pa_nil)) (pe_callD G_count_in hr.lv rfl T.K_count_in (pa_cons (pe_ix (ixT (K := K)) (pv 0) pe_int (fun _ _ => rfl)) (pa_cons (pv 2) pa_nil)))))
      h2)), ?_⟩
  refine ⟨_, rfl, p, _, _, _, rfl, rfl, sqT hp, at3, _, rfl, pk, ks, y, rfl, hpk, by omega, fun H1 s1 => ?_⟩
  have hp1 := s1 _ _ hp
  have hpk1 := s1 _ _ hpk
  refine ⟨_, rfl, p, _, _, _, rfl, rfl, sqT hp1, at3, pk, _, rfl, .inr (sqT hpk1), ?_⟩
  refine ⟨_, rfl, p, _, _, _, rfl, rfl, sqT hp1, at3, _, rfl, pk, ks, n, rfl, hpk1, by omega, fun H2 s2 => ?_⟩
  refine ⟨_, _, rfl, rfl, ?_⟩
  exact r2 _ _ (s1.trans s2) (by rw [List.length_map])

end
section
variable {P : Program} {w : World} {K : PySem.W.Frag} {mg : Str → Option Value} {base : Heap} {a : Adr} {d : Fds}
theorem ok_least_sumA (T : Txt K mg a d) : FnOk P w K mg base CX0 2 a.f_least_sum d.f_least_sum ["pairs", "yes", "no"] (spSumA leastSum) := by
  have G_has := ok_has (P := P) (w := w) (base := base) T
  refine T.K_least_sum.ok sc_least_sum (fun vs H Q E h => ?_) (fun cdv A outer s H vs Q E hr h => ?_)
  · obtain ⟨pq, xs, ps, y, n, rfl, _⟩ := h
    rfl
  obtain ⟨pq, xs, ps, y, n, rfl, hq, hps, few, q⟩ := h
  have lx : xs.length = ps.length := by rw [← hps.length, List.length_map]
  refine ⟨_, (pss_one (ps_ret (pe_callB (call_sum_ints rfl) rfl T.m_sum PyProof.Rows.boot_sum (pa_cons (pe_lc (sc0 := defScope s_least_sum) (XN := ["pairs", "yes", "no"]) (N' := ["k", "number", "yes", "no"]) (n := 2) (kp := [1, 2]) rfl (pi_seq (pv 0)) rfl rfl (by decide +kernel) (fun _ _ _ _ _ => (pgT (K := K) (n := 2) rfl (pgs_cons (pg_name (i := 0) (by show List.Nodup (["k", "number", "yes", "no"] : List Str); decide +kernel) rfl (Or.inl rfl)) (pgs_cons (pg_name (i := 1) (by show List.Nodup (["k", "number", "yes", "no"] : List Str); decide +kernel) rfl (Or.inl rfl)) pgs_nil)))) (fun _ _ _ _ _ => (pts_one (PW.pt (pw_or (pt_val (pe_callD G_has hr.lv rfl T.K_has (pa_cons (pv 2) (pa_cons (pv 0) pa_nil)))) (pw_or1 (PW.pt (pw_and (pt_cmpR op_lt (pv 1) pe_int (nomark _)) (pw_and1 (pt_not (pt_val (pe_callD G_has hr.lv rfl T.K_has (pa_cons (pv 3) (pa_cons (pv 0) pa_nil))))))))))))) (fun _ _ _ _ _ => (pv 1))) pa_nil)))), ?_⟩
  refine ⟨_, rfl, pq, rfl, ?_⟩
  refine lc_seq (K := K) (a := pq) (xs := xs) hq (fun i ys σ H2 => (∃ v v', σ = [v, v', some (.int y), some (.int n)]) ∧ H2 = H ∧ i ≤ ps.length ∧ ys = (((ps.take i).filter fun p => y.testBit p.1 || (decide (p.2 < 0) && !n.testBit p.1)).map (·.2)).map V.int) ⟨⟨none, none, rfl⟩, rfl, Nat.zero_le _, rfl⟩ (fun i ys σ H2 hi pv => ?_) (fun i ys σ H2 hi pv => ?_) (fun i x ys σ H2 hx pv => ?_) (fun ys σ H2 pv l hl => ?_)
  · obtain ⟨_, _, h1, rfl⟩ := pv
    rw [List.length_map, List.length_map]
    refine small (Nat.le_trans (List.length_filter_le _ _) ?_)
    rw [List.length_take]
    omega
  · rw [pv.2.1]
  · obtain ⟨⟨v, v', rfl⟩, rfl, h1, rfl⟩ := pv
    obtain ⟨pr, r, hpr, rfl, hr'⟩ := at_pair hps hx
    have hj : i < ps.length := (List.getElem?_eq_some_iff.mp hpr).1
    have ee := PySem.take_succ_filter (fun p : Nat × Int => y.testBit p.1 || (decide (p.2 < 0) && !n.testBit p.1)) ps i pr hpr
    have yes : (y.testBit pr.1 || (decide (pr.2 < 0) && !n.testBit pr.1)) = true → ((((ps.take i).filter fun p => y.testBit p.1 || (decide (p.2 < 0) && !n.testBit p.1)).map (·.2)).map V.int) ++ [V.int pr.2] = (((ps.take (i + 1)).filter fun p => y.testBit p.1 || (decide (p.2 < 0) && !n.testBit p.1)).map (·.2)).map V.int := fun c => by
      rw [ee, if_pos c, List.map_append, List.map_append]
      rfl
    have noo : (y.testBit pr.1 || (decide (pr.2 < 0) && !n.testBit pr.1)) = false → ((((ps.take i).filter fun p => y.testBit p.1 || (decide (p.2 < 0) && !n.testBit p.1)).map (·.2)).map V.int) = (((ps.take (i + 1)).filter fun p => y.testBit p.1 || (decide (p.2 < 0) && !n.testBit p.1)).map (·.2)).map V.int := fun c => by
      rw [ee, if_neg (by rw [c]; exact Bool.false_ne_true), List.append_nil]
    refine ⟨r, _, rfl, sqT hr', rfl, _, _, rfl, _, _, rfl, rfl, ?_⟩
    refine ⟨_, rfl, _, rfl, _, _, rfl, _, rfl, ?_⟩
    rw [hasV_nat]
    refine ite2 (fun c => ?_) (fun c => ?_)
    · refine iteT ?_
      exact ⟨_, rfl, ⟨_, _, rfl⟩, rfl, hj, yes (by rw [c, Bool.true_or])⟩
    · have c' := Bool.eq_false_iff.mpr c
      refine ⟨_, rfl, _, _, rfl, rfl, _, rfl, ?_⟩
      refine ite2 (fun c2 => ?_) (fun c2 => ?_)
      · refine ⟨_, rfl, _, rfl, _, _, rfl, _, rfl, ?_⟩
        rw [hasV_nat]
        refine ite2 (fun c3 => ?_) (fun c3 => ?_)
        · exact ⟨_, rfl, ⟨_, _, rfl⟩, rfl, hj, yes (by rw [c', Bool.false_or, c2, Bool.true_and, c3])⟩
        · exact ⟨⟨_, _, rfl⟩, rfl, hj, noo (by rw [c', Bool.false_or, c2, Bool.true_and, Bool.eq_false_iff.mpr c3])⟩
      · refine iteF ?_
        exact ⟨⟨_, _, rfl⟩, rfl, hj, noo (by rw [c', Bool.false_or, Bool.eq_false_iff.mpr c2, Bool.false_and])⟩
  · obtain ⟨_, rfl, _, rfl⟩ := pv
    refine ⟨l, _, rfl, SqL.of upd_same, ?_⟩
    have q1 := q _ (same_new hl (.lst ((((ps.take xs.length).filter fun p => y.testBit p.1 || (decide (p.2 < 0) && !n.testBit p.1)).map (·.2)).map V.int)))
    have e : leastSum ps y n = (((ps.take xs.length).filter fun p => y.testBit p.1 || (decide (p.2 < 0) && !n.testBit p.1)).map (·.2)).sum := by
      rw [lx, List.take_length]
      rfl
    rw [e] at q1
    exact q1
theorem ok_least_sum (T : Txt K mg a d) : FnOk P w K mg base CX0 2 a.f_least_sum d.f_least_sum ["pairs", "yes", "no"] (spSum leastSum) := (ok_least_sumA T).imp fun _ _ _ _ => spSumA_of

end
section
variable {P : Program} {w : World} {K : PySem.W.Frag} {mg : Str → Option Value} {base : Heap} {a : Adr} {d : Fds}
theorem ok_sure_broken (T : Txt K mg a d) : FnOk P w K mg base CX0 4 a.f_sure_broken d.f_sure_broken ["tie", "yes", "no"] (spTie3 Tie.sb) := by
  have G_has := ok_has (P := P) (w := w) (base := base) T
  have G_least_sum := ok_least_sum (P := P) (w := w) (base := base) T
  have G_sure_broken_bough := ok_sure_broken_bough (P := P) (w := w) (base := base) T
  refine T.K_sure_broken.ok sc_sure_broken (fun vs H Q E h => ?_) (fun cdv A outer s H vs Q E hr h => ?_)
  · obtain ⟨t, m, y, n, v, rfl, _⟩ := h
    rfl
  obtain ⟨t, m, y, n, v, rfl, hd, ok, hm, q⟩ := h
  have q0 := q H (Same.refl H)
  refine ⟨_, (pss_cons (ps_if (pt_cmpR op_eq (pe_ix (ixT (K := K)) (pv 0) pe_int (fun _ _ => rfl)) pe_str (nomark _)) (pss_one (ps_ret (pe_and (pe_callD G_has hr.lv rfl T.K_has (pa_cons (pv 1) (pa_cons (pe_ix (ixT (K := K)) (pv 0) pe_int (fun _ _ => rfl)) pa_nil))) (pe_one (pe_callD G_has hr.lv rfl T.K_has (pa_cons (pv 2) (pa_cons (pe_ix (ixT (K := K)) (pv 0) pe_int (fun _ _ => rfl)) pa_nil))))))) pss_nil)
      (pss_cons (ps_if (pt_cmpR op_eq (pe_ix (ixT (K := K)) (pv 0) pe_int (fun _ _ => rfl)) pe_str (nomark _)) (pss_one (ps_ret (pe_and (pe_callD G_has hr.lv rfl T.K_has (pa_cons (pv 1) (pa_cons (pe_ix (ixT (K := K)) (pv 0) pe_int (fun _ _ => rfl)) pa_nil))) (pe_one (pe_callD G_has hr.lv rfl T.K_has (pa_cons (pv 1) (pa_cons (pe_ix (ixT (K := K)) (pv 0) pe_int (fun _ _ => rfl)) pa_nil))))))) pss_nil)
      (pss_cons (ps_if (pt_cmpR op_eq (pe_ix (ixT (K := K)) (pv 0) pe_int (fun _ _ => rfl)) pe_str (nomark _)) (pss_one (ps_ret (pe_cmpR op_gt (pe_callD G_least_sum hr.lv rfl T.K_least_sum (pa_cons (pe_ix (ixT (K := K)) (pv 0) pe_int (fun _ _ => rfl)) (pa_cons (pv 1) (pa_cons (pv 2) pa_nil)))) (pe_ix (ixT (K := K)) (pv 0) pe_int (fun _ _ => rfl)) (nomark _)))) pss_nil)
      (pss_one (ps_ret (pe_callD G_sure_broken_bough hr.lv rfl T.K_sure_broken_bough (pa_cons (pv 0) (pa_cons (pv 1) (pa_cons (pv 2) pa_nil))))))))), ?_⟩
  cases t with
  | needs x z =>
    obtain ⟨p, rfl, hp⟩ := at_word hd
    refine ⟨_, rfl, p, _, _, _, rfl, rfl, sqT hp, at0, rfl, _, rfl, ?_⟩
    refine iteD rfl ?_
    refine ⟨_, rfl, _, rfl, p, _, _, _, rfl, rfl, sqT hp, at1, _, _, rfl, _, rfl, ?_⟩
    rw [hasV_nat]
    have q1 : Q (.bl (y.testBit x && n.testBit z)) H := q0
    refine ite2 (fun c => ?_) (fun c => ?_)
    · rw [c, Bool.true_and] at q1
      refine ⟨_, rfl, _, rfl, p, _, _, _, rfl, rfl, sqT hp, at2, _, _, rfl, ?_⟩
      rw [hasV_nat]
      exact q1
    · rw [Bool.eq_false_iff.mpr c, Bool.false_and] at q1
      exact q1
  | bans x z =>
    obtain ⟨p, rfl, hp⟩ := at_word hd
    refine ⟨_, rfl, p, _, _, _, rfl, rfl, sqT hp, at0, rfl, _, rfl, ?_⟩
    refine iteDN bans_needs ?_
    refine ⟨_, rfl, p, _, _, _, rfl, rfl, sqT hp, at0, rfl, _, rfl, ?_⟩
    refine iteD rfl ?_
    refine ⟨_, rfl, _, rfl, p, _, _, _, rfl, rfl, sqT hp, at1, _, _, rfl, _, rfl, ?_⟩
    rw [hasV_nat]
    have q1 : Q (.bl (y.testBit x && y.testBit z)) H := q0
    refine ite2 (fun c => ?_) (fun c => ?_)
    · rw [c, Bool.true_and] at q1
      refine ⟨_, rfl, _, rfl, p, _, _, _, rfl, rfl, sqT hp, at2, _, _, rfl, ?_⟩
      rw [hasV_nat]
      exact q1
    · rw [Bool.eq_false_iff.mpr c, Bool.false_and] at q1
      exact q1
  | most top ps =>
    obtain ⟨p, pq, xs, rfl, hp, hq, hps⟩ := at_most hd
    have few : ps.length ≤ m := ok.2.2.2
    refine ⟨_, rfl, p, _, _, _, rfl, rfl, sqT hp, at0, rfl, _, rfl, ?_⟩
    refine iteDN most_needs ?_
    refine ⟨_, rfl, p, _, _, _, rfl, rfl, sqT hp, at0, rfl, _, rfl, ?_⟩
    refine iteDN most_bans ?_
    refine ⟨_, rfl, p, _, _, _, rfl, rfl, sqT hp, at0, rfl, _, rfl, ?_⟩
    refine iteD rfl ?_
    refine ⟨_, rfl, p, _, _, _, rfl, rfl, sqT hp, at2, _, rfl, _, rfl, pq, xs, ps, y, n, rfl, hq, hps, by omega, fun H1 s1 => ?_⟩
    exact ⟨_, rfl, p, _, _, _, rfl, rfl, sqT (s1 _ _ hp), at1, _, _, rfl, rfl, q H1 s1⟩
  | bough u lo hi ks =>
    obtain ⟨p, pk, e, hp, hpk⟩ := at_bough hd
    subst e
    refine ⟨_, rfl, p, _, _, _, rfl, rfl, sqT hp, at0, rfl, _, rfl, ?_⟩
    refine iteDN int_str ?_
    refine ⟨_, rfl, p, _, _, _, rfl, rfl, sqT hp, at0, rfl, _, rfl, ?_⟩
    refine iteDN int_str ?_
    refine ⟨_, rfl, p, _, _, _, rfl, rfl, sqT hp, at0, rfl, _, rfl, ?_⟩
    refine iteDN int_str ?_
    exact ⟨_, rfl, _, rfl, _, rfl, u, lo, hi, ks, m, y, n, _, rfl, hd, ok, hm, q⟩

end
section
variable {P : Program} {w : World} {K : PySem.W.Frag} {mg : Str → Option Value} {base : Heap} {a : Adr} {d : Fds}
theorem ok_first_sure_broken (T : Txt K mg a d) : FnOk P w K mg base CX0 5 a.f_first_sure_broken d.f_first_sure_broken ["wood", "ties", "yes", "no"] spFirstSB := by
  have G_tie_at := ok_tie_at (P := P) (w := w) (base := base) T
  have G_sure_broken := ok_sure_broken (P := P) (w := w) (base := base) T
  refine T.K_first_sure_broken.ok sc_first_sure_broken (fun vs H Q E h => ?_) (fun cdv A outer s H vs Q E hr h => ?_)
  · obtain ⟨wd, m, ts, tl, il, y, n, rfl, _⟩ := h
    rfl
  obtain ⟨wd, m, ts, tl, il, y, n, rfl, W, htl, ilt, q⟩ := h
  have m9 := W.m9
  refine ⟨_, (pss_cons (ps_for PassesOwn.never rfl (piL (K := K) (pv 1)) (pg_name (i := 4) sc_first_sure_broken.nd rfl (Or.inl rfl)) (pss_one (ps_if (pt_val (pe_callD G_sure_broken hr.lv rfl T.K_sure_broken (pa_cons (pe_callD G_tie_at hr.lv rfl T.K_tie_at (pa_cons (pv 0) (pa_cons (pv 4) pa_nil))) (pa_cons (pv 2) (pa_cons (pv 3) pa_nil))))) (pss_one (ps_ret (pv 4))) pss_nil)))
      (pss_one (ps_ret pe_non))), ?_⟩
  refine ⟨_, rfl, tl, rfl, ⟨_, SqL.of htl⟩, ?_⟩
  refine for_list (K := K) (a := tl) (xs := natsL il) (fun i σ H2 => (∃ v, σ = [some (.ref wd), some (.ref tl), some (.int y), some (.int n), v]) ∧ Same H H2 ∧ (il.take i).find? (fun i => sbAt ts i y n) = none) ⟨⟨_, rfl⟩, Same.refl _, rfl⟩ (fun i σ H2 _ z => SqL.of (z.2.1 _ _ htl)) ?_ ?_
  · rintro i x σ H2 hx ⟨⟨v, rfl⟩, s2, hb⟩
    rw [List.getElem?_map] at hx
    obtain ⟨t, ht, rfl⟩ := Option.map_eq_some_iff.mp hx
    have htl' := ilt t (List.mem_of_getElem? ht)
    have W2 := W.same s2
    obtain ⟨xs, ys, WA, dn⟩ := W2.ex
    have hts : ts[t]? = some ts[t] := List.getElem?_eq_getElem htl'
    obtain ⟨v2, hv2, hd⟩ := DnL.get' dn (i := t) (d := ts[t].toD) (by rw [List.getElem?_map, hts]; rfl)
    have esb : sbAt ts t y n = ts[t].sb y n := by unfold sbAt; rw [hts]
    refine ⟨_, rfl, _, rfl, wd, m, xs, ys, t, v2, rfl, WA, hv2, ?_⟩
    refine ⟨_, rfl, _, rfl, ts[t], m, y, n, v2, rfl, hd, W.ok _ (List.getElem_mem htl'), by omega, fun H3 s3 => ?_⟩
    refine ⟨_, rfl, ?_⟩
    refine ite2 (fun c => ?_) (fun c => ?_)
    · have q1 := q H3 (s2.trans s3)
      have e : firstSB ts il y n = some t := by
        unfold firstSB
        have el : il = il.take i ++ t :: il.drop (i + 1) := by
          obtain ⟨hi, e⟩ := List.getElem?_eq_some_iff.mp ht
          rw [← e, List.getElem_cons_drop, List.take_append_drop]
        rw [el, List.find?_append, hb]
        simp [esb, c]
      rw [e] at q1
      exact ⟨_, rfl, q1⟩
    · refine ⟨⟨_, rfl⟩, s2.trans s3, ?_⟩
      rw [List.take_add_one, ht, Option.toList_some, List.find?_append, hb]
      simp [esb, c]
  · rintro σ H2 ⟨⟨v, rfl⟩, s2, hb⟩
    have q1 := q H2 s2
    rw [List.length_map, List.take_length] at hb
    have e : firstSB ts il y n = none := hb
    rw [e] at q1
    exact q1

end
section
variable {P : Program} {w : World} {K : PySem.W.Frag} {mg : Str → Option Value} {base : Heap} {a : Adr} {d : Fds}
theorem told_step (T : Txt K mg a d) (f : Nat) {p : Addr} {C : Hp → Prop} {m : Nat} {leaf : Nat → Nat → Option PyData} {fdL : FuncData} {pl : List Str} {φ : Heap → Prop}
    (L_leaf_at : FnOk P w K mg base CX0 7 p fdL pl (spLf C leaf)) (LB_leaf_at : Binds K fdL pl []) (LP_leaf_at : ∀ h : Heap, φ h → ∃ o fd', h.get? p = some o ∧ o.data = .func fd') (hC : ∀ H H', Same H H' → C H → C H') (hCp : ∀ H, C H → H p = some (.ext φ))
    (G_told_tree : f ≠ 0 → FnOk P w K mg base CX0 (f + 7) a.f_told_tree d.f_told_tree ["wood", "ties", "yes", "no", "leaf_at"] (spToldF (f - 1) p C m leaf)) : FnOk P w K mg base CX0 (f + 8) a.f_told_tree d.f_told_tree ["wood", "ties", "yes", "no", "leaf_at"] (spToldF f p C m leaf) := by
  have G_first_sure_broken := ok_first_sure_broken (P := P) (w := w) (base := base) T
  have G_open_options := ok_open_options (P := P) (w := w) (base := base) T
  have G_with_option := ok_with_option (P := P) (w := w) (base := base) T
  refine T.K_told_tree.ok sc_told_tree (fun vs H Q E h => ?_) (fun cdv A outer s H vs Q E hr h => ?_)
  · obtain ⟨wd, ts, tl, il, y, n, rfl, _⟩ := h
    rfl
  obtain ⟨wd, ts, tl, il, y, n, rfl, W, htl, ilt, hf, c0, ends, q⟩ := h
  have m9 := W.m9
  obtain ⟨R, r0, rs, re⟩ := ends
  have rest : ∃ t, PSs (cxOf CX0 P w K mg base ["wood", "ties", "yes", "no", "leaf_at", "broken", "leaf", "k", "one", "other"] "told_tree" (defScope s_told_tree) a.f_told_tree cdv A outer s H E).nox ((defBody s_told_tree).drop 5) t ∧ (∀ (k : Nat) (r : List Nat) (v5 v6 : Option V) (H1 : Hp), Same H H1 → openL m y n = k :: r → firstSB ts il y n = none → leaf y n = none → t { nx := fun _ H' => Q .non H', rt := Q } [some (.ref wd), some (.ref tl), some (.int y), some (.int n), some (.ref p), v5, v6, some (.int (k : Int)), none, none] H1) := by
    by_cases hf0 : f = 0
    · refine ⟨tNever, pss_never, ?_⟩
      intro k r v5 v6 H1 s1 ho hb
      rw [ho, hf0] at hf
      simp at hf
    · have G_told_tree := G_told_tree hf0
      refine ⟨_, (pss_cons (ps_set (i := 8) sc_told_tree.nd rfl (Or.inl rfl) (pe_callD G_told_tree hr.lv rfl T.K_told_tree (pa_cons (pv 0) (pa_cons (pv 1) (pa_cons (pe_callD G_with_option hr.lv rfl T.K_with_option (pa_cons (pv 2) (pa_cons (pv 7) pa_nil))) (pa_cons (pv 3) (pa_cons (pv 4) pa_nil)))))))
      (pss_cons (ps_set (i := 9) sc_told_tree.nd rfl (Or.inl rfl) (pe_callD G_told_tree hr.lv rfl T.K_told_tree (pa_cons (pv 0) (pa_cons (pv 1) (pa_cons (pv 2) (pa_cons (pe_callD G_with_option hr.lv rfl T.K_with_option (pa_cons (pv 3) (pa_cons (pv 7) pa_nil))) (pa_cons (pv 4) pa_nil)))))))
      (pss_one (ps_ret (pe_tup (pa_cons pe_str (pa_cons (pv 7) (pa_cons (pv 8) (pa_cons (pv 9) pa_nil))))))))), ?_⟩
      intro k r v5 v6 H1 s1 ho hb hlf
      have hk : k ∈ openL m y n := by rw [ho]; exact List.mem_cons_self
      have km := (mem_open.mp hk).1
      have l1 := open_less1 hk
      have l2 := open_less2 hk
      refine ⟨_, rfl, _, rfl, _, rfl, _, rfl, y, k, rfl, by omega, _, rfl, _, rfl, wd, ts, tl, il, y ||| 2 ^ k, n, rfl, W.same s1, s1 _ _ htl, ilt, by omega, hC _ _ s1 c0, ⟨R, (rs y n k r0 hk).1, rs, re⟩, fun v1 H2 s2 d1 => ?_⟩
      refine ⟨_, rfl, _, rfl, _, rfl, _, rfl, _, rfl, n, k, rfl, by omega, _, rfl, wd, ts, tl, il, y, n ||| 2 ^ k, rfl, W.same (s1.trans s2), (s1.trans s2) _ _ htl, ilt, by omega, hC _ _ (s1.trans s2) c0, ⟨R, (rs y n k r0 hk).2, rs, re⟩, fun v2 H3 s3 d2 => ?_⟩
      refine ⟨_, rfl, _, rfl, _, rfl, small (by show 4 ≤ 1000; decide), fun tp htp => ?_⟩
      have s4 := same_new htp (.tup [.str ("split" : Str), .int (k : Int), v1, v2])
      refine q _ _ (((s1.trans s2).trans s3).trans s4) ?_
      obtain ⟨f', rfl⟩ : ∃ f', f = f' + 1 := ⟨f - 1, by omega⟩
      rw [toldD_split hb hlf ho]
      exact ⟨tp, _, rfl, upd_same, _, _, rfl, rfl, _, _, rfl, rfl, _, _, rfl, Dn.same (s3.trans s4) _ _ d1, _, _, rfl, Dn.same s4 _ _ d2, rfl⟩
  obtain ⟨t4, h4, r4⟩ := rest
  refine ⟨_, (pss_cons (ps_set (i := 5) sc_told_tree.nd rfl (Or.inl rfl) (pe_callD G_first_sure_broken hr.lv rfl T.K_first_sure_broken (pa_cons (pv 0) (pa_cons (pv 1) (pa_cons (pv 2) (pa_cons (pv 3) pa_nil))))))
      (pss_cons (ps_if (pt_cmpR op_notN (pv 5) pe_non (nomark _)) (pss_one (ps_ret (pe_tup (pa_cons pe_str (pa_cons (pv 5) pa_nil))))) pss_nil)
      (pss_cons (ps_set (i := 6) sc_told_tree.nd rfl (Or.inl rfl) (pe_callV (i := 4) L_leaf_at hr.lv rfl (.inl rfl) LB_leaf_at LP_leaf_at (pa_cons (pv 2) (pa_cons (pv 3) pa_nil))))
      (pss_cons (ps_if (pt_cmpR op_notN (pv 6) pe_non (nomark _)) (pss_one (ps_ret (pv 6))) pss_nil)
      (pss_cons (ps_set (i := 7) sc_told_tree.nd rfl (Or.inl rfl) (pe_ix (ixL (K := K)) (pe_callD G_open_options hr.lv rfl T.K_open_options (pa_cons (pe_ix (ixT (K := K)) (pv 0) pe_int (fun _ _ => rfl)) (pa_cons (pv 2) (pa_cons (pv 3) pa_nil)))) pe_int (fun _ _ => rfl)))
      h4))))), ?_⟩
  refine ⟨_, rfl, _, rfl, _, rfl, _, rfl, wd, m, ts, tl, il, y, n, rfl, W, htl, ilt, fun H1 s1 => ?_⟩
  obtain ⟨o, ho⟩ : ∃ o, firstSB ts il y n = o := ⟨_, rfl⟩
  rw [ho]
  obtain ⟨xs, ys, ⟨tb, tc, hw, hb, hc⟩, dn⟩ := W.ex
  rcases o with _ | t
  · refine ⟨_, rfl, rfl, _, rfl, ?_⟩
    refine iteNS rfl ?_
    refine ⟨rfl, _, rfl, _, rfl, hCp _ (hC _ _ s1 c0), y, n, rfl, hC _ _ s1 c0, fun v H2 s2 lv => ?_⟩
    unfold LeafV at lv
    cases hl : leaf y n with
    | some dd =>
      rw [hl] at lv
      obtain ⟨dv, pp, rfl⟩ := lv
      refine ⟨_, rfl, rfl, _, rfl, ?_⟩
      refine iteNN (by intro z; cases z) ?_
      refine ⟨_, rfl, ?_⟩
      refine q _ _ (s1.trans s2) ?_
      rw [toldD_leaf ho hl]
      exact dv
    | none =>
      rw [hl] at lv
      subst lv
      refine ⟨_, rfl, rfl, _, rfl, ?_⟩
      refine iteNS rfl ?_
      have s12 := s1.trans s2
      refine ⟨_, rfl, wd, _, _, _, rfl, rfl, sqT (s12 _ _ hw), at0, _, rfl, _, rfl, m, y, n, rfl, by omega, fun l H3 s3 nl hl3 => ?_⟩
      obtain ⟨ol, hol⟩ : ∃ ol, openL m y n = ol := ⟨_, rfl⟩
      rw [hol] at hl3
      rcases ol with _ | ⟨k, r⟩
      · exact absurd hl (re y n r0 ho hol)
      · refine ⟨l, _, _, _, rfl, rfl, SqL.of hl3, at0, ?_⟩
        exact r4 k r _ _ H3 (s12.trans s3) hol ho hl
  · refine ⟨_, rfl, rfl, _, rfl, ?_⟩
    refine iteNN (by intro z; cases z) ?_
    refine ⟨_, rfl, small (by show 2 ≤ 1000; decide), fun tp htp => ?_⟩
    have s2 := same_new htp (.tup [.str ("broken" : Str), .int (t : Int)])
    refine q _ _ (s1.trans s2) ?_
    rw [toldD_broken ho]
    exact ⟨tp, _, rfl, upd_same, _, _, rfl, rfl, _, _, rfl, rfl, rfl⟩
theorem ok_told_tree (T : Txt K mg a d) {p : Addr} {C : Hp → Prop} {m : Nat} {leaf : Nat → Nat → Option PyData} {fdL : FuncData} {pl : List Str} {φ : Heap → Prop}
    (L : FnOk P w K mg base CX0 7 p fdL pl (spLf C leaf)) (LB : Binds K fdL pl []) (LP : ∀ h : Heap, φ h → ∃ o fd', h.get? p = some o ∧ o.data = .func fd') (hC : ∀ H H', Same H H' → C H → C H') (hCp : ∀ H, C H → H p = some (.ext φ)) :
    ∀ f : Nat, FnOk P w K mg base CX0 (f + 8) a.f_told_tree d.f_told_tree ["wood", "ties", "yes", "no", "leaf_at"] (spToldF f p C m leaf)
  | 0 => told_step T 0 L LB LP hC hCp fun h => absurd rfl h
  | f + 1 => told_step T (f + 1) L LB LP hC hCp fun _ => ok_told_tree T L LB LP hC hCp f

end
section
variable {P : Program} {w : World} {K : PySem.W.Frag} {mg : Str → Option Value} {base : Heap} {a : Adr} {d : Fds}
def spWareLeaf : Sp := fun vs H Q _ => ∃ (wd : Addr) (m : Nat) (ts : List Tie) (y n : Nat), vs = [.ref wd, .int y, .int n] ∧ WoodT H wd m ts ∧ ∀ (v : V) (H' : Hp), Same H H' → LeafV (wareLeaf m) y n H' v → Q v H'
theorem ok_ware_leaf (T : Txt K mg a d) : FnOk P w K mg base CX0 3 a.f_ware_leaf d.f_ware_leaf ["wood", "yes", "no"] spWareLeaf := by
  have G_open_options := ok_open_options (P := P) (w := w) (base := base) T
  refine T.K_ware_leaf.ok sc_ware_leaf (fun vs H Q E h => ?_) (fun cdv A outer s H vs Q E hr h => ?_)
  · obtain ⟨wd, m, ts, y, n, rfl, _⟩ := h
    rfl
  obtain ⟨wd, m, ts, y, n, rfl, W, q⟩ := h
  have m9 := W.m9
  refine ⟨_, (pss_cons (ps_if (pt_cmpR op_eq (pe_callB (lenS (K := K)) rfl T.m_len PySem.boot_len (pa_cons (pe_callD G_open_options hr.lv rfl T.K_open_options (pa_cons (pe_ix (ixT (K := K)) (pv 0) pe_int (fun _ _ => rfl)) (pa_cons (pv 1) (pa_cons (pv 2) pa_nil)))) pa_nil)) pe_int (nomark _)) (pss_one (ps_ret (pe_tup (pa_cons pe_str pa_nil)))) pss_nil)
      (pss_one (ps_ret pe_non))), ?_⟩
  obtain ⟨xs, ys, ⟨tb, tc, hw, hb, hc⟩, dn⟩ := W.ex
  refine ⟨_, rfl, wd, _, _, _, rfl, rfl, sqT hw, at0, _, rfl, _, rfl, m, y, n, rfl, by omega, fun l H2 s2 nl hl => ?_⟩
  refine ⟨l, _, rfl, .inl (SqL.of hl), rfl, _, rfl, ?_⟩
  rw [dec_cnt0, List.length_map]
  obtain ⟨ol, hol⟩ : ∃ ol, openL m y n = ol := ⟨_, rfl⟩
  rw [hol]
  rcases ol with _ | ⟨k, r⟩
  · refine iteD rfl ?_
    refine ⟨small (by show 1 ≤ 1000; decide), fun tp htp => ?_⟩
    have s3 := same_new htp (.tup [.str ("ware" : Str)])
    refine q _ _ (s2.trans s3) ?_
    unfold LeafV wareLeaf
    rw [if_pos hol]
    exact ⟨⟨tp, _, rfl, upd_same, _, _, rfl, rfl, rfl⟩, tp, rfl⟩
  · refine iteDN (by simp) ?_
    refine q _ _ s2 ?_
    unfold LeafV wareLeaf
    rw [if_neg (by rw [hol]; simp)]

end
section
variable {P : Program} {w : World} {K : PySem.W.Frag} {mg : Str → Option Value} {base : Heap} {a : Adr} {d : Fds}
theorem ok_cases_of (T : Txt K mg a d) (LB : LamB mg base a.c_cases_of a.t_cases_of) (f : Nat) : FnOk P w K mg base CX0 (f + 9) a.f_cases_of d.f_cases_of ["wood", "ties", "yes", "no"] (spT a.t_cases_of (spCasesF f)) := by
  refine T.K_cases_of.okC sc_cases_of (fun vs H Q E h => ?_) (fun cdv A outer s H vs Q E hcd hr h => ?_)
  · obtain ⟨_, wd, m, ts, tl, il, y, n, rfl, _⟩ := h
    rfl
  obtain ⟨tb, wd, m, ts, tl, il, y, n, rfl, W, htl, ilt, hf, q⟩ := h
  have LC : ((cxOf CX0 P w K mg base ["wood", "ties", "yes", "no"] "cases_of" (defScope s_cases_of) a.f_cases_of cdv A outer s H E).nox).env.code = .ref a.c_cases_of := hcd.symm.trans T.code_cases_of
  have LF : ∀ y ∈ (lamScope (lastArg (retE (defBody s_cases_of)[0]?))).names, y.2 = .free → ∃ c, ((cxOf CX0 P w K mg base ["wood", "ties", "yes", "no"] "cases_of" (defScope s_cases_of) a.f_cases_of cdv A outer s H E).nox).env.cells.lookup y.1 = some c := by
    intro y hy hz
    have e : y = (("wood" : Str), NameKind.free) := by
      have h := (by decide +kernel : ∀ y ∈ (lamScope (lastArg (retE (defBody s_cases_of)[0]?))).names, y.2 = NameKind.free → y = (("wood" : Str), NameKind.free))
      exact h y hy hz
    subst e
    exact ⟨_, rfl⟩
  refine ⟨_, (pss_one (ps_ret (pe_callW (k := f + 8) (hr.mono (by first | decide | omega)) rfl T.K_told_tree.g T.K_told_tree.kp T.K_told_tree.B (fun _ => rfl) (pa_cons (pv 0) (pa_cons (pv 1) (pa_cons (pv 2) (pa_cons (pv 3) (pa_cons (pe_lam LC LB rfl LF) pa_nil)))))))), ?_⟩
  refine ⟨_, rfl, _, rfl, _, rfl, _, rfl, tb, fun p c' H1 np s1 hp hc base' ci _ _ => ?_⟩
  obtain ⟨cw, u, e1, r1, ic⟩ := ci 0 "wood" (.ref wd) rfl rfl rfl
  have hcells : ((cxOf CX0 P w K mg base ["wood", "ties", "yes", "no"] "cases_of" (defScope s_cases_of) a.f_cases_of cdv A outer s H E).nox).env.cells = [(("wood" : Str), cw)] := by
    have z : cw = s.heap.objs.size + 1 := (Option.some.inj (show some (s.heap.objs.size + 1) = some cw from e1)).symm
    rw [z]
    rfl
  have G_ware_leaf := ok_ware_leaf (P := P) (w := w) (base := base') T
  have L := lam_fn (P := P) (w := w) (K := K) (mg := mg) (base := base') (ps := ["come", "gone"]) (fr := ["wood"]) (fv := [.ref wd]) (k := 6) (leaf := wareLeaf m) (fun H => WoodT H wd m ts) hp ⟨rfl, rfl, rfl, by decide +kernel, by decide +kernel, by decide +kernel, by decide +kernel⟩
    (fun x cc h => by
      have h' := clOf_look LF h
      rw [hcells] at h'
      obtain ⟨_, rfl⟩ := lookup_one h'
      exact ⟨_, ic⟩)
    (fun x y cc h1 h2 => by
      have h1' := clOf_look LF h1
      have h2' := clOf_look LF h2
      rw [hcells] at h1' h2'
      rw [(lookup_one h1').1, (lookup_one h2').1])
    (fun y hy hz => by
      obtain ⟨c, hc⟩ := LF y hy hz
      exact ⟨c, clOf_at LF (by rw [← hz]; exact hy) hc⟩)
    (fun i x v h1 h2 => by
      cases i with
      | zero =>
        cases h1
        cases h2
        exact ⟨cw, u, clOf_at LF (by decide +kernel) e1, r1, ic⟩
      | succ i => cases h1)
    rfl (fun _ _ _ => rfl) rfl
    (fun q A outer s H y n Q hr W0 q' => ⟨_, pe_call G_ware_leaf (hr.mono (by decide)) rfl T.K_ware_leaf.g T.K_ware_leaf.kp T.K_ware_leaf.B .nil pass0 (pa_cons (pv 2) (pa_cons (pv 0) (pa_cons (pv 1) pa_nil))), ⟨_, rfl, _, rfl, _, rfl, wd, m, ts, y, n, rfl, W0, q'⟩⟩)
  have G := ok_told_tree (P := P) (w := w) (base := base') (m := m) T L (.all fun us hl => match us, hl with | [_, _], _ => rfl) lamP_fn (fun H H' s h => ⟨h.1.same s, s _ _ h.2.1, s _ _ h.2.2⟩) (fun H h => h.2.1) f
  refine ⟨_, G, wd, ts, tl, il, y, n, rfl, W.same s1, s1 _ _ htl, ilt, hf, ⟨W.same s1, hp, hc⟩, EndsR.all (fun y n hb ho => by unfold wareLeaf; rw [if_pos ho]; simp) _ _, fun v H' s2 dv => q v H' (s1.trans s2) ?_⟩
  rw [← told_cases f y n hf]
  exact dv

end
section
variable {P : Program} {w : World} {K : PySem.W.Frag} {mg : Str → Option Value} {base : Heap} {a : Adr} {d : Fds}
theorem ok_cases (T : Txt K mg a d) (LB : LamB mg base a.c_cases_of a.t_cases_of) : FnOk P w K mg base CX0 19 a.f_cases d.f_cases ["wood", "yes", "no"] (spT a.t_cases_of spCases) := by
  have G_cases_of := ok_cases_of (P := P) (w := w) (base := base) T LB 9
  have G_every_tie := ok_every_tie (P := P) (w := w) (base := base) T
  refine T.K_cases.ok sc_cases (fun vs H Q E h => ?_) (fun cdv A outer s H vs Q E hr h => ?_)
  · obtain ⟨_, wd, m, ts, y, n, rfl, _⟩ := h
    rfl
  obtain ⟨tb, wd, m, ts, y, n, rfl, W, m9, q⟩ := h
  have of := open_few m y n
  refine ⟨_, (pss_one (ps_ret (pe_callD G_cases_of hr.lv rfl T.K_cases_of (pa_cons (pv 0) (pa_cons (pe_callD G_every_tie hr.lv rfl T.K_every_tie (pa_cons (pv 0) pa_nil)) (pa_cons (pv 1) (pa_cons (pv 2) pa_nil))))))), ?_⟩
  refine ⟨_, rfl, _, rfl, wd, m, ts, rfl, W, fun l H1 s1 nl hl => ?_⟩
  refine ⟨_, rfl, _, rfl, s1.tab tb, wd, m, ts, l, allT ts, y, n, rfl, W.same s1, hl, fun i hi => List.mem_range.mp hi, by omega, fun v H2 s2 dv => ?_⟩
  exact q v H2 (s1.trans s2) dv

end
section
variable {P : Program} {w : World} {K : PySem.W.Frag} {mg : Str → Option Value} {base : Heap} {a : Adr} {d : Fds}
theorem wares_in_step (T : Txt K mg a d) (f : Nat) (G_wares_in : f ≠ 0 → FnOk P w K mg base CX0 (f + 1) a.f_wares_in d.f_wares_in ["yes", "tree"] (spLeaves (f - 1))) : FnOk P w K mg base CX0 (f + 2) a.f_wares_in d.f_wares_in ["yes", "tree"] (spLeaves f) := by
  have G_with_option := ok_with_option (P := P) (w := w) (base := base) T
  refine T.K_wares_in.ok sc_wares_in (fun vs H Q E h => ?_) (fun cdv A outer s H vs Q E hr h => ?_)
  · obtain ⟨y, t, v, rfl, _⟩ := h
    rfl
  obtain ⟨y, t, v, rfl, hd, hdp, f9, sml, q⟩ := h
  cases t with
  | ware =>
    refine ⟨_, pss_cons (ps_if (pt_cmpR op_eq (pe_ix ix_tup (pv 1) pe_int (fun _ _ => rfl)) pe_str (nomark _)) (pss_one (ps_ret (pe_lst (pa_cons (pv 0) pa_nil)))) pss_nil) pss_never, ?_⟩
    obtain ⟨p, rfl, hp⟩ := at_ware hd
    refine ⟨_, rfl, p, _, _, _, rfl, rfl, sqT hp, at0, rfl, _, rfl, ?_⟩
    refine iteD rfl ?_
    refine ⟨_, rfl, small (by show 1 ≤ 1000; decide), fun l hl => ?_⟩
    exact q l _ (same_new hl _) hl upd_same
  | broken tt =>
    refine ⟨_, pss_cons (ps_if (pt_cmpR op_eq (pe_ix ix_tup (pv 1) pe_int (fun _ _ => rfl)) pe_str (nomark _)) pss_never pss_nil) (pss_cons (ps_if (pt_cmpR op_eq (pe_ix ix_tup (pv 1) pe_int (fun _ _ => rfl)) pe_str (nomark _)) pss_never pss_nil) (pss_one (ps_ret (pe_lst pa_nil)))), ?_⟩
    obtain ⟨p, rfl, hp⟩ := at_broken hd
    refine ⟨_, rfl, p, _, _, _, rfl, rfl, sqT hp, at0, rfl, _, rfl, ?_⟩
    refine iteDN broken_ware ?_
    refine ⟨_, rfl, p, _, _, _, rfl, rfl, sqT hp, at0, rfl, _, rfl, ?_⟩
    refine iteDN broken_split ?_
    refine ⟨small (by decide), fun l hl => ?_⟩
    exact q l _ (same_new hl _) hl upd_same
  | split k ta tb =>
    have hf0 : f ≠ 0 := fun z => by rw [z] at hdp; simp [CT.depth] at hdp
    have G_wares_in := G_wares_in hf0
    have hdp' : max ta.depth tb.depth + 1 ≤ f := hdp
    refine ⟨_, (pss_cons (ps_if (pt_cmpR op_eq (pe_ix (ixT (K := K)) (pv 1) pe_int (fun _ _ => rfl)) pe_str (nomark _)) (pss_one (ps_ret (pe_lst (pa_cons (pv 0) pa_nil)))) pss_nil)
      (pss_cons (ps_if (pt_cmpR op_eq (pe_ix (ixT (K := K)) (pv 1) pe_int (fun _ _ => rfl)) pe_str (nomark _)) (pss_one (ps_ret (pe_op op_cat (pe_callD G_wares_in hr.lv rfl T.K_wares_in (pa_cons (pe_callD G_with_option hr.lv rfl T.K_with_option (pa_cons (pv 0) (pa_cons (pe_ix (ixT (K := K)) (pv 1) pe_int (fun _ _ => rfl)) pa_nil))) (pa_cons (pe_ix (ixT (K := K)) (pv 1) pe_int (fun _ _ => rfl)) pa_nil))) (pe_callD G_wares_in hr.lv rfl T.K_wares_in (pa_cons (pv 0) (pa_cons (pe_ix (ixT (K := K)) (pv 1) pe_int (fun _ _ => rfl)) pa_nil)))))) pss_nil)
      (pss_one (ps_ret (pe_lst pa_nil))))), ?_⟩
    obtain ⟨p, va, vb, rfl, hp, da, db⟩ := at_split hd
    obtain ⟨k1, sa, sb⟩ := sml
    refine ⟨_, rfl, p, _, _, _, rfl, rfl, sqT hp, at0, rfl, _, rfl, ?_⟩
    refine iteDN split_ware ?_
    refine ⟨_, rfl, p, _, _, _, rfl, rfl, sqT hp, at0, rfl, _, rfl, ?_⟩
    refine iteD rfl ?_
    refine ⟨_, rfl, _, rfl, p, _, _, _, rfl, rfl, sqT hp, at1, y, k, rfl, k1, _, rfl, p, _, _, _, rfl, rfl, sqT hp, at2, y ||| 2 ^ k, ta, va, rfl, da, by omega, by omega, sa, fun l1 H1 s1 n1 h1 => ?_⟩
    refine ⟨_, rfl, _, rfl, p, _, _, _, rfl, rfl, sqT (s1 _ _ hp), at3, y, tb, vb, rfl, Dn.same s1 _ _ db, by omega, by omega, sb, fun l2 H2 s2 n2 h2 => ?_⟩
    have f1 := leaves_few ta (y ||| 2 ^ k)
    have f2 := leaves_few tb y
    have p1 : 2 ^ ta.depth ≤ 2 ^ 8 := Nat.pow_le_pow_right (by decide) (by omega)
    have p2 : 2 ^ tb.depth ≤ 2 ^ 8 := Nat.pow_le_pow_right (by decide) (by omega)
    refine ⟨l1, l2, _, _, rfl, rfl, s2 _ _ h1, h2, (by rw [List.length_map, List.length_map]; exact small (by omega)), fun l3 h3 => ?_⟩
    have e : natsL (ta.leaves (y ||| 2 ^ k)) ++ natsL (tb.leaves y) = natsL ((CT.split k ta tb).leaves y) := by
      show _ = natsL (ta.leaves (y ||| 2 ^ k) ++ tb.leaves y)
      rw [natsL, natsL, natsL, List.map_append]
    rw [e]
    exact q l3 _ ((s1.trans s2).trans (same_new h3 _)) ((s1.trans s2).free h3) upd_same
theorem ok_wares_in (T : Txt K mg a d) : ∀ f : Nat, FnOk P w K mg base CX0 (f + 2) a.f_wares_in d.f_wares_in ["yes", "tree"] (spLeaves f)
  | 0 => wares_in_step T 0 fun h => absurd rfl h
  | f + 1 => wares_in_step T (f + 1) fun _ => ok_wares_in T f

end
section
variable {P : Program} {w : World} {K : PySem.W.Frag} {mg : Str → Option Value} {base : Heap} {a : Adr} {d : Fds}
theorem ok_wares (T : Txt K mg a d) (LB : LamB mg base a.c_cases_of a.t_cases_of) : FnOk P w K mg base CX0 20 a.f_wares d.f_wares ["wood"] (spT a.t_cases_of spWares) := by
  have G_cases := ok_cases (P := P) (w := w) (base := base) T LB
  have G_wares_in := ok_wares_in (P := P) (w := w) (base := base) T 9
  have G_with_option := ok_with_option (P := P) (w := w) (base := base) T
  refine T.K_wares.ok sc_wares (fun vs H Q E h => ?_) (fun cdv A outer s H vs Q E hr h => ?_)
  · obtain ⟨_, wd, m, ts, rfl, _⟩ := h
    rfl
  obtain ⟨tb, wd, m, ts, rfl, W, m1, m9, q⟩ := h
  have of := open_few m 1 0
  have dp := casesF_depth (ts := ts) (il := allT ts) (m := m) 9 1 0
  have sml := casesF_small (ts := ts) (il := allT ts) (m := m) (by omega) 9 1 0
  have pm := wares_perm W.ok m1 9 (by omega)
  refine ⟨_, (pss_cons (ps_set (i := 1) sc_wares.nd rfl (Or.inl rfl) (pe_callD G_with_option hr.lv rfl T.K_with_option (pa_cons pe_int (pa_cons pe_int pa_nil))))
      (pss_one (ps_ret (pe_callB call_sortedB rfl T.m_sorted PyProof.Rows.boot_sorted (pa_cons (pe_callD G_wares_in hr.lv rfl T.K_wares_in (pa_cons (pv 1) (pa_cons (pe_callD G_cases hr.lv rfl T.K_cases (pa_cons (pv 0) (pa_cons (pv 1) (pa_cons pe_int pa_nil)))) pa_nil))) pa_nil))))), ?_⟩
  refine ⟨0, 0, rfl, by decide, ?_⟩
  refine ⟨_, rfl, _, rfl, _, rfl, tb, wd, m, ts, 1, 0, rfl, W, m9, fun v H1 s1 dv => ?_⟩
  refine ⟨1, _, v, rfl, dv, dp, by omega, sml, fun l H2 s2 n2 hl2 => ?_⟩
  refine ⟨l, ((casesF ts (allT ts) m 9 1 0).leaves 1).map (fun k : Nat => (k : Int)), rfl, SqL.of (by rw [hl2]; exact congrArg some (congrArg HO.lst (natsV _).symm)), fun ms h1 h2 l3 h3 => ?_⟩
  rw [sorted_nats h1 h2 pm (wareL_pw m ts), natsV]
  exact q l3 _ ((s1.trans s2).trans (same_new h3 _)) ((s1.trans s2).free h3) upd_same

end
section
variable {P : Program} {w : World} {K : PySem.W.Frag} {mg : Str → Option Value} {base : Heap} {a : Adr} {d : Fds}
theorem keeping_step (T : Txt K mg a d) (f : Nat) (G_first_keeping : f ≠ 0 → FnOk P w K mg base CX0 (f + 6) a.f_first_keeping d.f_first_keeping ["wood", "ties", "yes", "no"] (spKeepF (f - 1))) : FnOk P w K mg base CX0 (f + 7) a.f_first_keeping d.f_first_keeping ["wood", "ties", "yes", "no"] (spKeepF f) := by
  have G_first_sure_broken := ok_first_sure_broken (P := P) (w := w) (base := base) T
  have G_open_options := ok_open_options (P := P) (w := w) (base := base) T
  have G_with_option := ok_with_option (P := P) (w := w) (base := base) T
  refine T.K_first_keeping.ok sc_first_keeping (fun vs H Q E h => ?_) (fun cdv A outer s H vs Q E hr h => ?_)
  · obtain ⟨wd, m, ts, tl, il, y, n, rfl, _⟩ := h
    rfl
  obtain ⟨wd, m, ts, tl, il, y, n, rfl, W, htl, ilt, hf, q⟩ := h
  have m9 := W.m9
  have rest : ∃ t, PSs (cxOf CX0 P w K mg base ["wood", "ties", "yes", "no", "left", "k", "found"] "first_keeping" (defScope s_first_keeping) a.f_first_keeping cdv A outer s H E).nox ((defBody s_first_keeping).drop 4) t ∧ (∀ (k : Nat) (v4 : Option V) (H1 : Hp), Same H H1 → (openL m y n).getLast? = some k → firstSB ts il y n = none → t { nx := fun _ H' => Q .non H', rt := Q } [some (.ref wd), some (.ref tl), some (.int y), some (.int n), v4, some (.int (k : Int)), none] H1) := by
    by_cases hf0 : f = 0
    · refine ⟨tNever, pss_never, ?_⟩
      intro k v4 H1 s1 ho hb
      rw [hf0] at hf
      rw [List.eq_nil_of_length_eq_zero (Nat.le_zero.mp hf)] at ho
      cases ho
    · have G_first_keeping := G_first_keeping hf0
      refine ⟨_, (pss_cons (ps_set (i := 6) sc_first_keeping.nd rfl (Or.inl rfl) (pe_callD G_first_keeping hr.lv rfl T.K_first_keeping (pa_cons (pv 0) (pa_cons (pv 1) (pa_cons (pv 2) (pa_cons (pe_callD G_with_option hr.lv rfl T.K_with_option (pa_cons (pv 3) (pa_cons (pv 5) pa_nil))) pa_nil))))))
      (pss_cons (ps_if (pt_cmpR op_notN (pv 6) pe_non (nomark _)) (pss_one (ps_ret (pv 6))) pss_nil)
      (pss_one (ps_ret (pe_callD G_first_keeping hr.lv rfl T.K_first_keeping (pa_cons (pv 0) (pa_cons (pv 1) (pa_cons (pe_callD G_with_option hr.lv rfl T.K_with_option (pa_cons (pv 2) (pa_cons (pv 5) pa_nil))) (pa_cons (pv 3) pa_nil))))))))), ?_⟩
      intro k v4 H1 s1 ho hb
      have hk := (open_last ho).1
      have km := (mem_open.mp hk).1
      have l1 := open_less1 hk
      have l2 := open_less2 hk
      have e : keepF ts il m f y n = (match keepF ts il m (f - 1) y (n ||| 2 ^ k) with | some s => some s | none => keepF ts il m (f - 1) (y ||| 2 ^ k) n) := by
        obtain ⟨f', rfl⟩ : ∃ f', f = f' + 1 := ⟨f - 1, by omega⟩
        exact keepF_split hb ho
      refine ⟨_, rfl, _, rfl, _, rfl, _, rfl, _, rfl, n, k, rfl, by omega, wd, m, ts, tl, il, y, n ||| 2 ^ k, rfl, W.same s1, s1 _ _ htl, ilt, by omega, fun H2 s2 => ?_⟩
      obtain ⟨o, ho2⟩ : ∃ o, keepF ts il m (f - 1) y (n ||| 2 ^ k) = o := ⟨_, rfl⟩
      rw [ho2]
      rcases o with _ | g
      · refine ⟨_, rfl, rfl, _, rfl, ?_⟩
        refine iteNS rfl ?_
        refine ⟨_, rfl, _, rfl, _, rfl, _, rfl, y, k, rfl, by omega, _, rfl, wd, m, ts, tl, il, y ||| 2 ^ k, n, rfl, W.same (s1.trans s2), (s1.trans s2) _ _ htl, ilt, by omega, fun H3 s3 => ?_⟩
        have q1 := q H3 ((s1.trans s2).trans s3)
        rw [e, ho2] at q1
        exact q1
      · refine ⟨_, rfl, rfl, _, rfl, ?_⟩
        refine iteNN (by intro z; cases z) ?_
        have q1 := q H2 (s1.trans s2)
        rw [e, ho2] at q1
        exact ⟨_, rfl, q1⟩
  obtain ⟨t4, h4, r4⟩ := rest
  refine ⟨_, (pss_cons (ps_if (pt_cmpR op_notN (pe_callD G_first_sure_broken hr.lv rfl T.K_first_sure_broken (pa_cons (pv 0) (pa_cons (pv 1) (pa_cons (pv 2) (pa_cons (pv 3) pa_nil))))) pe_non (nomark _)) (pss_one (ps_ret pe_non)) pss_nil)
      (pss_cons (ps_set (i := 4) sc_first_keeping.nd rfl (Or.inl rfl) (pe_callD G_open_options hr.lv rfl T.K_open_options (pa_cons (pe_ix (ixT (K := K)) (pv 0) pe_int (fun _ _ => rfl)) (pa_cons (pv 2) (pa_cons (pv 3) pa_nil)))))
      (pss_cons (ps_if (pt_cmpR op_eq (pe_callB (lenS (K := K)) rfl T.m_len PySem.boot_len (pa_cons (pv 4) pa_nil)) pe_int (nomark _)) (pss_one (ps_ret (pv 2))) pss_nil)
      (pss_cons (ps_set (i := 5) sc_first_keeping.nd rfl (Or.inl rfl) (pe_ix (ixL (K := K)) (pv 4) (pe_un un_neg pe_int) (fun _ _ => rfl)))
      h4)))), ?_⟩
  refine ⟨_, rfl, _, rfl, _, rfl, _, rfl, wd, m, ts, tl, il, y, n, rfl, W, htl, ilt, fun H1 s1 => ?_⟩
  obtain ⟨o, ho⟩ : ∃ o, firstSB ts il y n = o := ⟨_, rfl⟩
  rw [ho]
  obtain ⟨xs, ys, ⟨tb, tc, hw, hb, hc⟩, dn⟩ := W.ex
  rcases o with _ | t
  · refine ⟨rfl, _, rfl, ?_⟩
    refine iteNS rfl ?_
    refine ⟨_, rfl, wd, _, _, _, rfl, rfl, sqT (s1 _ _ hw), at0, _, rfl, _, rfl, m, y, n, rfl, by omega, fun l H2 s2 nl hl => ?_⟩
    refine ⟨_, rfl, l, _, rfl, .inl (SqL.of hl), rfl, _, rfl, ?_⟩
    rw [dec_cnt0, List.length_map]
    by_cases hn : openL m y n = []
    · refine iteD (by rw [hn]; rfl) ?_
      have q1 := q H2 (s1.trans s2)
      have e : keepF ts il m f y n = some y := by
        exact keepF_full ho hn
      rw [e] at q1
      exact ⟨_, rfl, q1⟩
    · refine iteDN (fun z => hn (List.eq_nil_of_length_eq_zero z)) ?_
      obtain ⟨k, hk⟩ : ∃ k, (openL m y n).getLast? = some k := by
        cases e : (openL m y n).getLast? with
        | none => exact absurd (List.getLast?_eq_none_iff.mp e) hn
        | some k => exact ⟨k, rfl⟩
      have hat : atI (natsL (openL m y n)) (-1) = some (.int (k : Int)) := by
        obtain ⟨l', e⟩ := List.getLast?_eq_some_iff.mp hk
        rw [e]
        exact at_last l' k
      refine ⟨_, rfl, _, rfl, l, _, _, _, rfl, rfl, SqL.of hl, hat, ?_⟩
      exact r4 k _ H2 (s1.trans s2) hk ho
  · refine ⟨rfl, _, rfl, ?_⟩
    refine iteNN (by intro z; cases z) ?_
    have q1 := q H1 s1
    have e : keepF ts il m f y n = none := by
      exact keepF_broken ho
    rw [e] at q1
    exact q1
theorem ok_first_keeping (T : Txt K mg a d) : ∀ f : Nat, FnOk P w K mg base CX0 (f + 7) a.f_first_keeping d.f_first_keeping ["wood", "ties", "yes", "no"] (spKeepF f)
  | 0 => keeping_step T 0 fun h => absurd rfl h
  | f + 1 => keeping_step T (f + 1) fun _ => ok_first_keeping T f

end
section
variable {P : Program} {w : World} {K : PySem.W.Frag} {mg : Str → Option Value} {base : Heap} {a : Adr} {d : Fds}
theorem ok_first_ware (T : Txt K mg a d) : FnOk P w K mg base CX0 17 a.f_first_ware d.f_first_ware ["wood", "yes", "no"] spFirstW := by
  have G_has := ok_has (P := P) (w := w) (base := base) T
  have G_with_option := ok_with_option (P := P) (w := w) (base := base) T
  have G_every_tie := ok_every_tie (P := P) (w := w) (base := base) T
  have G_first_keeping := ok_first_keeping (P := P) (w := w) (base := base) T 9
  refine T.K_first_ware.ok sc_first_ware (fun vs H Q E h => ?_) (fun cdv A outer s H vs Q E hr h => ?_)
  · obtain ⟨wd, m, ts, y, n, rfl, _⟩ := h
    rfl
  obtain ⟨wd, m, ts, y, n, rfl, W, m9, m1, S, q⟩ := h
  refine ⟨_, (pss_cons (ps_if (pt_val (pe_callD G_has hr.lv rfl T.K_has (pa_cons (pv 2) (pa_cons pe_int pa_nil)))) (pss_one (ps_ret pe_non)) pss_nil)
      (pss_one (ps_ret (pe_callD G_first_keeping hr.lv rfl T.K_first_keeping (pa_cons (pv 0) (pa_cons (pe_callD G_every_tie hr.lv rfl T.K_every_tie (pa_cons (pv 0) pa_nil)) (pa_cons (pe_callD G_with_option hr.lv rfl T.K_with_option (pa_cons (pv 1) (pa_cons pe_int pa_nil))) (pa_cons (pv 2) pa_nil)))))))), ?_⟩
  refine ⟨_, rfl, _, _, rfl, _, rfl, ?_⟩
  have e0 : hasV (n : Int) 0 = n.testBit 0 := hasV_nat n 0
  rw [e0]
  refine ite2 (fun c => ?_) (fun c => ?_)
  · refine q H none (Same.refl H) fun s' sm hs => ?_
    unfold wareB
    rw [hs.2 0 c, Bool.false_and]
  · have c' := Bool.eq_false_iff.mpr c
    have of := open_few m (y ||| 2 ^ 0) n
    have S' : Stand m (y ||| 2 ^ 0) n := ⟨dj_one S.dj c', put_lt S.ym (by omega), S.nm⟩
    refine ⟨_, rfl, _, rfl, wd, m, ts, rfl, W, fun l H1 s1 nl hl => ?_⟩
    refine ⟨_, rfl, y, 0, rfl, by omega, _, rfl, wd, m, ts, l, allT ts, y ||| 2 ^ 0, n, rfl, W.same s1, hl, fun i hi => List.mem_range.mp hi, by omega, fun H2 s2 => ?_⟩
    have F := keepF_first (il := allT ts) W.ok 9 (y ||| 2 ^ 0) n (by omega) S'
    have iff : ∀ s', InS (y ||| 2 ^ 0) n s' ∧ allKeep ts (allT ts) s' = true ↔ InS y n s' ∧ wareB ts s' = true := fun s' => by
      unfold wareB
      rw [allKeep_all, Bool.and_eq_true]
      constructor
      · rintro ⟨a1, a2⟩
        exact ⟨⟨fun j hj => a1.1 j (by rw [bit_put, hj, Bool.true_or]), a1.2⟩, a1.1 0 (by rw [bit_put, decide_eq_true rfl, Bool.or_true]), a2⟩
      · rintro ⟨a1, a2, a3⟩
        refine ⟨⟨fun j hj => ?_, a1.2⟩, a3⟩
        rw [bit_put, Bool.or_eq_true, decide_eq_true_eq] at hj
        rcases hj with z | rfl
        · exact a1.1 j z
        · exact a2
    generalize keepF ts (allT ts) m 9 (y ||| 2 ^ 0) n = o at F ⊢
    refine q H2 o (s1.trans s2) ?_
    cases o with
    | none =>
      intro s' sm hs
      cases e : wareB ts s' with
      | false => rfl
      | true =>
        have := (iff s').mpr ⟨hs, e⟩
        rw [F s' sm this.1] at this
        cases this.2
    | some g =>
      obtain ⟨b1, b2, b3, b4⟩ := F
      obtain ⟨c1, c2⟩ := (iff g).mp ⟨b2, b3⟩
      refine ⟨b1, c1, c2, fun s' sm hs hw => ?_⟩
      have := (iff s').mpr ⟨hs, hw⟩
      exact b4 s' sm this.1 this.2

end
section
variable {P : Program} {w : World} {K : PySem.W.Frag} {mg : Str → Option Value} {base : Heap} {a : Adr} {d : Fds}
theorem ok_bars (T : Txt K mg a d) : FnOk P w K mg base CX0 17 a.f_bars d.f_bars ["wood", "ties", "yes", "no"] spBars := by
  have G_first_keeping := ok_first_keeping (P := P) (w := w) (base := base) T 9
  refine T.K_bars.ok sc_bars (fun vs H Q E h => ?_) (fun cdv A outer s H vs Q E hr h => ?_)
  · obtain ⟨wd, m, ts, tl, il, y, n, rfl, _⟩ := h
    rfl
  obtain ⟨wd, m, ts, tl, il, y, n, rfl, W, m9, htl, ilt, q⟩ := h
  have of := open_few m y n
  refine ⟨_, (pss_one (ps_ret (pe_cmpR op_isN (pe_callD G_first_keeping hr.lv rfl T.K_first_keeping (pa_cons (pv 0) (pa_cons (pv 1) (pa_cons (pv 2) (pa_cons (pv 3) pa_nil))))) pe_non (nomark _)))), ?_⟩
  refine ⟨_, rfl, _, rfl, _, rfl, _, rfl, wd, m, ts, tl, il, y, n, rfl, W, htl, ilt, by omega, fun H1 s1 => ?_⟩
  have q1 := q H1 s1
  unfold barB at q1
  rw [← optN_non] at q1
  exact ⟨rfl, q1⟩

end
section
variable {P : Program} {w : World} {K : PySem.W.Frag} {mg : Str → Option Value} {base : Heap} {a : Adr} {d : Fds}
theorem ok_left_without (T : Txt K mg a d) : FnOk P w K mg base CX0 1 a.f_left_without d.f_left_without ["things", "one"] spWithoutT := by
  refine T.K_left_without.ok sc_left_without (fun vs H Q E h => ?_) (fun cdv A outer s H vs Q E hr h => ?_)
  · obtain ⟨l, il, t, rfl, _⟩ := h
    rfl
  obtain ⟨l, il, t, rfl, hl, few, q⟩ := h
  refine ⟨_, (pss_one (ps_ret (pe_lc (sc0 := defScope s_left_without) (XN := ["things", "one"]) (N' := ["other", "one"]) (n := 1) (kp := [1]) rfl (piL (K := K) (pv 0)) rfl rfl (by decide +kernel) (fun _ _ _ _ _ => (pg_name (i := 0) (by show List.Nodup (["other", "one"] : List Str); decide +kernel) rfl (Or.inl rfl))) (fun _ _ _ _ _ => (pts_one (pt_cmpR op_ne (pv 0) (pv 1) (nomark _)))) (fun _ _ _ _ _ => (pv 0))))), ?_⟩
  refine ⟨_, rfl, l, rfl, ⟨_, SqL.of hl⟩, ?_⟩
  refine lc_list (K := K) (a := l) (xs := natsL il) (fun j ys σ H2 => (∃ v, σ = [v, some (.int (t : Int))]) ∧ H2 = H ∧ ys = natsL ((il.take j).filter fun i => !decide (i = t))) ⟨⟨none, rfl⟩, rfl, rfl⟩ (fun j ys σ H2 hj pv => ?_) (fun j ys σ H2 hj pv => ?_) (fun j x ys σ H2 hx pv => ?_) (fun ys σ H2 pv p hp => ?_)
  · obtain ⟨_, _, rfl⟩ := pv
    rw [List.length_map]
    refine small (Nat.le_trans (List.length_filter_le _ _) ?_)
    rw [List.length_take]
    omega
  · rw [pv.2.1]
    exact SqL.of hl
  · obtain ⟨⟨v0, rfl⟩, rfl, rfl⟩ := pv
    rw [List.getElem?_map] at hx
    obtain ⟨i, hi, rfl⟩ := Option.map_eq_some_iff.mp hx
    have et : il.take (j + 1) = il.take j ++ [i] := by rw [List.take_add_one, hi, Option.toList_some]
    refine ⟨_, rfl, _, rfl, rfl, _, rfl, ?_⟩
    by_cases c : i = t
    · refine iteNS (by rw [c]) ?_
      refine ⟨⟨_, rfl⟩, rfl, ?_⟩
      rw [et, List.filter_append]
      simp [c]
    · refine iteNN (fun z => c (by injection z with z; omega)) ?_
      refine ⟨_, rfl, ⟨_, rfl⟩, rfl, ?_⟩
      rw [et, List.filter_append]
      simp [c]
  obtain ⟨_, rfl, rfl⟩ := pv
  rw [List.length_map, List.take_length]
  exact q p _ (same_new hp _) hp upd_same

end
section
variable {P : Program} {w : World} {K : PySem.W.Frag} {mg : Str → Option Value} {base : Heap} {a : Adr} {d : Fds}
def spLeastT : Sp := fun vs H Q _ => ∃ (wd : Addr) (m : Nat) (ts : List Tie) (y n : Nat), vs = [.ref wd, .int y, .int n] ∧ WoodT H wd m ts ∧ m ≤ 9 ∧ ∀ (lf : Addr) (H' : Hp), Same H H' → H lf = none → H' lf = some (.lst (natsL (leastL ts m y n))) → Q (.ref lf) H'
theorem ok_least_ties (T : Txt K mg a d) : FnOk P w K mg base CX0 18 a.f_least_ties d.f_least_ties ["wood", "yes", "no"] spLeastT := by
  have G_every_tie := ok_every_tie (P := P) (w := w) (base := base) T
  have G_bars := ok_bars (P := P) (w := w) (base := base) T
  have G_left_without := ok_left_without (P := P) (w := w) (base := base) T
  refine T.K_least_ties.ok sc_least_ties (fun vs H Q E h => ?_) (fun cdv A outer s H vs Q E hr h => ?_)
  · obtain ⟨wd, m, ts, y, n, rfl, _⟩ := h
    rfl
  obtain ⟨wd, m, ts, y, n, rfl, W, m9, q⟩ := h
  have few := W.few
  have of := open_few m y n
  have allt : ∀ i ∈ allT ts, i < ts.length := fun i hi => List.mem_range.mp hi
  have lall : (allT ts).length = ts.length := List.length_range
  refine ⟨_, (pss_cons (ps_set (i := 3) sc_least_ties.nd rfl (Or.inl rfl) (pe_callD G_every_tie hr.lv rfl T.K_every_tie (pa_cons (pv 0) pa_nil)))
      (pss_cons (ps_for PassesOwn.never rfl (piL (K := K) (pe_callD G_every_tie hr.lv rfl T.K_every_tie (pa_cons (pv 0) pa_nil))) (pg_name (i := 4) sc_least_ties.nd rfl (Or.inl rfl)) (pss_cons (ps_set (i := 5) sc_least_ties.nd rfl (Or.inl rfl) (pe_callD G_left_without hr.lv rfl T.K_left_without (pa_cons (pv 3) (pa_cons (pv 4) pa_nil))))
      (pss_one (ps_if (pt_val (pe_callD G_bars hr.lv rfl T.K_bars (pa_cons (pv 0) (pa_cons (pv 5) (pa_cons (pv 1) (pa_cons (pv 2) pa_nil)))))) (pss_one (ps_set (i := 3) sc_least_ties.nd rfl (Or.inl rfl) (pv 5))) pss_nil))))
      (pss_one (ps_ret (pv 3))))), ?_⟩
  refine ⟨_, rfl, wd, m, ts, rfl, W, fun l0 H1 s1 nl0 hl0 => ?_⟩
  refine ⟨_, rfl, wd, m, ts, rfl, W.same s1, fun l1 H3 s3 nl1 hl1 => ?_⟩
  refine ⟨l1, rfl, ⟨_, SqL.of hl1⟩, ?_⟩
  have s13 := s1.trans s3
  refine for_list (K := K) (a := l1) (xs := natsL (allT ts)) (fun i σ H4 => ∃ (lf : Addr) (v4 v5 : Option V), σ = [some (.ref wd), some (.int y), some (.int n), some (.ref lf), v4, v5] ∧ Same H3 H4 ∧ H4 lf = some (.lst (natsL (((allT ts).take i).foldl (leastStep ts m y n) (allT ts)))) ∧ H lf = none) ⟨l0, _, _, rfl, Same.refl _, s3 _ _ hl0, nl0⟩ (fun i σ H4 _ z => by obtain ⟨_, _, _, _, s4, _⟩ := z; exact SqL.of (s4 _ _ hl1)) ?_ ?_
  · rintro i x σ H4 hx ⟨lf, v4, v5, rfl, s4, hlf, nlf⟩
    rw [List.getElem?_map] at hx
    obtain ⟨t, ht, rfl⟩ := Option.map_eq_some_iff.mp hx
    generalize hleft : ((allT ts).take i).foldl (leastStep ts m y n) (allT ts) = left at hlf
    have sub : left.Sublist (allT ts) := by rw [← hleft]; exact least_sub _ _
    have lle := sub.length_le
    have e1 : ((allT ts).take (i + 1)).foldl (leastStep ts m y n) (allT ts) = leastStep ts m y n left t := by
      rw [List.take_add_one, ht, Option.toList_some, List.foldl_append, hleft]
      rfl
    refine ⟨_, rfl, _, rfl, lf, left, t, rfl, hlf, by omega, fun p H5 s5 np hp => ?_⟩
    refine ⟨_, rfl, _, rfl, _, rfl, _, rfl, wd, m, ts, p, without left t, y, n, rfl, W.same ((s13.trans s4).trans s5), m9, hp, fun i hi => allt i (sub.subset (List.mem_filter.mp hi).1), fun H6 s6 => ?_⟩
    refine ⟨_, rfl, ?_⟩
    refine ite2 (fun c2 => ?_) (fun c2 => ?_)
    · refine ⟨_, rfl, p, _, _, rfl, (s4.trans s5).trans s6, ?_, (s13.trans s4).free np⟩
      rw [e1]
      unfold leastStep
      rw [if_pos c2]
      exact s6 _ _ hp
    · refine ⟨lf, _, _, rfl, (s4.trans s5).trans s6, ?_, nlf⟩
      rw [e1]
      unfold leastStep
      rw [if_neg c2]
      exact (s5.trans s6) _ _ hlf
  · rintro σ H4 ⟨lf, v4, v5, rfl, s4, hlf, nlf⟩
    rw [List.length_map, List.take_length] at hlf
    have sub : (leastL ts m y n).Sublist (allT ts) := least_sub _ _
    have hlf : H4 lf = some (.lst (natsL (leastL ts m y n))) := hlf
    exact ⟨_, rfl, q lf H4 (s13.trans s4) nlf hlf⟩

end
section
variable {P : Program} {w : World} {K : PySem.W.Frag} {mg : Str → Option Value} {base : Heap} {a : Adr} {d : Fds}
def spTieOthers : Sp := fun vs H Q _ => ∃ (wd lf : Addr) (m : Nat) (ts : List Tie) (left : List Nat) (y n : Nat), vs = [.ref wd, .ref lf, .int y, .int n] ∧ WoodT H wd m ts ∧ m ≤ 9 ∧ H lf = some (.lst (natsL left)) ∧ (∀ i ∈ left, i < ts.length) ∧ left.length ≤ 900 ∧ ∀ (ol : Addr) (H' : Hp), Same H H' → H ol = none → Others H' ol ts m y n left → Q (.ref ol) H'
theorem ok_tie_others (T : Txt K mg a d) : FnOk P w K mg base CX0 18 a.f_tie_others d.f_tie_others ["wood", "ties", "yes", "no"] spTieOthers := by
  have G_left_without := ok_left_without (P := P) (w := w) (base := base) T
  have G_first_keeping := ok_first_keeping (P := P) (w := w) (base := base) T 9
  refine T.K_tie_others.ok sc_tie_others (fun vs H Q E h => ?_) (fun cdv A outer s H vs Q E hr h => ?_)
  · obtain ⟨wd, lf, m, ts, left, y, n, rfl, _⟩ := h
    rfl
  obtain ⟨wd, lf, m, ts, left, y, n, rfl, W, m9, hlf, allt, lle, q⟩ := h
  have of := open_few m y n
  refine ⟨_, (pss_one (ps_ret (pe_lc (sc0 := defScope s_tie_others) (XN := ["wood", "ties", "yes", "no"]) (N' := ["t", "wood", "yes", "no", "ties"]) (n := 1) (kp := [0, 2, 3, 1]) rfl (piL (K := K) (pv 1)) rfl rfl (by decide +kernel) (fun _ _ _ _ _ => (pg_name (i := 0) (by show List.Nodup (["t", "wood", "yes", "no", "ties"] : List Str); decide +kernel) rfl (Or.inl rfl))) (fun _ _ _ _ _ => pts_nil) (fun _ _ _ _ _ => (pe_tup (pa_cons (pv 0) (pa_cons (pe_callD G_first_keeping hr.lv rfl T.K_first_keeping (pa_cons (pv 1) (pa_cons (pe_callD G_left_without hr.lv rfl T.K_left_without (pa_cons (pv 4) (pa_cons (pv 0) pa_nil))) (pa_cons (pv 2) (pa_cons (pv 3) pa_nil))))) pa_nil))))))), ?_⟩
  refine ⟨_, rfl, lf, rfl, ⟨_, SqL.of hlf⟩, ?_⟩
  refine lc_list (K := K) (a := lf) (xs := natsL left) (fun j ys σ H5 => (∃ v, σ = [v, some (.ref wd), some (.int y), some (.int n), some (.ref lf)]) ∧ Same H H5 ∧ ys.length = j ∧ ∀ (i t : Nat), i < j → left[i]? = some t → ∃ q, ys[i]? = some (.ref q) ∧ H5 q = some (.tup [.int (t : Int), optN (keepF ts (without left t) m 9 y n)])) ⟨⟨none, rfl⟩, Same.refl _, rfl, fun i t hi => absurd hi (Nat.not_lt_zero i)⟩ (fun j ys σ H5 hj pv => ?_) (fun j ys σ H5 hj pv => ?_) (fun j x ys σ H5 hx pv => ?_) (fun ys σ H5 pv ol hol => ?_)
  · obtain ⟨_, _, h1, _⟩ := pv
    rw [List.length_map] at hj
    exact small (by omega)
  · exact SqL.of (pv.2.1 _ _ hlf)
  · obtain ⟨⟨v, rfl⟩, s5, h1, each⟩ := pv
    rw [List.getElem?_map] at hx
    obtain ⟨t, ht, rfl⟩ := Option.map_eq_some_iff.mp hx
    refine ⟨_, rfl, _, rfl, _, rfl, _, rfl, lf, left, t, rfl, s5 _ _ hlf, by omega, fun p H6 s6 np hp => ?_⟩
    refine ⟨_, rfl, _, rfl, wd, m, ts, p, without left t, y, n, rfl, W.same (s5.trans s6), hp, fun i hi => allt i (List.mem_filter.mp hi).1, by omega, fun H7 s7 => ?_⟩
    refine ⟨small (by show 2 ≤ 1000; decide), fun tp htp => ?_⟩
    have s8 := same_new htp (.tup [.int (t : Int), optN (keepF ts (without left t) m 9 y n)])
    have s58 := (s6.trans s7).trans s8
    refine ⟨⟨_, rfl⟩, s5.trans s58, by rw [List.length_append, List.length_singleton, h1], fun i t' hi ht' => ?_⟩
    by_cases e : i = j
    · subst e
      rw [ht] at ht'
      cases ht'
      refine ⟨tp, ?_, upd_same⟩
      rw [List.getElem?_append_right (by omega), h1, Nat.sub_self]
      rfl
    · obtain ⟨p', a1, a2⟩ := each i t' (by omega) ht'
      refine ⟨p', ?_, s58 _ _ a2⟩
      rw [List.getElem?_append_left (by omega)]
      exact a1
  · obtain ⟨_, s5, h1, each⟩ := pv
    rw [List.length_map] at h1 each
    have s6 := same_new hol (.lst ys)
    refine q ol _ (s5.trans s6) (s5.free hol) ⟨ys, upd_same, h1, fun j t ht => ?_⟩
    obtain ⟨p', a1, a2⟩ := each j t (List.getElem?_eq_some_iff.mp ht).1 ht
    exact ⟨p', a1, s6 _ _ a2⟩

end
section
variable {P : Program} {w : World} {K : PySem.W.Frag} {mg : Str → Option Value} {base : Heap} {a : Adr} {d : Fds}
def FreshL (H H' : Hp) (fv : V) : Prop := ∀ (p lf ol : Addr) (v : V), fv = .ref p → H' p = some (.tup [.ref lf, v, .ref ol]) → H lf = none ∧ H ol = none
def spLeastN : Sp := fun vs H Q _ => ∃ (wd : Addr) (m : Nat) (ts : List Tie) (y n : Nat), vs = [.ref wd, .int y, .int n] ∧ WoodT H wd m ts ∧ m ≤ 9 ∧ ∀ (fv : V) (H' : Hp), Same H H' → FoundL H' fv ts m y n → FreshL H H' fv → Q fv H'
theorem ok_least_barN (T : Txt K mg a d) (LB : LamB mg base a.c_cases_of a.t_cases_of) : FnOk P w K mg base CX0 19 a.f_least_bar d.f_least_bar ["wood", "yes", "no"] (spT a.t_cases_of spLeastN) := by
  have G_every_tie := ok_every_tie (P := P) (w := w) (base := base) T
  have G_bars := ok_bars (P := P) (w := w) (base := base) T
  have G_least_ties := ok_least_ties (P := P) (w := w) (base := base) T
  have G_tie_others := ok_tie_others (P := P) (w := w) (base := base) T
  have G_cases_of := ok_cases_of (P := P) (w := w) (base := base) T LB 9
  refine T.K_least_bar.ok sc_least_bar (fun vs H Q E h => ?_) (fun cdv A outer s H vs Q E hr h => ?_)
  · obtain ⟨_, wd, m, ts, y, n, rfl, _⟩ := h
    rfl
  obtain ⟨tb, wd, m, ts, y, n, rfl, W, m9, q⟩ := h
  have few := W.few
  have of := open_few m y n
  have allt : ∀ i ∈ allT ts, i < ts.length := fun i hi => List.mem_range.mp hi
  have lall : (allT ts).length = ts.length := List.length_range
  refine ⟨_, (pss_cons (ps_if (pt_not (pt_val (pe_callD G_bars hr.lv rfl T.K_bars (pa_cons (pv 0) (pa_cons (pe_callD G_every_tie hr.lv rfl T.K_every_tie (pa_cons (pv 0) pa_nil)) (pa_cons (pv 1) (pa_cons (pv 2) pa_nil))))))) (pss_one (ps_ret pe_non)) pss_nil)
      (pss_cons (ps_set (i := 3) sc_least_bar.nd rfl (Or.inl rfl) (pe_callD G_least_ties hr.lv rfl T.K_least_ties (pa_cons (pv 0) (pa_cons (pv 1) (pa_cons (pv 2) pa_nil)))))
      (pss_one (ps_ret (pe_tup (pa_cons (pv 3) (pa_cons (pe_callD G_cases_of hr.lv rfl T.K_cases_of (pa_cons (pv 0) (pa_cons (pv 3) (pa_cons (pv 1) (pa_cons (pv 2) pa_nil))))) (pa_cons (pe_callD G_tie_others hr.lv rfl T.K_tie_others (pa_cons (pv 0) (pa_cons (pv 3) (pa_cons (pv 1) (pa_cons (pv 2) pa_nil))))) pa_nil)))))))), ?_⟩
  refine ⟨_, rfl, _, rfl, wd, m, ts, rfl, W, fun l0 H1 s1 nl0 hl0 => ?_⟩
  refine ⟨_, rfl, _, rfl, wd, m, ts, l0, allT ts, y, n, rfl, W.same s1, m9, hl0, allt, fun H2 s2 => ?_⟩
  refine ⟨_, rfl, ?_⟩
  refine ite2 (fun c => ?_) (fun c => ?_)
  · exact q .non H2 (s1.trans s2) (.inl ⟨by simpa using c, rfl⟩) (fun _ _ _ _ z => nomatch z)
  have hbar : barB ts (allT ts) m y n = true := by simpa using c
  have s12 := s1.trans s2
  refine ⟨_, rfl, _, rfl, _, rfl, wd, m, ts, y, n, rfl, W.same s12, m9, fun lf H3 s3 nlf hlf => ?_⟩
  have s13 := s12.trans s3
  have sub : (leastL ts m y n).Sublist (allT ts) := least_sub _ _
  have lle := sub.length_le
  refine ⟨_, rfl, _, rfl, _, rfl, _, rfl, _, rfl, s13.tab tb, wd, m, ts, lf, leastL ts m y n, y, n, rfl, W.same s13, hlf, fun i hi => allt i (sub.subset hi), by omega, fun v H4 s4 d1 => ?_⟩
  have s14 := s13.trans s4
  refine ⟨_, rfl, _, rfl, _, rfl, _, rfl, wd, lf, m, ts, leastL ts m y n, y, n, rfl, W.same s14, m9, s4 _ _ hlf, fun i hi => allt i (sub.subset hi), by omega, fun ol H5 s5 nol ot => ?_⟩
  refine ⟨small (by show 3 ≤ 1000; decide), fun tp htp => ?_⟩
  have s6 := same_new htp (.tup [.ref lf, v, .ref ol])
  refine q (.ref tp) _ ((s14.trans s5).trans s6) (.inr ⟨hbar, tp, lf, ol, v, rfl, upd_same, ((s4.trans s5).trans s6) _ _ hlf, Dn.same (s5.trans s6) _ _ d1, ?_⟩) ?_
  · obtain ⟨xs, h1, h2, h3⟩ := ot.ex
    refine ⟨xs, s6 _ _ h1, h2, fun j t ht => ?_⟩
    obtain ⟨p', a1, a2⟩ := h3 j t ht
    exact ⟨p', a1, s6 _ _ a2⟩
  · intro p' lf' ol' v' e1 e2
    cases e1
    rw [upd_same] at e2
    cases e2
    exact ⟨s12.free nlf, s14.free nol⟩
end
section
variable {P : Program} {w : World} {K : PySem.W.Frag} {mg : Str → Option Value} {base : Heap} {a : Adr} {d : Fds}
theorem found_f {H H' : Hp} {fv : V} {ts : List Tie} {m y n : Nat} (h : FoundL H' fv ts m y n) (fr : FreshL H H' fv) : FoundF H H' fv ts m y n := by
  rcases h with z | ⟨b, p, lf, ol, v, a1, a2, a3, a4, a5⟩
  · exact .inl z
  · obtain ⟨f1, f2⟩ := fr p lf ol v a1 a2
    exact .inr ⟨b, p, lf, ol, v, a1, a2, a3, a4, a5, f1, f2⟩
def spStanding : Sp := fun vs H Q _ => ∃ (wd : Addr) (m : Nat) (ts : List Tie) (k : Nat), vs = [.ref wd, .int k] ∧ WoodT H wd m ts ∧ 1 ≤ m ∧ m ≤ 9 ∧ k < m ∧ ∀ (v : V) (H' : Hp), Same H H' → StandV H H' v ts m k → Q v H'
theorem ok_standing (T : Txt K mg a d) (LB : LamB mg base a.c_cases_of a.t_cases_of) : FnOk P w K mg base CX0 20 a.f_standing d.f_standing ["wood", "k"] (spT a.t_cases_of spStanding) := by
  have G_with_option := ok_with_option (P := P) (w := w) (base := base) T
  have G_first_ware := ok_first_ware (P := P) (w := w) (base := base) T
  have G_least_bar := ok_least_barN (P := P) (w := w) (base := base) T LB
  refine T.K_standing.ok sc_standing (fun vs H Q E h => ?_) (fun cdv A outer s H vs Q E hr h => ?_)
  · obtain ⟨_, wd, m, ts, k, rfl, _⟩ := h
    rfl
  obtain ⟨tb, wd, m, ts, k, rfl, W, m1, m9, km, q⟩ := h
  have S0 := stand_root m1
  have o0 := open_few m 1 0
  have k1 : (1 ||| 2 ^ k).testBit 0 = true := by rw [Nat.testBit_or]; rfl
  refine ⟨_, (pss_cons (ps_set (i := 2) sc_standing.nd rfl (Or.inl rfl) (pe_callD G_with_option hr.lv rfl T.K_with_option (pa_cons pe_int (pa_cons pe_int pa_nil))))
      (pss_cons (ps_set (i := 3) sc_standing.nd rfl (Or.inl rfl) (pe_callD G_with_option hr.lv rfl T.K_with_option (pa_cons pe_int (pa_cons (pv 1) pa_nil))))
      (pss_cons (ps_if (pt_cmpR op_isN (pe_callD G_first_ware hr.lv rfl T.K_first_ware (pa_cons (pv 0) (pa_cons (pv 2) (pa_cons pe_int pa_nil)))) pe_non (nomark _)) (pss_one (ps_ret (pe_tup (pa_cons pe_str (pa_cons (pe_callD G_least_bar hr.lv rfl T.K_least_bar (pa_cons (pv 0) (pa_cons (pv 2) (pa_cons pe_int pa_nil)))) pa_nil))))) pss_nil)
      (pss_cons (ps_if (pt_cmpR op_eq (pv 1) pe_int (nomark _)) (pss_one (ps_ret (pe_tup (pa_cons pe_str (pa_cons pe_non pa_nil))))) pss_nil)
      (pss_cons (ps_set (i := 4) sc_standing.nd rfl (Or.inl rfl) (pe_callD G_first_ware hr.lv rfl T.K_first_ware (pa_cons (pv 0) (pa_cons (pe_op op_or (pv 2) (pv 3)) (pa_cons pe_int pa_nil)))))
      (pss_cons (ps_if (pt_cmpR op_isN (pv 4) pe_non (nomark _)) (pss_one (ps_ret (pe_tup (pa_cons pe_str (pa_cons (pe_callD G_least_bar hr.lv rfl T.K_least_bar (pa_cons (pv 0) (pa_cons (pe_op op_or (pv 2) (pv 3)) (pa_cons pe_int pa_nil)))) pa_nil))))) pss_nil)
      (pss_cons (ps_set (i := 5) sc_standing.nd rfl (Or.inl rfl) (pe_callD G_first_ware hr.lv rfl T.K_first_ware (pa_cons (pv 0) (pa_cons (pv 2) (pa_cons (pv 3) pa_nil)))))
      (pss_cons (ps_if (pt_cmpR op_isN (pv 5) pe_non (nomark _)) (pss_one (ps_ret (pe_tup (pa_cons pe_str (pa_cons (pe_callD G_least_bar hr.lv rfl T.K_least_bar (pa_cons (pv 0) (pa_cons (pv 2) (pa_cons (pv 3) pa_nil)))) pa_nil))))) pss_nil)
      (pss_one (ps_ret (pe_tup (pa_cons pe_str (pa_cons (pv 4) (pa_cons (pv 5) pa_nil)))))))))))))), ?_⟩
  refine ⟨0, 0, rfl, by decide, ?_⟩
  refine ⟨_, rfl, 0, k, rfl, by omega, ?_⟩
  rw [Nat.zero_or (2 ^ k), show (0 ||| 2 ^ 0 : Nat) = 1 from rfl]
  refine ⟨_, rfl, _, rfl, wd, m, ts, 1, 0, rfl, W, m9, m1, S0, fun H1 o s1 fw => ?_⟩
  have eo : o = keepF ts (allT ts) m 9 1 0 := FirstK.unique (ware_keep rfl (by cases o <;> exact fw)) (keepF_first W.ok 9 1 0 (by omega) S0)
  cases o with
  | none =>
    have b1 := bar_none eo.symm
    refine ⟨rfl, _, rfl, ?_⟩
    refine iteD rfl ?_
    refine ⟨_, rfl, _, rfl, s1.tab tb, wd, m, ts, 1, 0, rfl, W.same s1, m9, fun fv H2 s2 fl fr => ?_⟩
    refine ⟨small (by show 2 ≤ 1000; decide), fun tp htp => ?_⟩
    have s3 := same_new htp (.tup [.str ("void" : Str), fv])
    exact q (.ref tp) _ ((s1.trans s2).trans s3) ⟨tp, rfl, .inl ⟨b1, fv, upd_same, ((found_f fl fr).old s1).same s3⟩⟩
  | some g0 =>
    have b1 := bar_some eo.symm
    refine ⟨rfl, _, rfl, ?_⟩
    refine iteDN (by intro z; cases z) ?_
    refine ⟨_, rfl, rfl, _, rfl, ?_⟩
    by_cases k0 : k = 0
    · refine iteD (by rw [k0]; rfl) ?_
      refine ⟨small (by show 2 ≤ 1000; decide), fun tp htp => ?_⟩
      have s3 := same_new htp (.tup [.str ("always" : Str), .non])
      exact q (.ref tp) _ (s1.trans s3) ⟨tp, rfl, .inr (.inl ⟨b1, k0, upd_same⟩)⟩
    refine iteDN (fun z => k0 (by injection z with z; omega)) ?_
    have Sw := stand_with m1 km
    have Sn := stand_without m1 km k0
    have ow := open_few m (1 ||| 2 ^ k) 0
    have on := open_few m 1 (2 ^ k)
    refine ⟨_, rfl, _, rfl, _, rfl, _, _, rfl, rfl, wd, m, ts, 1 ||| 2 ^ k, 0, by dsimp only; rw [show ((1 : Nat) : Int) = ((1 : Nat) : Int) from rfl, lor_nat]; rfl, W.same s1, m9, m1, Sw, fun H2 o2 s2 fw2 => ?_⟩
    have eo2 : o2 = keepF ts (allT ts) m 9 (1 ||| 2 ^ k) 0 := FirstK.unique (ware_keep k1 (by cases o2 <;> exact fw2)) (keepF_first W.ok 9 _ 0 (by omega) Sw)
    have s12 := s1.trans s2
    cases o2 with
    | none =>
      have b2 := bar_none eo2.symm
      refine ⟨_, rfl, rfl, _, rfl, ?_⟩
      refine iteD rfl ?_
      refine ⟨_, rfl, _, rfl, _, rfl, _, _, rfl, rfl, s12.tab tb, wd, m, ts, 1 ||| 2 ^ k, 0, by dsimp only; rw [lor_nat]; rfl, W.same s12, m9, fun fv H3 s3 fl fr => ?_⟩
      refine ⟨small (by show 2 ≤ 1000; decide), fun tp htp => ?_⟩
      have s4 := same_new htp (.tup [.str ("never" : Str), fv])
      exact q (.ref tp) _ ((s12.trans s3).trans s4) ⟨tp, rfl, .inr (.inr (.inl ⟨b1, k0, b2, fv, upd_same, ((found_f fl fr).old s12).same s4⟩))⟩
    | some g1 =>
      have b2 := bar_some eo2.symm
      refine ⟨_, rfl, rfl, _, rfl, ?_⟩
      refine iteDN (by intro z; cases z) ?_
      refine ⟨_, rfl, _, rfl, _, rfl, wd, m, ts, 1, 2 ^ k, rfl, W.same s12, m9, m1, Sn, fun H3 o3 s3 fw3 => ?_⟩
      have eo3 : o3 = keepF ts (allT ts) m 9 1 (2 ^ k) := FirstK.unique (ware_keep rfl (by cases o3 <;> exact fw3)) (keepF_first W.ok 9 1 _ (by omega) Sn)
      have s13 := s12.trans s3
      cases o3 with
      | none =>
        have b3 := bar_none eo3.symm
        refine ⟨_, rfl, rfl, _, rfl, ?_⟩
        refine iteD rfl ?_
        refine ⟨_, rfl, _, rfl, _, rfl, s13.tab tb, wd, m, ts, 1, 2 ^ k, rfl, W.same s13, m9, fun fv H4 s4 fl fr => ?_⟩
        refine ⟨small (by show 2 ≤ 1000; decide), fun tp htp => ?_⟩
        have s5 := same_new htp (.tup [.str ("always" : Str), fv])
        exact q (.ref tp) _ ((s13.trans s4).trans s5) ⟨tp, rfl, .inr (.inr (.inr (.inl ⟨b1, k0, b2, b3, fv, upd_same, ((found_f fl fr).old s13).same s5⟩)))⟩
      | some g2 =>
        have b3 := bar_some eo3.symm
        refine ⟨_, rfl, rfl, _, rfl, ?_⟩
        refine iteDN (by intro z; cases z) ?_
        refine ⟨_, rfl, _, rfl, small (by show 3 ≤ 1000; decide), fun tp htp => ?_⟩
        have s5 := same_new htp (.tup [.str ("either" : Str), .int (g1 : Int), .int (g2 : Int)])
        exact q (.ref tp) _ (s13.trans s5) ⟨tp, rfl, .inr (.inr (.inr (.inr ⟨b1, k0, b2, b3, g1, g2, eo2.symm, eo3.symm, upd_same⟩)))⟩

end
section
variable {P : Program} {w : World} {K : PySem.W.Frag} {mg : Str → Option Value} {base : Heap} {a : Adr} {d : Fds}
theorem ok_first_parting (T : Txt K mg a d) : FnOk P w K mg base CX0 2 a.f_first_parting d.f_first_parting ["sold", "a", "b"] spFirstP := by
  have G_has := ok_has (P := P) (w := w) (base := base) T
  refine T.K_first_parting.ok sc_first_parting (fun vs H Q E h => ?_) (fun cdv A outer s H vs Q E hr h => ?_)
  · obtain ⟨l, L, x, y, rfl, _⟩ := h
    rfl
  obtain ⟨l, L, x, y, rfl, hl, few, ne, q⟩ := h
  obtain ⟨s0, r0, e1, e2⟩ := parted ne
  refine ⟨_, (pss_one (ps_ret (pe_ix (ixL (K := K)) (pe_lc (sc0 := defScope s_first_parting) (XN := ["sold", "a", "b"]) (N' := ["ware", "a", "b"]) (n := 1) (kp := [1, 2]) rfl (piL (K := K) (pv 0)) rfl rfl (by decide +kernel) (fun _ _ _ _ _ => (pg_name (i := 0) (by show List.Nodup (["ware", "a", "b"] : List Str); decide +kernel) rfl (Or.inl rfl))) (fun _ _ _ _ _ => (pts_one (pt_cmpR op_ne (pe_callD G_has hr.lv rfl T.K_has (pa_cons (pv 0) (pa_cons (pv 1) pa_nil))) (pe_callD G_has hr.lv rfl T.K_has (pa_cons (pv 0) (pa_cons (pv 2) pa_nil))) (nomark _)))) (fun _ _ _ _ _ => (pv 0))) pe_int (fun _ _ => rfl)))), ?_⟩
  refine ⟨_, rfl, l, rfl, ⟨_, SqL.of hl⟩, ?_⟩
  refine lc_filt (K := K) (a := l) (l := L) (σr := [some (.int (x : Int)), some (.int (y : Int))]) (fun s => s.testBit x != s.testBit y) rfl hl few (fun s hs R r => ?_) (fun p hp => ?_)
  · refine ⟨_, rfl, _, rfl, (s : Int), (x : Int), rfl, ?_⟩
    refine ⟨_, rfl, _, rfl, (s : Int), (y : Int), rfl, ?_⟩
    refine ⟨rfl, _, rfl, ?_⟩
    have e : (!decide (V.bl (hasV (s : Int) (x : Int)) = V.bl (hasV (s : Int) (y : Int)))) = (s.testBit x != s.testBit y) := by
      rw [hasV_nat, hasV_nat]
      cases s.testBit x <;> cases s.testBit y <;> rfl
    show R (!decide (V.bl (hasV (s : Int) (x : Int)) = V.bl (hasV (s : Int) (y : Int)))) H
    rw [e]
    exact r
  · refine ⟨p, _, _, _, rfl, rfl, SqL.of upd_same, (by rw [e1]; exact at0), ?_⟩
    rw [← e2]
    exact q _ (same_new hp _)

end
section
variable {P : Program} {w : World} {K : PySem.W.Frag} {mg : Str → Option Value} {base : Heap} {a : Adr} {d : Fds}
theorem ok_parts_of (T : Txt K mg a d) : FnOk P w K mg base CX0 3 a.f_parts_of d.f_parts_of ["sold", "firsts"] spPartsOf := by
  have G_first_parting := ok_first_parting (P := P) (w := w) (base := base) T
  refine T.K_parts_of.ok sc_parts_of (fun vs H Q E h => ?_) (fun cdv A outer s H vs Q E hr h => ?_)
  · obtain ⟨l, lf, L, F, rfl, _⟩ := h
    rfl
  obtain ⟨l, lf, L, F, rfl, hl, hf, few, f9, ap, q⟩ := h
  have pl := parts_len L F
  have pl81 : F.length * F.length ≤ 81 := Nat.mul_le_mul f9 f9
  refine ⟨_, (pss_cons (ps_set (i := 2) sc_parts_of.nd rfl (Or.inl rfl) (pe_lst pa_nil))
      (pss_cons (ps_for PassesOwn.never rfl (pi_enum rfl T.m_enumerate (pa_cons (pv 1) pa_nil)) (pgT (K := K) (n := 2) rfl (pgs_cons (pg_name (i := 3) sc_parts_of.nd rfl (Or.inl rfl)) (pgs_cons (pg_name (i := 4) sc_parts_of.nd rfl (Or.inl rfl)) pgs_nil))) (pss_one (ps_for PassesOwn.never rfl (piL (K := K) (pe_slice sl_list (pv 1) (po_some (pe_op op_add (pv 3) pe_int)) po_none)) (pg_name (i := 5) sc_parts_of.nd rfl (Or.inl rfl)) (pss_one (ps_expr (pe_bmK (K := K) PySem.F.plainAttrs_list PySem.F.slot_list_append PySem.F.type_list_append mt_append (pv 2) (pa_cons (pe_tup (pa_cons (pv 4) (pa_cons (pv 5) (pa_cons (pe_callD G_first_parting hr.lv rfl T.K_first_parting (pa_cons (pv 0) (pa_cons (pv 4) (pa_cons (pv 5) pa_nil)))) pa_nil)))) pa_nil)))))))
      (pss_one (ps_ret (pv 2))))), ?_⟩
  refine ⟨small (by decide), fun lp hlp => ?_⟩
  have s1 := same_new hlp (.lst [])
  have h1 : (L2.upd H lp (.lst [])) lp = some (.lst []) := upd_same
  generalize L2.upd H lp (.lst []) = H1 at s1 h1 ⊢
  refine ⟨_, rfl, false, lf, rfl, ⟨_, SqL.of (s1 _ _ hf)⟩, ?_⟩
  refine for_enum (K := K) (b := false) (a := lf) (xs := natsL F) (fun i σ H2 => (∃ v3 v4 v5, σ = [some (.ref l), some (.ref lf), some (.ref lp), v3, v4, v5]) ∧ Same H H2 ∧ ∃ (D : List (Nat × Nat × Nat)) (ps : List V), H2 lp = some (.lst ps) ∧ DnL H2 (D.map partD) ps ∧ D ++ partsF L (F.drop i) = partsF L F) ⟨⟨none, none, none, rfl⟩, s1, [], [], h1, (rfl : ([] : List V) = []), rfl⟩ (fun i σ H2 _ z => SqL.of (z.2.1 _ _ hf)) ?_ ?_
  · rintro i x σ H2 hx ⟨⟨v3, v4, v5, rfl⟩, s2, D, ps, h2, dn, eD⟩ TT hT
    rw [List.getElem?_map] at hx
    obtain ⟨x, hx0, rfl⟩ := Option.map_eq_some_iff.mp hx
    have s3 := same_new hT (.tup [.int (i : Int), .int (x : Int)])
    refine ⟨TT, _, rfl, sqT upd_same, rfl, _, _, rfl, _, _, rfl, rfl, ?_⟩
    have h3 := s3 _ _ h2
    have dn3 := DnL.same s3 _ _ dn
    have s23 := s2.trans s3
    generalize L2.upd H2 TT (.tup [.int (i : Int), .int (x : Int)]) = H3 at s3 s23 h3 dn3 ⊢
    have hi : i < F.length := (List.getElem?_eq_some_iff.mp hx0).1
    refine ⟨_, rfl, _, rfl, _, _, rfl, rfl, _, rfl, lf, _, rfl, SqL.of (s23 _ _ hf), fun p hp => ?_⟩
    have ec : cutV (natsL F) (some ((i : Int) + 1)) none = natsL (F.drop (i + 1)) := by
      have := cut_tail (natsL F) (i + 1) (by rw [List.length_map]; omega)
      rw [← List.map_drop] at this
      exact this
    rw [ec]
    have s4 := same_new hp (.lst (natsL (F.drop (i + 1))))
    have h4 := s4 _ _ h3
    have dn4 := DnL.same s4 _ _ dn3
    have s24 := s23.trans s4
    have hp4 : (L2.upd H3 p (.lst (natsL (F.drop (i + 1))))) p = some (.lst (natsL (F.drop (i + 1)))) := upd_same
    have npl : p ≠ lp := fun z => by
      have h3' : H3 lp = some (.lst ps) := h3
      rw [← z, hp] at h3'
      cases h3'
    generalize L2.upd H3 p (.lst (natsL (F.drop (i + 1)))) = H4 at s4 s24 h4 dn4 hp4 ⊢
    refine ⟨p, rfl, ⟨_, SqL.of hp4⟩, ?_⟩
    refine for_list (K := K) (a := p) (xs := natsL (F.drop (i + 1))) (fun j σ H5 => (∃ v5, σ = [some (.ref l), some (.ref lf), some (.ref lp), some (.int (i : Int)), some (.int (x : Int)), v5]) ∧ Same H H5 ∧ H5 p = some (.lst (natsL (F.drop (i + 1)))) ∧ ∃ (D : List (Nat × Nat × Nat)) (ps : List V), H5 lp = some (.lst ps) ∧ DnL H5 (D.map partD) ps ∧ D ++ (((F.drop (i + 1)).drop j).map fun b => (x, b, partW L x b)) ++ partsF L (F.drop (i + 1)) = partsF L F) ⟨⟨v5, rfl⟩, s24, hp4, D, ps, h4, dn4, ?_⟩ (fun j σ H5 _ z => SqL.of z.2.2.1) ?_ ?_
    · rw [← eD, parts_drop hx0, List.append_assoc]
      rfl
    · rintro j y σ H5 hy ⟨⟨v6, rfl⟩, s5, hp5, D5, ps5, h5, dn5, e5⟩
      rw [List.getElem?_map] at hy
      obtain ⟨y, hy0, rfl⟩ := Option.map_eq_some_iff.mp hy
      have hyF : F[i + 1 + j]? = some y := by rw [← hy0, List.getElem?_drop]
      have l5 : ps5.length ≤ 81 := by
        have e6 := congrArg List.length e5
        rw [List.length_append, List.length_append] at e6
        have e7 := dn5.length
        rw [List.length_map] at e7
        omega
      refine ⟨_, rfl, .inl ⟨rfl, _, SqL.of h5⟩, _, rfl, _, rfl, _, rfl, _, rfl, _, rfl, l, L, x, y, rfl, s5 _ _ hl, few, ap i (i + 1 + j) x y (by omega) hx0 hyF, fun H6 s6 => ?_⟩
      refine ⟨small (by show 3 ≤ 1000; decide), fun tt htt => ?_⟩
      have s7 := same_new htt (.tup [.int (x : Int), .int (y : Int), .int (partW L x y : Int)])
      have h7 := s7 _ _ (s6 _ _ h5)
      have ht7 : (L2.upd H6 tt (.tup [.int (x : Int), .int (y : Int), .int (partW L x y : Int)])) tt = some (.tup [.int (x : Int), .int (y : Int), .int (partW L x y : Int)]) := upd_same
      have dn7 := DnL.same (s6.trans s7) _ _ dn5
      have s57 := (s5.trans s6).trans s7
      have hp7 := s7 _ _ (s6 _ _ hp5)
      generalize L2.upd H6 tt (.tup [.int (x : Int), .int (y : Int), .int (partW L x y : Int)]) = H7 at s7 h7 ht7 dn7 s57 hp7 ⊢
      refine ⟨lp, _, _, rfl, rfl, h7, small1000 (by omega), ?_⟩
      have h7' : H7 lp = some (.lst ps5) := h7
      have tu : TupS H7 (L2.upd H7 lp (.lst (ps5 ++ [.ref tt]))) := fun b xs hb => by rw [upd_ne fun z => by rw [z, h7'] at hb; cases hb]; exact hb
      refine ⟨⟨_, rfl⟩, Same.put s57 hlp h7, by rw [upd_ne npl]; exact hp7, D5 ++ [(x, y, partW L x y)], _, upd_same, ?_, ?_⟩
      · rw [List.map_append]
        exact (parts_tup tu _ _ dn7).append ⟨.ref tt, [], rfl, ⟨tt, _, rfl, tu _ _ ht7, _, _, rfl, rfl, _, _, rfl, rfl, _, _, rfl, rfl, rfl⟩, rfl⟩
      · rw [← e5, map_drop hy0, List.append_assoc D5]
        rfl
    · rintro σ H5 ⟨⟨v6, rfl⟩, s5, hp5, D5, ps5, h5, dn5, e5⟩
      refine ⟨⟨_, _, _, rfl⟩, s5, D5, ps5, h5, dn5, ?_⟩
      have e0 : (F.drop (i + 1)).drop (natsL (F.drop (i + 1))).length = [] := by rw [List.length_map, List.drop_length]
      rw [e0, List.map_nil, List.append_nil] at e5
      exact e5
  · rintro σ H2 ⟨⟨v3, v4, v5, rfl⟩, s2, D, ps, h2, dn, eD⟩
    have e0 : partsF L (F.drop (natsL F).length) = [] := by rw [List.length_map, List.drop_length]; rfl
    rw [e0, List.append_nil] at eD
    rw [eD] at dn
    exact ⟨_, rfl, q lp ps H2 s2 hlp h2 dn⟩

end
section
variable {P : Program} {w : World} {K : PySem.W.Frag} {mg : Str → Option Value} {base : Heap} {a : Adr} {d : Fds}
theorem ok_flocks (T : Txt K mg a d) (LB : LamB mg base a.c_cases_of a.t_cases_of) : FnOk P w K mg base CX0 21 a.f_flocks d.f_flocks ["wood"] (spT a.t_cases_of spFlocks) := by
  have G_wares := ok_wares (P := P) (w := w) (base := base) T LB
  have G_has := ok_has (P := P) (w := w) (base := base) T
  have G_parts_of := ok_parts_of (P := P) (w := w) (base := base) T
  refine T.K_flocks.ok sc_flocks (fun vs H Q E h => ?_) (fun cdv A outer s H vs Q E hr h => ?_)
  · obtain ⟨_, wd, m, ts, rfl, _⟩ := h
    rfl
  obtain ⟨tb, wd, m, ts, rfl, W, m1, m9, q⟩ := h
  have fw := wareL_few (m := m) (ts := ts) m9
  generalize hL : wareL m ts = L at fw q
  refine ⟨_, (pss_cons (ps_set (i := 1) sc_flocks.nd rfl (Or.inl rfl) (pe_callD G_wares hr.lv rfl T.K_wares (pa_cons (pv 0) pa_nil)))
      (pss_cons (ps_set (i := 2) sc_flocks.nd rfl (Or.inl rfl) (pe_dnewBK (P := P) (w := w)))
      (pss_cons (ps_for PassesOwn.never rfl (pi_range1 rfl T.m_range (pa_cons (pe_ix (ixT (K := K)) (pv 0) pe_int (fun _ _ => rfl)) pa_nil)) (pg_name (i := 3) sc_flocks.nd rfl (Or.inr rfl)) (pss_one (ps_expr (pe_bmK (K := K) PySem.F.plainAttrs_list PySem.F.slot_list_append PySem.F.type_list_append mt_append (pe_dsetBK (P := P) (w := w) (hu_of hr) (pv 2) (pe_callTy call_tuple_of rfl T.m_tuple PyProof.Rows.boot_tuple (pa_cons (pe_lc (sc0 := defScope s_flocks) (XN := ["wood", "sold", "together", "k", "found"]) (N' := ["ware", "k"]) (n := 1) (kp := [3]) rfl (piL (K := K) (pv 1)) rfl rfl (by decide +kernel) (fun _ _ _ _ _ => (pg_name (i := 0) (by show List.Nodup (["ware", "k"] : List Str); decide +kernel) rfl (Or.inl rfl))) (fun _ _ _ _ _ => pts_nil) (fun _ _ _ _ _ => (pe_callD G_has hr.lv rfl T.K_has (pa_cons (pv 0) (pa_cons (pv 1) pa_nil))))) pa_nil)) (pe_lst pa_nil)) (pa_cons (pv 3) pa_nil)))))
      (pss_cons (ps_set (i := 4) sc_flocks.nd rfl (Or.inl rfl) (pe_callTy (call_listVK (P := P) (w := w) rfl) rfl T.m_list PyProof.Rows.boot_list (pa_cons (pe_valsBK (P := P) (w := w) (pv 2)) pa_nil)))
      (pss_one (ps_ret (pe_tup (pa_cons (pv 4) (pa_cons (pe_callD G_parts_of hr.lv rfl T.K_parts_of (pa_cons (pv 1) (pa_cons (pe_lc (sc0 := defScope s_flocks) (XN := ["wood", "sold", "together", "k", "found"]) (N' := ["flock"]) (n := 1) (kp := []) rfl (piL (K := K) (pv 4)) rfl rfl (by decide +kernel) (fun _ _ _ _ _ => (pg_name (i := 0) (by show List.Nodup (["flock"] : List Str); decide +kernel) rfl (Or.inl rfl))) (fun _ _ _ _ _ => pts_nil) (fun _ _ _ _ _ => (pe_ix (ixL (K := K)) (pv 0) pe_int (fun _ _ => rfl)))) pa_nil))) pa_nil))))))))), ?_⟩
  refine ⟨_, rfl, tb, wd, m, ts, rfl, W, m1, m9, fun ls H1 s1 nls hls => ?_⟩
  rw [hL] at hls
  refine fun dd hdd => ?_
  have s2 := same_new hdd (dB P w dd [])
  have h2 : (L2.upd H1 dd (dB P w dd [])) dd = some (dB P w dd []) := upd_same
  generalize L2.upd H1 dd (dB P w dd []) = H2 at s2 h2 ⊢
  have F0 : FlI P w H1 H2 dd L 0 [] := ⟨s2, h2, rfl, fun x hx => by simp at hx, fun x hx => by simp at hx, fun x hx => by simp at hx, fun x hx => by simp at hx, hdd⟩
  obtain ⟨xs0, ys0, ⟨tb1, tc1, hw, hb, hc⟩, _⟩ := (W.same (s1.trans s2)).ex
  refine ⟨_, rfl, wd, _, _, _, rfl, rfl, sqT hw, at0, _, rfl, by omega, by omega, ?_⟩
  rw [Int.toNat_natCast]
  refine for_range0 (n := m) (fun k σ H3 => (∃ v3, σ = [some (.ref wd), some (.ref ls), some (.ref dd), v3, none]) ∧ ∃ xs, FlI P w H1 H3 dd L k xs) ⟨⟨none, rfl⟩, [], F0⟩ ?_ ?_
  · rintro k σ H3 hk ⟨⟨v3, rfl⟩, xs, F⟩
    have xl : xs.length ≤ 9 := by
      have e := congrArg List.length F.keys
      rw [List.length_map, List.length_map] at e
      have := frs_len L k
      omega
    refine ⟨_, rfl, dd, rfl, ⟨xs, F.dct⟩, _, rfl, ls, rfl, ⟨_, SqL.of (F.same _ _ hls)⟩, ?_⟩
    refine lc_list (K := K) (a := ls) (xs := natsL L) (fun i ys σ H4 => (∃ v, σ = [v, some (.int (k : Int))]) ∧ H4 = H3 ∧ ys = (mkB (L.take i) k).map bV) ⟨⟨none, rfl⟩, rfl, rfl⟩ (fun i ys σ H4 hi pv => ?_) (fun i ys σ H4 hi pv => ?_) (fun i x ys σ H4 hx pv => ?_) (fun ys σ H4 pv p hp => ?_)
    · obtain ⟨_, _, rfl⟩ := pv
      rw [List.length_map, mkB, List.length_map, List.length_take]
      exact small (by omega)
    · rw [pv.2.1]; exact SqL.of (F.same _ _ hls)
    · obtain ⟨⟨v, rfl⟩, rfl, rfl⟩ := pv
      rw [List.getElem?_map] at hx
      obtain ⟨x, hx0, rfl⟩ := Option.map_eq_some_iff.mp hx
      refine ⟨_, rfl, _, rfl, (x : Int), (k : Int), rfl, ⟨_, rfl⟩, rfl, ?_⟩
      obtain ⟨hi, e⟩ := List.getElem?_eq_some_iff.mp hx0
      rw [List.take_succ, hx0, hasV_nat]
      unfold mkB
      rw [Option.toList_some, List.map_append, List.map_append]
      rfl
    · obtain ⟨⟨v, rfl⟩, rfl, rfl⟩ := pv
      have et : L.take (natsL L).length = L := by rw [List.length_map, List.take_length]
      rw [et]
      have sA := same_new hp (.lst ((mkB L k).map bV))
      have hpA : (L2.upd H4 p (.lst ((mkB L k).map bV))) p = some (.lst ((mkB L k).map bV)) := upd_same
      generalize L2.upd H4 p (.lst ((mkB L k).map bV)) = HA at sA hpA ⊢
      refine ⟨p, _, rfl, .inl ⟨SqL.of hpA, fun t ht => ?_⟩⟩
      have sB := same_new ht (.tup ((mkB L k).map bV))
      have htB : (L2.upd HA t (.tup ((mkB L k).map bV))) t = some (.tup ((mkB L k).map bV)) := upd_same
      generalize L2.upd HA t (.tup ((mkB L k).map bV)) = HB at sB htB ⊢
      refine ⟨small (by decide), fun c hc => ?_⟩
      have sC := same_new hc (.lst [])
      have hcC : (L2.upd HB c (.lst [])) c = some (.lst []) := upd_same
      have FB := F.kept (sA.trans sB)
      have FC := FB.kept sC
      have nc : H1 c = none := FB.same.free hc
      have nx : ∀ x ∈ xs, x.2.2 ≠ c := fun x hx z => by
        have := FB.row x hx
        rw [z, hc] at this
        cases this
      have htC := sC _ _ htB
      generalize L2.upd HB c (.lst []) = HC at sC hcC FC htC ⊢
      have nd : (xs.map (·.1)).Nodup := by rw [F.keys]; exact frs_nodup L k
      refine ⟨xs, t, mkB L k, c, rfl, htC, rfl, FC.dct, FC.tup, nd, small1000 (by omega), fun x hx => ?_, fun hn => ?_⟩
      · obtain ⟨g1, g2⟩ := FC.old hx
        have rl := rowK_len L k (mkB L k)
        refine ⟨.inl ⟨rfl, _, SqL.of g1⟩, _, rfl, x.2.2, _, _, rfl, rfl, g1, small1000 (by rw [List.length_map]; omega), ?_⟩
        exact ⟨⟨_, rfl⟩, xs, g2⟩
      · obtain ⟨g1, g2⟩ := FC.newr hn htC hcC nc nx
        refine ⟨.inl ⟨rfl, _, SqL.of g1⟩, _, rfl, c, _, _, rfl, rfl, g1, small1000 (by show 0 ≤ 1000; omega), ?_⟩
        exact ⟨⟨_, rfl⟩, _, g2⟩
  · rintro σ H3 ⟨⟨v3, rfl⟩, xs, F⟩
    have ml : (frs L m).length ≤ 9 := Nat.le_trans (frs_len L m) m9
    have kl : xs.length = (frs L m).length := by
      have e := congrArg List.length F.keys
      rwa [List.length_map, List.length_map] at e
    have kat : ∀ (i f : Nat), (frs L m)[i]? = some f → ∃ x : BEn, xs[i]? = some x ∧ x.1 = mkB L f := fun i f hf => by
      have e : (xs.map (·.1))[i]? = some (mkB L f) := by rw [F.keys, List.getElem?_map, hf]; rfl
      rw [List.getElem?_map] at e
      obtain ⟨x, h1, h2⟩ := Option.map_eq_some_iff.mp e
      exact ⟨x, h1, h2⟩
    refine ⟨_, rfl, dd, xs, rfl, F.dct, fun vw hvw => ?_⟩
    have sA := same_new hvw (vB vw dd)
    have hvA : (L2.upd H3 vw (vB vw dd)) vw = some (vB vw dd) := upd_same
    generalize L2.upd H3 vw (vB vw dd) = HA at sA hvA ⊢
    refine ⟨vw, dd, xs, rfl, hvA, sA _ _ F.dct, fun lf hlf => ?_⟩
    have sB := same_new hlf (.lst (xs.map fun x => V.ref x.2.2))
    have hlB : (L2.upd HA lf (.lst (xs.map fun x => V.ref x.2.2))) lf = some (.lst (xs.map fun x => V.ref x.2.2)) := upd_same
    have FA := F.kept sA
    have FB := FA.kept sB
    have nrl : ∀ x ∈ xs, x.2.2 ≠ lf := fun x hx z => by
      have := FA.row x hx
      rw [z, hlf] at this
      cases this
    generalize L2.upd HA lf (.lst (xs.map fun x => V.ref x.2.2)) = HB at sB hlB FB ⊢
    refine ⟨_, rfl, _, rfl, _, rfl, lf, rfl, ⟨_, SqL.of hlB⟩, ?_⟩
    refine lc_list (K := K) (a := lf) (xs := xs.map fun x => V.ref x.2.2) (fun i ys σ H4 => (∃ v, σ = [v]) ∧ H4 = HB ∧ ys = natsL ((frs L m).take i)) ⟨⟨none, rfl⟩, rfl, rfl⟩ (fun i ys σ H4 hi pv => ?_) (fun i ys σ H4 hi pv => ?_) (fun i x ys σ H4 hx pv => ?_) (fun ys σ H4 pv p hp => ?_)
    · obtain ⟨_, _, rfl⟩ := pv
      rw [List.length_map, List.length_take]
      exact small (by omega)
    · rw [pv.2.1]; exact SqL.of hlB
    · obtain ⟨⟨v, rfl⟩, rfl, rfl⟩ := pv
      rw [List.getElem?_map] at hx
      obtain ⟨x, hx0, rfl⟩ := Option.map_eq_some_iff.mp hx
      have hi : i < (frs L m).length := by rw [← kl]; exact (List.getElem?_eq_some_iff.mp hx0).1
      obtain ⟨f, hf⟩ : ∃ f, (frs L m)[i]? = some f := ⟨_, List.getElem?_eq_getElem hi⟩
      obtain ⟨x', h1, h2⟩ := kat i f hf
      rw [hx0] at h1
      cases h1
      obtain ⟨r, er⟩ := row_head (List.mem_of_getElem? hf)
      have hr0 := FB.row x (List.mem_of_getElem? hx0)
      rw [h2] at hr0
      refine ⟨_, rfl, x.2.2, _, _, _, rfl, rfl, SqL.of hr0, (show atI (natsL (rowF L m f)) 0 = some (.int (f : Int)) by rw [er]; exact at0), ⟨_, rfl⟩, rfl, ?_⟩
      rw [List.take_succ, hf, Option.toList_some]
      exact (List.map_append (l₁ := (frs L m).take i) (l₂ := [f])).symm
    · obtain ⟨⟨v, rfl⟩, rfl, rfl⟩ := pv
      have et : (frs L m).take (xs.map fun x => V.ref x.2.2).length = frs L m := by rw [List.length_map, kl, List.take_length]
      rw [et]
      have sC := same_new hp (.lst (natsL (frs L m)))
      have hpC : (L2.upd H4 p (.lst (natsL (frs L m)))) p = some (.lst (natsL (frs L m))) := upd_same
      have FC := FB.kept sC
      have hlC := sC _ _ hlB
      generalize L2.upd H4 p (.lst (natsL (frs L m))) = HC at sC hpC FC hlC ⊢
      refine ⟨ls, p, L, frs L m, rfl, FC.same _ _ hls, hpC, by omega, ml, fun i j a b hij ha hb => frs_apart hij ha hb, fun lp ps HD sD nlp hlp dn => ?_⟩
      refine ⟨small (by show 2 ≤ 1000; decide), fun t ht => ?_⟩
      have sE := same_new ht (.tup [.ref lf, .ref lp])
      have htE : (L2.upd HD t (.tup [.ref lf, .ref lp])) t = some (.tup [.ref lf, .ref lp]) := upd_same
      have FE := (FC.kept sD).kept sE
      have n1 : H lf = none := s1.free (FA.same.free hlf)
      have n2 : H lp = none := s1.free (FC.same.free nlp)
      have n3 : H t = none := s1.free ((FC.same.trans sD).free ht)
      refine q t lf lp (xs.map fun x => x.2.2) ps _ (s1.trans FE.same) n3 n1 n2 (fun r hr => ?_) ⟨htE, ?_, ?_, sE _ _ hlp, DnL.same sE _ _ dn, fun z => ?_, fun r hr => ?_⟩
      · obtain ⟨x, hx, rfl⟩ := List.mem_map.mp hr
        exact s1.free (F.new x hx)
      · rw [List.map_map]
        exact sE _ _ (sD _ _ hlC)
      · exact rows_dnl _ _ FE.keys FE.row
      · have hlC' : HC lf = _ := hlC
        rw [z, nlp] at hlC'
        cases hlC'
      · obtain ⟨x, hx, rfl⟩ := List.mem_map.mp hr
        refine ⟨nrl x hx, fun z => ?_⟩
        have := FC.row x hx
        rw [z, nlp] at this
        cases this

end
section
variable {P : Program} {w : World} {K : PySem.W.Frag} {mg : Str → Option Value} {base : Heap} {a : Adr} {d : Fds}
theorem ok_law_cell (T : Txt K mg a d) : FnOk P w K mg base CX0 1 a.f_law_cell d.f_law_cell ["_law_script", "_law_k"] (spCellP K) := by
  refine T.K_law_cell.ok sc_law_cell (fun vs H Q E h => ?_) (fun cdv A outer s H vs Q E hr h => ?_)
  · obtain ⟨p, ns, k, rfl, _⟩ := h
    rfl
  obtain ⟨p, ns, k, rfl, hS, hl, k0, k1, q⟩ := h
  have el : (ns.map V.int).length = ns.length := List.length_map _
  have item : ∀ j : Int, 0 ≤ j → j < ns.length → ∃ v : Int, atI (ns.map V.int) j = some (.int v) := fun j j0 j1 => by
    obtain ⟨m, rfl⟩ : ∃ m : Nat, j = (m : Int) := ⟨j.toNat, by omega⟩
    have hj : m < ns.length := by omega
    refine ⟨ns[m], atI_nat ?_⟩
    rw [List.getElem?_map, List.getElem?_eq_getElem hj]
    rfl
  refine ⟨_, (pss_cons (ps_if (pt_cmpR op_lt (pv 1) (pe_callB (lenS (K := K)) rfl T.m_len PySem.boot_len (pa_cons (pv 0) pa_nil)) (nomark _)) (pss_one (ps_ret (pe_ix (ixL (K := K)) (pv 0) (pv 1) (fun _ _ => rfl)))) pss_nil)
      (pss_cons (ps_set (i := 2) sc_law_cell.nd rfl (Or.inl rfl) (pe_op op_add (pe_op op_mul (pv 1) pe_int) pe_int))
      (pss_cons (ps_if (pt_cmpR op_gt (pe_callB (lenS (K := K)) rfl T.m_len PySem.boot_len (pa_cons (pv 0) pa_nil)) pe_int (nomark _)) (pss_cons (ps_set (i := 3) sc_law_cell.nd rfl (Or.inl rfl) (pe_ix (ixL (K := K)) (pv 0) (pe_op op_mod (pe_op op_mul (pv 1) pe_int) (pe_callB (lenS (K := K)) rfl T.m_len PySem.boot_len (pa_cons (pv 0) pa_nil))) (fun _ _ => rfl)))
      (pss_one (ps_set (i := 2) sc_law_cell.nd rfl (Or.inl rfl) (pe_op op_mod (pe_op op_add (pe_op op_add (pe_op op_mul (pv 3) pe_int) (pe_op op_mul (pe_op op_mul (pv 1) (pv 1)) pe_int)) (pv 1)) pe_int)))) pss_nil)
      (pss_one (ps_ret (pe_op op_mod (pe_op op_mul (pv 2) (pv 2)) pe_int)))))), ?_⟩
  refine ⟨_, rfl, _, rfl, p, _, rfl, .inl hS, _, _, rfl, rfl, _, rfl, ?_⟩
  refine ite2 (fun c => ?_) (fun c => ?_)
  · have c' : k < ((ns.map V.int).length : Nat) := of_decide_eq_true c
    rw [el] at c'
    obtain ⟨v, hv⟩ := item k k0 c'
    exact ⟨_, rfl, _, rfl, p, _, _, _, rfl, rfl, hS, hv, q v⟩
  · refine ⟨_, rfl, _, _, rfl, rfl, .inr ⟨by decide, by decide⟩, _, _, rfl, rfl, ?_⟩
    refine ⟨_, rfl, p, _, rfl, .inl hS, _, _, rfl, rfl, _, rfl, ?_⟩
    refine ite2 (fun c2 => ?_) (fun c2 => ?_)
    · have c2' : (0 : Int) < ((ns.map V.int).length : Nat) := of_decide_eq_true c2
      rw [el] at c2'
      have m0 : 0 ≤ k * 7 % (ns.length : Int) := Int.emod_nonneg _ (by omega)
      have m1 : k * 7 % (ns.length : Int) < ns.length := Int.emod_lt_of_pos _ c2'
      obtain ⟨v, hv⟩ := item _ m0 m1
      refine ⟨_, rfl, _, rfl, _, _, rfl, rfl, .inr ⟨by decide, by decide⟩, _, rfl, p, _, rfl, .inl hS, _, _, rfl, rfl, (by rw [el]; exact c2'), p, _, _, _, rfl, rfl, hS, (by rw [el]; exact hv), ?_⟩
      refine ⟨_, rfl, _, _, rfl, rfl, .inr ⟨by decide, by decide⟩, _, rfl, _, rfl, _, _, rfl, rfl, (by unfold CMul; omega), _, _, rfl, rfl, .inr ⟨by decide, by decide⟩, _, _, rfl, rfl, _, rfl, _, _, rfl, rfl, _, _, rfl, rfl, (by show (0 : Int) < 2147483647; decide), ?_⟩
      have n0 : 0 ≤ (v * 48271 + k * k * 7919 + k) % 2147483647 := Int.emod_nonneg _ (by decide)
      have n1 : (v * 48271 + k * k * 7919 + k) % 2147483647 < 2147483647 := Int.emod_lt_of_pos _ (by decide)
      exact ⟨_, rfl, _, rfl, _, _, rfl, rfl, (by unfold CMul; omega), _, _, rfl, rfl, (by show (0 : Int) < 2147483629; decide), q _⟩
    · exact ⟨_, rfl, _, rfl, _, _, rfl, rfl, (by unfold CMul; omega), _, _, rfl, rfl, (by show (0 : Int) < 2147483629; decide), q _⟩

end
section
variable {P : Program} {w : World} {K : PySem.W.Frag} {mg : Str → Option Value} {base : Heap} {a : Adr} {d : Fds}
theorem ok_law_next (T : Txt K mg a d) : FnOk P w K mg base CX0 2 a.f_law_next d.f_law_next ["_law_pen", "_law_most"] (spNext K) := by
  have G_law_cell := ok_law_cell (P := P) (w := w) (base := base) T
  refine T.K_law_next.ok sc_law_next (fun vs H Q E h => ?_) (fun cdv A outer s H vs Q E hr h => ?_)
  · obtain ⟨pen, sp, ns, most, k, rfl, _⟩ := h
    rfl
  obtain ⟨pen, sp, ns, most, k, rfl, pn, k0, k1, m0, q⟩ := h
  have hp := pn.at_
  refine ⟨_, (pss_cons (ps_set (i := 2) sc_law_next.nd rfl (Or.inl rfl) (pe_op op_mod (pe_callD G_law_cell hr.lv rfl T.K_law_cell (pa_cons (pe_ix (ixL (K := K)) (pv 0) pe_int (fun _ _ => rfl)) (pa_cons (pe_ix (ixL (K := K)) (pv 0) pe_int (fun _ _ => rfl)) pa_nil))) (pv 1)))
      (pss_cons (ps_asg (pe_op op_add (pe_ix (ixL (K := K)) (pv 0) pe_int (fun _ _ => rfl)) pe_int) (pg_sub (pv 0) pe_int set_list))
      (pss_one (ps_ret (pv 2))))), ?_⟩
  refine ⟨_, rfl, pen, _, _, _, rfl, rfl, SqL.of hp, at0, _, rfl, pen, _, _, _, rfl, rfl, SqL.of hp, at1, sp, ns, k, rfl, pn.scr H (SameX.refl _ _), pn.len, k0, k1, fun c => ?_⟩
  refine ⟨_, rfl, _, _, rfl, rfl, m0, ?_⟩
  refine ⟨_, rfl, pen, _, _, _, rfl, rfl, SqL.of hp, at1, _, _, rfl, rfl, _, rfl, pen, _, _, _, rfl, rfl, hp, rfl, ?_⟩
  exact ⟨_, rfl, q _ (Int.emod_nonneg _ (by omega)) (Int.emod_lt_of_pos _ m0)⟩

end
section
variable {P : Program} {w : World} {K : PySem.W.Frag} {mg : Str → Option Value} {base : Heap} {a : Adr} {d : Fds}
theorem ok_law_kids (T : Txt K mg a d) : FnOk P w K mg base CX0 3 a.f_law_kids d.f_law_kids ["_law_pen", "_law_many"] (spKidsP K) := by
  have G_law_next := ok_law_next (P := P) (w := w) (base := base) T
  refine T.K_law_kids.ok sc_law_kids (fun vs H Q E h => ?_) (fun cdv A outer s H vs Q E hr h => ?_)
  · obtain ⟨pen, sp, ns, m, k, rfl, _⟩ := h
    rfl
  obtain ⟨pen, sp, ns, m, k, rfl, pn, k0, k1, m1, m9, q⟩ := h
  have p62 : (2 : Int) ^ 62 = 4611686018427387904 := by decide
  refine ⟨_, (pss_cons (ps_set (i := 2) sc_law_kids.nd rfl (Or.inl rfl) (pe_lst pa_nil))
      (pss_cons (ps_for PassesOwn.never rfl (pi_range2 rfl T.m_range (pa_cons pe_int (pa_cons (pv 1) pa_nil))) (pg_name (i := 3) sc_law_kids.nd rfl (Or.inl rfl)) (pss_one (ps_if (PW.pt (pw_or (pt_cmpR op_eq (pe_callB (lenS (K := K)) rfl T.m_len PySem.boot_len (pa_cons (pv 2) pa_nil)) pe_int (nomark _)) (pw_or1 (pt_cmpR op_eq (pe_callD G_law_next hr.lv rfl T.K_law_next (pa_cons (pv 0) (pa_cons pe_int pa_nil))) pe_int (nomark _))))) (pss_one (ps_expr (pe_bmK (K := K) PySem.F.plainAttrs_list PySem.F.slot_list_append PySem.F.type_list_append mt_append (pv 2) (pa_cons (pe_tup (pa_cons (pe_callD G_law_next hr.lv rfl T.K_law_next (pa_cons (pv 0) (pa_cons (pv 3) pa_nil))) (pa_cons (pe_lst (pa_cons (pv 3) pa_nil)) pa_nil))) pa_nil)))) (pss_one (ps_expr (pe_bmK (K := K) PySem.F.plainAttrs_list PySem.F.slot_list_append PySem.F.type_list_append mt_append (pe_ix (ixT (K := K)) (pe_ix (ixL (K := K)) (pv 2) (pe_callD G_law_next hr.lv rfl T.K_law_next (pa_cons (pv 0) (pa_cons (pe_callB (lenS (K := K)) rfl T.m_len PySem.boot_len (pa_cons (pv 2) pa_nil)) pa_nil))) (fun _ _ => rfl)) pe_int (fun _ _ => rfl)) (pa_cons (pv 3) pa_nil)))))))
      (pss_one (ps_ret (pv 2))))), ?_⟩
  refine ⟨small (by decide), fun g hg => ?_⟩
  have ngp : pen ≠ g := ne_of_none pn.at_ hg
  refine ⟨_, rfl, _, _, rfl, ⟨by rw [p62]; omega, by rw [p62]; omega, by rw [p62]; omega, by rw [p62]; omega⟩, ?_⟩
  refine for_range (lo := 1) (n := ((m : Int) - 1).toNat) (fun i σ H2 => ∃ (v3 : Option V) (gs : List Grp) (kk : Int), σ = [some (.ref pen), some (.int m), some (.ref g), v3] ∧ SameX pen H H2 ∧ H2 pen = some (.lst [.ref sp, .int kk]) ∧ k ≤ kk ∧ kk ≤ k + 2 * i ∧ GAt H H2 g gs ∧ GOk ((i : Int) + 1) gs)
    ⟨none, [], k, rfl, Same.x (same_new hg _), (same_new hg _) _ _ pn.at_, Int.le_refl _, by omega, ⟨upd_same, hg, (fun _ z => nomatch z), (fun _ z => nomatch z), List.nodup_nil⟩, ⟨(fun _ z => nomatch z), List.Perm.refl _⟩⟩ ?_ ?_
  · rintro i σ H2 hi ⟨v3, gs, kk, rfl, sx, hp2, kk0, kk1, GA, GK⟩
    have few := GK.few
    have i9 : (i : Int) < 9 := by omega
    have el : (gs.map fun x => V.ref x.t).length = gs.length := List.length_map _
    have e1 : 1 + (i : Int) = (i : Int) + 1 := by omega
    have e2 : ((i + 1 : Nat) : Int) + 1 = (i : Int) + 2 := by omega
    refine ⟨_, rfl, g, _, rfl, .inl (SqL.of GA.at_), rfl, _, rfl, ?_⟩
    rw [dec_cnt0, el]
    refine ite2 (fun c => ?h1) (fun c => ?h2)
    case' h1 => refine iteT ?_
    case' h1 => obtain ⟨k3, k30, k31, hp3⟩ : ∃ k3, k ≤ k3 ∧ k3 ≤ k + 2 * i + 1 ∧ H2 pen = some (.lst [.ref sp, .int k3]) := ⟨kk, kk0, by omega, hp2⟩
    case' h1 => have GA3 : GAt H H2 g gs := GA
    case' h1 => have sx3 : SameX pen H H2 := sx
    case' h1 => generalize H2 = H3 at hp3 GA3 sx3 ⊢
    case' h2 => refine ⟨_, rfl, pen, sp, ns, 3, kk, rfl, pn.to sx hp2, by omega, by omega, by decide, fun c2 c20 c21 => ?_⟩
    case' h2 => obtain ⟨k3, k30, k31, hp3⟩ : ∃ k3, k ≤ k3 ∧ k3 ≤ k + 2 * i + 1 ∧ L2.upd H2 pen (.lst [.ref sp, .int (kk + 1)]) pen = some (.lst [.ref sp, .int k3]) := ⟨kk + 1, by omega, by omega, upd_same⟩
    case' h2 => have GA3 : GAt H (L2.upd H2 pen (.lst [.ref sp, .int (kk + 1)])) g gs := GA.pen ⟨_, pn.at_⟩ hp2
    case' h2 => have sx3 : SameX pen H (L2.upd H2 pen (.lst [.ref sp, .int (kk + 1)])) := sx.trans (sameX_pen _)
    case' h2 => generalize L2.upd H2 pen (.lst [.ref sp, .int (kk + 1)]) = H3 at hp3 GA3 sx3 ⊢
    case' h2 => refine ⟨rfl, _, rfl, ?_⟩
    case' h2 => refine ite2 (fun c3 => ?h3) (fun c3 => ?h4)
    case h4 =>
      have glen : ¬ gs.length = 0 := fun z => c (decide_eq_true z)
      refine ⟨_, rfl, _, rfl, _, rfl, g, _, rfl, .inl (SqL.of GA3.at_), pen, sp, ns, _, k3, rfl, pn.to sx3 hp3, by omega, by omega, (by rw [el]; omega), fun j j0 j1 => ?_⟩
      rw [el] at j1
      obtain ⟨jn, rfl⟩ : ∃ jn : Nat, j = (jn : Int) := ⟨j.toNat, by omega⟩
      have GA4 := GA3.pen (ys := [.ref sp, .int (k3 + 1)]) ⟨_, pn.at_⟩ hp3
      have sx4 := sx3.trans (sameX_pen (H := H3) (.lst [.ref sp, .int (k3 + 1)]))
      have jl : jn < gs.length := by omega
      have hx : gs[jn] ∈ gs := List.getElem_mem jl
      have egs : gs = gs.take jn ++ gs[jn] :: gs.drop (jn + 1) := by
        rw [List.getElem_cons_drop, List.take_append_drop]
      generalize hxx : gs[jn] = x at *
      have ty := GA4.tup x hx
      have ly := GA4.lst x hx
      refine ⟨g, _, _, .ref x.t, rfl, rfl, SqL.of GA4.at_, atI_nat (by rw [List.getElem?_map, List.getElem?_eq_getElem jl, hxx]; rfl), x.t, _, _, _, rfl, rfl, sqT ty, at1, .inl ⟨rfl, _, SqL.of ly.1⟩, _, rfl, x.l, _, _, rfl, rfl, ly.1, ?_, ?_⟩
      · have h1 := GK.perm.length_eq
        rw [List.length_map, List.length_range', egs, List.flatMap_append, List.flatMap_cons, List.length_append, List.length_append] at h1
        rw [List.length_map]
        exact small1000 (by omega)
      have G5 : GAt H _ g _ := GAt.put (k := 1 + (i : Int)) (pre := gs.take jn) (post := gs.drop (jn + 1)) (x := x) (by rw [← egs]; exact GA4)
      refine ⟨_, _, k3 + 1, rfl, SameX.put sx4 ly.2.1 (fun z => by have := pn.at_; rw [← z, ly.2.1] at this; cases this) ly.1, ?_, by omega, by push_cast; omega, G5, ?_⟩
      · rw [upd_ne (fun z => by have := pn.at_; rw [z, ly.2.1] at this; cases this)]
        exact upd_same
      · rw [e2, e1]
        exact GOk.put (k := i) (by rw [← egs]; exact GK)
    all_goals
      refine ⟨_, rfl, .inl ⟨rfl, _, SqL.of GA3.at_⟩, _, rfl, _, rfl, pen, sp, ns, _, k3, rfl, pn.to sx3 hp3, by omega, by omega, by omega, fun u u0 u1 => ?_⟩
      have GA4 := GA3.pen (ys := [.ref sp, .int (k3 + 1)]) ⟨_, pn.at_⟩ hp3
      have sx4 := sx3.trans (sameX_pen (H := H3) (.lst [.ref sp, .int (k3 + 1)]))
      refine ⟨_, rfl, small (by show 1 ≤ 1000; decide), fun nl hnl => ?_⟩
      refine ⟨small (by show 2 ≤ 1000; decide), fun nt hnt => ?_⟩
      have s6 := (same_new hnl (.lst [.int (1 + (i : Int))])).trans (same_new hnt (.tup [.int u, .ref nl]))
      refine ⟨g, _, _, rfl, rfl, s6 _ _ GA4.at_, (by rw [el]; exact small1000 (by omega)), ?_⟩
      have G5 := GA4.add2 (u := u) (k := 1 + (i : Int)) (sx4.free ⟨_, upd_same⟩ hnl) hnl hnt
      refine ⟨_, gs ++ [⟨nt, u, nl, [1 + (i : Int)]⟩], k3 + 1, rfl, SameX.put (sx4.trans (Same.x s6)) hg (Ne.symm ngp) (s6 _ _ GA4.at_), ?_, by omega, by push_cast; omega, G5, ?_⟩
      · rw [upd_ne ngp]
        exact s6 _ _ upd_same
      · rw [e2, e1]
        exact GOk.new (k := i) GK u0 (by omega)
  · rintro σ H2 ⟨v3, gs, kk, rfl, sx, hp2, kk0, kk1, GA, GK⟩
    have em : (((m : Int) - 1).toNat : Int) + 1 = (m : Int) := by omega
    rw [em] at GK
    exact ⟨_, rfl, q g gs kk H2 sx hp2 kk0 (by omega) GA GK⟩

end
section
variable {P : Program} {w : World} {K : PySem.W.Frag} {mg : Str → Option Value} {base : Heap} {a : Adr} {d : Fds}
theorem ok_law_bough (T : Txt K mg a d) : FnOk P w K mg base CX0 3 a.f_law_bough d.f_law_bough ["_law_pen", "_law_up", "_law_kids_here"] (spBoughP K) := by
  have G_law_next := ok_law_next (P := P) (w := w) (base := base) T
  refine T.K_law_bough.ok sc_law_bough (fun vs H Q E h => ?_) (fun cdv A outer s H vs Q E hr h => ?_)
  · obtain ⟨pen, sp, ns, l, u, kids, m, k, rfl, _⟩ := h
    rfl
  obtain ⟨pen, sp, ns, l, u, kids, m, k, rfl, pn, k0, k1, hl, nl, kl, u0, kne, ris, q⟩ := h
  have el : (kids.map V.int).length = kids.length := List.length_map _
  have kp := List.length_pos_iff.mpr kne
  have rest5 : ∃ t, PSs (cxOf CX0 P w K mg base ["_law_pen", "_law_up", "_law_kids_here", "_law_size", "_law_low", "_law_high", "_law_way"] "_law_bough" (defScope s_law_bough) a.f_law_bough cdv A outer s H E).nox ((defBody s_law_bough).drop 5) t ∧ ∀ (v3 v6 : Option V) (lo hi k' : Int) (H1 : Hp), SameX pen H H1 → H1 pen = some (.lst [.ref sp, .int k']) → k ≤ k' → k' ≤ k + 3 → 0 ≤ lo → lo ≤ hi → 1 ≤ hi → hi ≤ kids.length →
      t { nx := fun _ H' => Q .non H', rt := Q } [some (.ref pen), some (.int u), some (.ref l), v3, some (.int lo), some (.int hi), v6] H1 := by
    refine ⟨_, (pss_one (ps_ret (pe_tup (pa_cons (pv 1) (pa_cons (pv 4) (pa_cons (pv 5) (pa_cons (pe_callTy call_tuple_of rfl T.m_tuple PyProof.Rows.boot_tuple (pa_cons (pv 2) pa_nil)) pa_nil))))))), ?_⟩
    intro v3 v6 lo hi k' H1 sx hp kk0 kk1 l0 l1 h1 h2
    have hl1 := sx _ _ nl hl
    refine ⟨_, rfl, _, rfl, _, rfl, _, rfl, l, _, rfl, .inl ⟨SqL.of hl1, fun tk htk => ?_⟩⟩
    refine ⟨small (by show 4 ≤ 1000; decide), fun tb htb => ?_⟩
    have s1 := (same_new htk (.tup (kids.map V.int))).trans (same_new htb (.tup [.int u, .int lo, .int hi, .ref tk]))
    refine q (bghD u lo hi kids) _ k' _ (sx.trans (Same.x s1)) (s1 _ _ hp) kk0 kk1 ?_ (bgh_ok u0 kne ris l0 l1 h1 h2) (bgh_flat _ _ _ _ (by omega)) (bgh_kids _ _ _ _)
    exact ⟨tb, _, rfl, upd_same, _, _, rfl, rfl, _, _, rfl, rfl, _, _, rfl, rfl, _, _, rfl, ⟨tk, _, rfl, (same_new htb _) _ _ upd_same, ints_dnl kids⟩, rfl⟩
  obtain ⟨t5, h5, r5⟩ := rest5
  refine ⟨_, (pss_cons (ps_set (i := 3) sc_law_bough.nd rfl (Or.inl rfl) (pe_callB (lenS (K := K)) rfl T.m_len PySem.boot_len (pa_cons (pv 2) pa_nil)))
      (pss_cons (ps_set (i := 4) sc_law_bough.nd rfl (Or.inl rfl) (pe_callD G_law_next hr.lv rfl T.K_law_next (pa_cons (pv 0) (pa_cons (pe_op op_add (pv 3) pe_int) pa_nil))))
      (pss_cons (ps_set (i := 5) sc_law_bough.nd rfl (Or.inl rfl) (pe_callB (call_max2 rfl) rfl T.m_max PyProof.Rows.boot_max (pa_cons pe_int (pa_cons (pe_op op_add (pv 4) (pe_callD G_law_next hr.lv rfl T.K_law_next (pa_cons (pv 0) (pa_cons (pe_op op_add (pe_op op_sub (pv 3) (pv 4)) pe_int) pa_nil)))) pa_nil))))
      (pss_cons (ps_set (i := 6) sc_law_bough.nd rfl (Or.inl rfl) (pe_callD G_law_next hr.lv rfl T.K_law_next (pa_cons (pv 0) (pa_cons pe_int pa_nil))))
      (pss_cons (ps_if (pt_cmpR op_lt (pv 6) pe_int (nomark _)) (pss_one (ps_asg (pe_ix (ixL (K := K)) (pe_lst (pa_cons (pe_tup (pa_cons (pv 3) (pa_cons (pv 3) pa_nil))) (pa_cons (pe_tup (pa_cons pe_int (pa_cons (pv 3) pa_nil))) (pa_cons (pe_tup (pa_cons pe_int (pa_cons pe_int pa_nil))) (pa_cons (pe_tup (pa_cons pe_int (pa_cons pe_int pa_nil))) pa_nil))))) (pv 6) (fun _ _ => rfl)) (pgT (K := K) (n := 2) rfl (pgs_cons (pg_name (i := 4) sc_law_bough.nd rfl (Or.inl rfl)) (pgs_cons (pg_name (i := 5) sc_law_bough.nd rfl (Or.inl rfl)) pgs_nil))))) pss_nil)
      h5))))), ?_⟩
  refine ⟨_, rfl, l, _, rfl, .inl (SqL.of hl), ?_⟩
  rw [el]
  refine ⟨_, rfl, _, rfl, _, _, rfl, rfl, pen, sp, ns, _, k, rfl, pn, by omega, by omega, by omega, fun lo lo0 lo1 => ?_⟩
  have sx1 := sameX_pen (pen := pen) (H := H) (.lst [.ref sp, .int (k + 1)])
  refine ⟨_, rfl, _, rfl, _, rfl, _, rfl, _, _, rfl, rfl, _, _, rfl, rfl, pen, sp, ns, _, k + 1, rfl, pn.to sx1 upd_same, by omega, by omega, by omega, fun x x0 x1 => ?_⟩
  have sx2 := sx1.trans (sameX_pen (pen := pen) (.lst [.ref sp, .int (k + 1 + 1)]))
  refine ⟨_, _, rfl, rfl, _, _, rfl, ?_⟩
  refine ⟨_, rfl, pen, sp, ns, 6, k + 1 + 1, rfl, pn.to sx2 upd_same, by omega, by omega, by decide, fun y y0 y1 => ?_⟩
  have sx3 := sx2.trans (sameX_pen (pen := pen) (.lst [.ref sp, .int (k + 1 + 1 + 1)]))
  generalize hH3 : L2.upd (L2.upd (L2.upd H pen (.lst [.ref sp, .int (k + 1)])) pen (.lst [.ref sp, .int (k + 1 + 1)])) pen (.lst [.ref sp, .int (k + 1 + 1 + 1)]) = H3 at *
  have hp3 : H3 pen = some (.lst [.ref sp, .int (k + 1 + 1 + 1)]) := by rw [← hH3]; exact upd_same
  refine ⟨_, rfl, _, _, rfl, rfl, _, rfl, ?_⟩
  refine ite2 (fun c => ?_) (fun c => ?_)
  · have c' : y < 4 := of_decide_eq_true c
    refine ⟨_, rfl, _, rfl, small (by show 2 ≤ 1000; decide), fun t1 ht1 => ?_⟩
    refine ⟨_, rfl, small (by show 2 ≤ 1000; decide), fun t2 ht2 => ?_⟩
    refine ⟨small (by show 2 ≤ 1000; decide), fun t3 ht3 => ?_⟩
    refine ⟨small (by show 2 ≤ 1000; decide), fun t4 ht4 => ?_⟩
    refine ⟨small (by show 4 ≤ 1000; decide), fun tl htl => ?_⟩
    have s1 := same_new ht1 (.tup [.int (kids.length : Nat), .int (kids.length : Nat)])
    have s2 := same_new ht2 (.tup [.int 0, .int (kids.length : Nat)])
    have s3 := same_new ht3 (.tup [.int 1, .int 1])
    have s4 := same_new ht4 (.tup [.int 0, .int 1])
    have s5 := same_new htl (.lst [.ref t1, .ref t2, .ref t3, .ref t4])
    have sA := (((s1.trans s2).trans s3).trans s4).trans s5
    obtain ⟨tt, lo', hi', hat, ht, q1, q2, q3, q4⟩ : ∃ (tt : Addr) (lo' hi' : Int), atI [V.ref t1, V.ref t2, V.ref t3, V.ref t4] y = some (.ref tt) ∧ L2.upd (L2.upd (L2.upd (L2.upd (L2.upd H3 t1 (.tup [.int (kids.length : Nat), .int (kids.length : Nat)])) t2 (.tup [.int 0, .int (kids.length : Nat)])) t3 (.tup [.int 1, .int 1])) t4 (.tup [.int 0, .int 1])) tl (.lst [.ref t1, .ref t2, .ref t3, .ref t4]) tt = some (.tup [.int lo', .int hi']) ∧ 0 ≤ lo' ∧ lo' ≤ hi' ∧ 1 ≤ hi' ∧ hi' ≤ kids.length := by
      have e : y = 0 ∨ y = 1 ∨ y = 2 ∨ y = 3 := by omega
      rcases e with e | e | e | e <;> rw [e]
      · exact ⟨t1, _, _, rfl, s5 _ _ (s4 _ _ (s3 _ _ (s2 _ _ upd_same))), by omega, by omega, by omega, by omega⟩
      · exact ⟨t2, _, _, rfl, s5 _ _ (s4 _ _ (s3 _ _ upd_same)), by omega, by omega, by omega, by omega⟩
      · exact ⟨t3, _, _, rfl, s5 _ _ (s4 _ _ upd_same), by omega, by omega, by omega, by omega⟩
      · exact ⟨t4, _, _, rfl, s5 _ _ upd_same, by omega, by omega, by omega, by omega⟩
    refine ⟨_, rfl, tl, _, _, _, rfl, rfl, SqL.of upd_same, hat, ?_⟩
    refine ⟨tt, _, rfl, sqT ht, rfl, _, _, rfl, _, _, rfl, rfl, ?_⟩
    exact r5 _ _ lo' hi' (k + 1 + 1 + 1) _ (sx3.trans (Same.x sA)) (sA _ _ hp3) (by omega) (by omega) q1 q2 q3 q4
  · refine r5 _ _ lo _ (k + 1 + 1 + 1) _ sx3 hp3 (by omega) (by omega) lo0 ?_ ?_ ?_
    all_goals split <;> omega

end
section
variable {P : Program} {w : World} {K : PySem.W.Frag} {mg : Str → Option Value} {base : Heap} {a : Adr} {d : Fds}
theorem ok_law_cross (T : Txt K mg a d) : FnOk P w K mg base CX0 3 a.f_law_cross d.f_law_cross ["_law_pen", "_law_many"] (spCrossP K) := by
  have G_law_next := ok_law_next (P := P) (w := w) (base := base) T
  refine T.K_law_cross.ok sc_law_cross (fun vs H Q E h => ?_) (fun cdv A outer s H vs Q E hr h => ?_)
  · obtain ⟨pen, sp, ns, m, k, rfl, _⟩ := h
    rfl
  obtain ⟨pen, sp, ns, m, k, rfl, pn, k0, k1, m1, m9, q⟩ := h
  have p62 : (2 : Int) ^ 62 = 4611686018427387904 := by decide
  have rest3 : ∃ t, PSs (cxOf CX0 P w K mg base ["_law_pen", "_law_many", "_law_way", "_law_a", "_law_some", "_law_by", "_law_numbers", "_law_pairs", "_law_k", "_law_most"] "_law_cross" (defScope s_law_cross) a.f_law_cross cdv A outer s H E).nox ((defBody s_law_cross).drop 3) t ∧ ∀ (way : Int) (v3 : Option V) (H1 : Hp), SameX pen H H1 → H1 pen = some (.lst [.ref sp, .int (k + 1 + 1)]) →
      t { nx := fun _ H' => Q .non H', rt := Q } [some (.ref pen), some (.int m), some (.int way), v3, none, none, none, none, none, none] H1 := by
    obtain ⟨ct8, ch8, cu8⟩ := cutS (X := (cxOf CX0 P w K mg base ["_law_pen", "_law_many", "_law_way", "_law_a", "_law_some", "_law_by", "_law_numbers", "_law_pairs", "_law_k", "_law_most"] "_law_cross" (defScope s_law_cross) a.f_law_cross cdv A outer s H E).nox) (st := (defBody s_law_cross).drop 8) (pss_cons (ps_set (i := 9) sc_law_cross.nd rfl (Or.inl rfl) (pe_callB (call_sum_ints rfl) rfl T.m_sum PyProof.Rows.boot_sum (pa_cons (pe_lc (sc0 := defScope s_law_cross) (XN := ["_law_pen", "_law_many", "_law_way", "_law_a", "_law_some", "_law_by", "_law_numbers", "_law_pairs", "_law_k", "_law_most"]) (N' := ["_law_k", "_law_number"]) (n := 2) (kp := []) rfl (piL (K := K) (pv 7)) rfl rfl (by decide +kernel) (fun _ _ _ _ _ => (pgT (K := K) (n := 2) rfl (pgs_cons (pg_name (i := 0) (by show List.Nodup (["_law_k", "_law_number"] : List Str); decide +kernel) rfl (Or.inl rfl)) (pgs_cons (pg_name (i := 1) (by show List.Nodup (["_law_k", "_law_number"] : List Str); decide +kernel) rfl (Or.inl rfl)) pgs_nil)))) (fun _ _ _ _ _ => pts_nil) (fun _ _ _ _ _ => (pe_callB (call_max2 rfl) rfl T.m_max PyProof.Rows.boot_max (pa_cons pe_int (pa_cons (pv 1) pa_nil))))) pa_nil)))
      (pss_one (ps_ret (pe_tup (pa_cons pe_str (pa_cons (pe_op op_sub (pe_op op_mul (pe_op op_mod (pe_callD G_law_next hr.lv rfl T.K_law_next (pa_cons (pv 0) (pa_cons (pe_op op_pow pe_int pe_int) pa_nil))) (pe_op op_add (pe_op op_fdivB (pv 9) (pv 5)) pe_int)) (pv 5)) (pe_op op_mul (pv 5) (pe_callTy call_int1 rfl T.m_int PyProof.Rows.boot_int (pa_cons (pe_cmpR op_eq (pv 2) pe_int (nomark _)) pa_nil)))) (pa_cons (pe_callTy call_tuple_of rfl T.m_tuple PyProof.Rows.boot_tuple (pa_cons (pv 7) pa_nil)) pa_nil)))))))
    obtain ⟨ct6, ch6, cu6⟩ := cutS (X := (cxOf CX0 P w K mg base ["_law_pen", "_law_many", "_law_way", "_law_a", "_law_some", "_law_by", "_law_numbers", "_law_pairs", "_law_k", "_law_most"] "_law_cross" (defScope s_law_cross) a.f_law_cross cdv A outer s H E).nox) (st := (defBody s_law_cross).drop 6) (pss_cons (ps_set (i := 7) sc_law_cross.nd rfl (Or.inl rfl) (pe_lst pa_nil))
      (pss_cons (ps_for PassesOwn.never rfl (pi_range1 rfl T.m_range (pa_cons (pv 1) pa_nil)) (pg_name (i := 8) sc_law_cross.nd rfl (Or.inl rfl)) (pss_cons (ps_if (pt_cmpR op_eq (pe_op op_and (pe_op op_shr (pv 4) (pv 8)) pe_int) pe_int (nomark _)) (pss_one (ps_expr (pe_bmK (K := K) PySem.F.plainAttrs_list PySem.F.slot_list_append PySem.F.type_list_append mt_append (pv 7) (pa_cons (pe_tup (pa_cons (pv 8) (pa_cons (pe_op op_mul (pe_op op_sub (pe_op op_mod (pv 6) pe_int) pe_int) (pv 5)) pa_nil))) pa_nil)))) pss_nil)
      (pss_one (ps_set (i := 6) sc_law_cross.nd rfl (Or.inl rfl) (pe_op op_add (pe_op op_fdiv (pv 6) pe_int) (pe_op op_mul pe_int (pv 8)))))))
      ch8))
    obtain ⟨ct4, ch4, cu4⟩ := cutS (X := (cxOf CX0 P w K mg base ["_law_pen", "_law_many", "_law_way", "_law_a", "_law_some", "_law_by", "_law_numbers", "_law_pairs", "_law_k", "_law_most"] "_law_cross" (defScope s_law_cross) a.f_law_cross cdv A outer s H E).nox) (st := (defBody s_law_cross).drop 4) (pss_cons (ps_set (i := 5) sc_law_cross.nd rfl (Or.inl rfl) (pe_ix (ixL (K := K)) (pe_lst (pa_cons pe_int (pa_cons pe_int (pa_cons pe_int (pa_cons (pe_op op_pow pe_int pe_int) pa_nil))))) (pe_callD G_law_next hr.lv rfl T.K_law_next (pa_cons (pv 0) (pa_cons pe_int pa_nil))) (fun _ _ => rfl)))
      (pss_cons (ps_set (i := 6) sc_law_cross.nd rfl (Or.inl rfl) (pe_callD G_law_next hr.lv rfl T.K_law_next (pa_cons (pv 0) (pa_cons (pe_op op_pow pe_int pe_int) pa_nil))))
      ch6))
    refine ⟨_, (pss_cons (ps_set (i := 4) sc_law_cross.nd rfl (Or.inl rfl) (pe_op op_add pe_int (pe_callD G_law_next hr.lv rfl T.K_law_next (pa_cons (pv 0) (pa_cons (pe_op op_sub (pe_op op_shl pe_int (pv 1)) pe_int) pa_nil)))))
      ch4), ?_⟩
    intro way v3 H1 sx hp
    have pm := pow_pos2 m
    have pm2 : 2 ≤ 2 ^ m := Nat.le_trans (by decide) (Nat.pow_le_pow_right (by decide) m1)
    have e1 : 1 * (2 : Int) ^ ((m : Nat) : Int).toNat - 1 = ((2 ^ m - 1 : Nat) : Int) := by
      rw [shl1]
      omega
    refine ⟨_, rfl, _, rfl, _, _, rfl, rfl, ⟨by omega, by omega, by decide⟩, _, _, rfl, rfl, pen, sp, ns, _, k + 1 + 1, rfl, pn.to sx hp, by omega, by omega, (by rw [e1]; omega), fun x x0 x1 => ?_⟩
    rw [e1] at x1
    refine ⟨_, _, rfl, rfl, ?_⟩
    obtain ⟨S, eS⟩ : ∃ S : Nat, 1 + x = (S : Int) := ⟨(1 + x).toNat, by omega⟩
    dsimp only
    rw [eS]
    have s0 : 0 < S := by omega
    have s1 : S < 2 ^ m := by omega
    have sx2 := sx.trans (sameX_pen (pen := pen) (.lst [.ref sp, .int (k + 1 + 1 + 1)]))
    refine cu4 _ _ _ ?_
    refine ⟨_, _, rfl, rfl, ⟨by decide, by decide, by decide⟩, small (by show 4 ≤ 1000; decide), fun bl hbl => ?_⟩
    have sn := same_new hbl (.lst [.int 1, .int 1, .int 1, .int (10 ^ (50 : Int).toNat)])
    have sx3 := sx2.trans (Same.x sn)
    refine ⟨_, rfl, pen, sp, ns, 4, k + 1 + 1 + 1, rfl, pn.to sx3 (sn _ _ upd_same), by omega, by omega, by decide, fun y y0 y1 => ?_⟩
    have sx4 := sx3.trans (sameX_pen (pen := pen) (.lst [.ref sp, .int (k + 1 + 1 + 1 + 1)]))
    have nbp : bl ≠ pen := fun z => by rw [z, upd_same] at hbl; cases hbl
    obtain ⟨by', hat, b0, bl2⟩ : ∃ by' : Int, atI [V.int 1, V.int 1, V.int 1, V.int (10 ^ (50 : Int).toNat)] y = some (.int by') ∧ 0 < by' ∧ by'.natAbs.log2 < 9000 := by
      have e : y = 0 ∨ y = 1 ∨ y = 2 ∨ y = 3 := by omega
      rcases e with e | e | e | e <;> rw [e]
      · exact ⟨_, rfl, by decide, by decide +kernel⟩
      · exact ⟨_, rfl, by decide, by decide +kernel⟩
      · exact ⟨_, rfl, by decide, by decide +kernel⟩
      · exact ⟨_, rfl, by decide +kernel, by decide +kernel⟩
    refine ⟨bl, _, _, _, rfl, rfl, SqL.of (by rw [upd_ne nbp]; exact upd_same), hat, ?_⟩
    refine ⟨_, rfl, _, _, rfl, rfl, ⟨by decide, by decide, by decide⟩, pen, sp, ns, _, k + 1 + 1 + 1 + 1, rfl, pn.to sx4 upd_same, by omega, by omega, by decide, fun z z0 z1 => ?_⟩
    have sx5 := sx4.trans (sameX_pen (pen := pen) (.lst [.ref sp, .int (k + 1 + 1 + 1 + 1 + 1)]))
    generalize hH5 : L2.upd (L2.upd (L2.upd (L2.upd H1 pen (.lst [.ref sp, .int (k + 1 + 1 + 1)])) bl (.lst [.int 1, .int 1, .int 1, .int (10 ^ (50 : Int).toNat)])) pen (.lst [.ref sp, .int (k + 1 + 1 + 1 + 1)])) pen (.lst [.ref sp, .int (k + 1 + 1 + 1 + 1 + 1)]) = H5 at *
    have hp5 : H5 pen = some (.lst [.ref sp, .int (k + 1 + 1 + 1 + 1 + 1)]) := by rw [← hH5]; exact upd_same
    refine cu6 _ _ _ ?_
    refine ⟨small (by decide), fun pl hpl => ?_⟩
    have npp : pen ≠ pl := ne_of_none hp5 hpl
    have hplH : H pl = none := sx5.free ⟨_, hp5⟩ hpl
    refine ⟨_, rfl, _, rfl, by rw [p62]; omega, by rw [p62]; omega, ?_⟩
    rw [Int.toNat_natCast]
    refine for_range0 (n := m) (fun i σ H6 => ∃ (nn : Int) (v8 v9 : Option V) (ps : List PyData) (xs : List V), σ = [some (.ref pen), some (.int m), some (.int way), v3, some (.int (S : Int)), some (.int by'), some (.int nn), some (.ref pl), v8, v9] ∧ Same H5 H6 ∧ H6 pl = some (.lst xs) ∧ PairsTo H6 i ps xs ∧ i ≤ m ∧ ((∃ j, j < i ∧ S.testBit j = true) → 0 < ps.length))
      ⟨z, none, none, [], [], rfl, same_new hpl _, upd_same, ⟨rfl, rfl, rfl, rfl, Nat.le_refl _⟩, Nat.zero_le _, fun ⟨j, hj, _⟩ => absurd hj (Nat.not_lt_zero j)⟩ ?_ ?_
    · rintro i σ H6 hi ⟨nn, v8, v9, ps, xs, rfl, s6, hp6, pt, hile, hne⟩
      have few := pt.few
      have lx := pt.dn.length
      refine ⟨_, rfl, _, rfl, _, _, rfl, rfl, by omega, _, _, rfl, rfl, rfl, _, rfl, ?_⟩
      rw [dec_shr1]
      refine ite2 (fun b => ?_) (fun b => ?_)
      · have n0 : 0 ≤ nn % 8 := Int.emod_nonneg _ (by decide)
        have n1 : nn % 8 < 8 := Int.emod_lt_of_pos _ (by decide)
        refine ⟨_, rfl, .inl ⟨rfl, _, SqL.of hp6⟩, _, rfl, _, rfl, _, _, rfl, rfl, (by show (0 : Int) < 8; decide), _, _, rfl, rfl, _, rfl, _, _, rfl, rfl, .inl ⟨by omega, by omega⟩, small (by show 2 ≤ 1000; decide), fun tp htp => ?_⟩
        have s7 := same_new htp (.tup [.int (i : Int), .int ((nn % 8 - 2) * by')])
        have hp7 := s7 _ _ hp6
        refine ⟨pl, _, _, rfl, rfl, hp7, small1000 (by omega), ?_⟩
        refine ⟨_, rfl, _, _, rfl, rfl, ⟨by decide, by decide⟩, _, rfl, _, _, rfl, rfl, .inl ⟨by decide, by decide⟩, _, _, rfl, rfl, ?_⟩
        have pd7 := DnL.same s7 _ _ pt.dn
        refine ⟨_, _, _, ps ++ [.tuple [.int (i : Int), .int ((nn % 8 - 2) * by')]], xs ++ [.ref tp], rfl, Same.put (s6.trans s7) hpl hp7, upd_same, ⟨?_, ?_, ?_, ?_, ?_⟩, hi, fun _ => ?_⟩
        · refine DnL.append (DnL.keepT (Dn.keepT (keep_lst hp7) 1) _ _ pt.flat pd7) ⟨_, [], rfl, ⟨tp, _, rfl, keep_lst hp7 _ _ upd_same, _, _, rfl, rfl, _, _, rfl, rfl, rfl⟩, rfl⟩
        · rw [List.all_append, pt.ok]
          rfl
        · rw [List.all_append, pt.flat]
          rfl
        · rw [List.map_append]
          show rising ((i + 1 : Nat) : Int) (ps.map fstD ++ [.int (i : Int)]) (-1) = true
          exact rising_snoc (by omega) pt.ris (by omega)
        · rw [List.length_append, List.length_singleton]
          omega
        · rw [List.length_append, List.length_singleton]
          omega
      · refine ⟨_, rfl, _, _, rfl, rfl, ⟨by decide, by decide⟩, _, rfl, _, _, rfl, rfl, .inl ⟨by decide, by decide⟩, _, _, rfl, rfl, ?_⟩
        refine ⟨_, _, _, ps, xs, rfl, s6, hp6, ⟨pt.dn, pt.ok, pt.flat, rising_mono (by omega) pt.ris, by omega⟩, hi, fun ⟨j, hj, hb⟩ => ?_⟩
        by_cases ej : j = i
        · subst ej
          exact absurd hb b
        · exact hne ⟨j, by omega, hb⟩
    · rintro σ H6 ⟨nn, v8, v9, ps, xs, rfl, s6, hp6, pt, hile, hne⟩
      refine cu8 _ _ _ ?_
      have few := pt.few
      have lx := pt.dn.length
      have p0 : 0 < ps.length := by
        refine hne ?_
        obtain ⟨j, hj⟩ := Nat.exists_testBit_of_ne_zero (show S ≠ 0 by omega)
        exact ⟨j, bit_lt s1 hj, hj⟩
      refine ⟨_, rfl, pl, rfl, ⟨_, SqL.of hp6⟩, ?_⟩
      refine lc_list (K := K) (a := pl) (xs := xs) (fun i ys σ H7 => (∃ v v', σ = [v, v']) ∧ H7 = H6 ∧ ∃ nl : List Int, ys = nl.map V.int ∧ 0 ≤ nl.sum ∧ nl.length = i) ⟨⟨none, none, rfl⟩, rfl, [], rfl, Int.le_refl _, rfl⟩ (fun i ys σ H7 hi pv => ?_) (fun i ys σ H7 hi pv => ?_) (fun i x ys σ H7 hx pv => ?_) (fun ys σ H7 pv l hl => ?_)
      · obtain ⟨_, _, nl, rfl, _, h1⟩ := pv
        rw [List.length_map]
        exact small (by omega)
      · rw [pv.2.1]
        exact SqL.of hp6
      · obtain ⟨⟨v, v', rfl⟩, rfl, nl, rfl, h0, h1⟩ := pv
        obtain ⟨dd, hdd, hx'⟩ := pt.dn.get hx
        have pk := (List.all_eq_true.mp pt.ok) dd (List.mem_of_getElem? hdd)
        obtain ⟨r, xa, nb, rfl, hr'⟩ : ∃ (r : Addr) (xa : V) (nb : Int), x = .ref r ∧ H7 r = some (.tup [xa, .int nb]) := by
          unfold pairOk at pk
          split at pk
          next dx dy =>
            obtain ⟨iy, rfl⟩ := isW_int pk
            obtain ⟨r, ys, rfl, hr2, xa, r1, rfl, ha, xb, r2, rfl, hb, hnil⟩ := dn_tup hx'
            cases (show r2 = [] from hnil)
            cases dn_int hb
            exact ⟨r, xa, iy, rfl, hr2⟩
          next => cases pk
        refine ⟨r, _, rfl, sqT hr', rfl, _, _, rfl, _, _, rfl, rfl, ?_⟩
        refine ⟨_, rfl, _, _, rfl, ⟨_, _, rfl⟩, rfl, nl ++ [if nb > 0 then nb else 0], ?_, ?_, ?_⟩
        · rw [List.map_append]
          rfl
        · rw [List.sum_append]
          have : 0 ≤ (if nb > 0 then nb else 0) := by split <;> omega
          simp only [List.sum_cons, List.sum_nil]
          omega
        · rw [List.length_append, List.length_singleton, h1]
      · obtain ⟨_, rfl, nl, rfl, h0, _⟩ := pv
        have s7 := same_new hl (.lst (nl.map V.int))
        have hp7 : L2.upd H7 l (.lst (nl.map V.int)) pen = some (.lst [.ref sp, .int (k + 1 + 1 + 1 + 1 + 1)]) := s7 _ _ (s6 _ _ hp5)
        have sx7 := sx5.trans (Same.x (s6.trans s7))
        refine ⟨l, nl, rfl, SqL.of upd_same, ?_⟩
        have d0 : 0 ≤ nl.sum / by' := Int.ediv_nonneg h0 (by omega)
        refine ⟨_, rfl, _, _, rfl, rfl, ⟨by decide, by decide, by decide⟩, pen, sp, ns, _, k + 1 + 1 + 1 + 1 + 1, rfl, pn.to sx7 hp7, by omega, by omega, by decide, fun xx xx0 xx1 => ?_⟩
        have sx8 := sx7.trans (sameX_pen (pen := pen) (.lst [.ref sp, .int (k + 1 + 1 + 1 + 1 + 1 + 1)]))
        have xx2 : xx < 1000000 := xx1
        have r0 : 0 ≤ xx % (nl.sum / by' + 2) := Int.emod_nonneg _ (by omega)
        have r1 : xx % (nl.sum / by' + 2) ≤ xx := emod_le' xx0 (by omega)
        refine ⟨_, rfl, _, rfl, _, _, rfl, rfl, ⟨b0, bl2⟩, _, _, rfl, rfl, _, _, rfl, rfl, (by show (0 : Int) < nl.sum / by' + 2; omega), _, rfl, _, _, rfl, rfl, .inl ⟨by omega, by omega⟩, ?_⟩
        refine ⟨_, rfl, _, rfl, rfl, .inr ⟨_, rfl, ?_⟩⟩
        refine ⟨_, _, rfl, rfl, .inr ⟨by split <;> decide, by split <;> decide⟩, _, _, rfl, rfl, ?_⟩
        have hpl8 : L2.upd (L2.upd H7 l (.lst (nl.map V.int))) pen (.lst [.ref sp, .int (k + 1 + 1 + 1 + 1 + 1 + 1)]) pl = some (.lst xs) := by
          rw [upd_ne (Ne.symm npp)]
          exact s7 _ _ hp6
        refine ⟨_, rfl, pl, _, rfl, .inl ⟨SqL.of hpl8, fun tk htk => ?_⟩⟩
        dsimp only
        refine ⟨small (by show 3 ≤ 1000; decide), fun tt htt => ?_⟩
        generalize hv : xx % (nl.sum / by' + 2) * by' - by' * (if decide (V.int way = V.int 3) = true then 1 else 0) = top at *
        have s9 := (same_new htk (.tup xs)).trans (same_new htt (.tup [.str ("most" : Str), .int top, .ref tk]))
        have tS : TupS H7 (L2.upd (L2.upd (L2.upd (L2.upd H7 l (.lst (nl.map V.int))) pen (.lst [.ref sp, .int (k + 1 + 1 + 1 + 1 + 1 + 1)])) tk (.tup xs)) tt (.tup [.str ("most" : Str), .int top, .ref tk])) := fun b zs hb => s9 b (.tup zs) (by rw [upd_ne (ne_of (s7 _ _ hb) hp7 (by intro q; cases q))]; exact s7 _ _ hb)
        refine q (.tuple [.str ("most" : Str), .int top, .tuple ps]) _ (k + 1 + 1 + 1 + 1 + 1 + 1) _ (sx8.trans (Same.x s9)) (s9 _ _ upd_same) (by omega) (by omega) ⟨tt, _, rfl, upd_same, _, _, rfl, rfl, _, _, rfl, rfl, _, _, rfl, ⟨tk, _, rfl, (same_new htt _) _ _ upd_same, DnL.tupS tS pt.flat pt.dn⟩, rfl⟩ ?_ ?_
        · show tieK m ("most" : Str) (.int top) (.tuple ps) = true
          unfold tieK
          rw [if_pos rfl]
          show (true && (decide (0 < ps.length) && ps.all pairOk && rising m (ps.map fstD) (-1))) = true
          rw [decide_eq_true p0, pt.ok, pt.ris]
          rfl
        · have f2 : flatD 2 (.tuple ps) = true := by
            show (decide (ps.length ≤ 1000) && ps.all (flatD 1)) = true
            rw [decide_eq_true (by omega), pt.flat]
            rfl
          show (true && (flatD 2 (.str ("most" : Str)) && (flatD 2 (.int top) && (flatD 2 (.tuple ps) && true)))) = true
          rw [show flatD 2 (.str ("most" : Str)) = true from strOk_most, f2]
          rfl
  obtain ⟨t3, h3, r3⟩ := rest3
  refine ⟨_, (pss_cons (ps_set (i := 2) sc_law_cross.nd rfl (Or.inl rfl) (pe_callD G_law_next hr.lv rfl T.K_law_next (pa_cons (pv 0) (pa_cons pe_int pa_nil))))
      (pss_cons (ps_set (i := 3) sc_law_cross.nd rfl (Or.inl rfl) (pe_callD G_law_next hr.lv rfl T.K_law_next (pa_cons (pv 0) (pa_cons (pv 1) pa_nil))))
      (pss_cons (ps_if (PW.pt (pw_and (pt_cmpR op_lt (pv 2) pe_int (nomark _)) (pw_and1 (pt_cmpR op_gt (pv 1) pe_int (nomark _))))) (pss_one (ps_ret (pe_tup (pa_cons (pe_ix (ixL (K := K)) (pe_lst (pa_cons pe_str (pa_cons pe_str pa_nil))) (pv 2) (fun _ _ => rfl)) (pa_cons (pv 3) (pa_cons (pe_op op_mod (pe_op op_add (pe_op op_add (pv 3) pe_int) (pe_callD G_law_next hr.lv rfl T.K_law_next (pa_cons (pv 0) (pa_cons (pe_op op_sub (pv 1) pe_int) pa_nil)))) (pv 1)) pa_nil)))))) pss_nil)
      h3))), ?_⟩
  refine ⟨_, rfl, pen, sp, ns, 4, k, rfl, pn, by omega, by omega, by decide, fun way w0 w1 => ?_⟩
  have sx1 := sameX_pen (pen := pen) (H := H) (.lst [.ref sp, .int (k + 1)])
  refine ⟨_, rfl, _, rfl, pen, sp, ns, _, k + 1, rfl, pn.to sx1 upd_same, by omega, by omega, by omega, fun one o0 o1 => ?_⟩
  have sx2 := sx1.trans (sameX_pen (pen := pen) (.lst [.ref sp, .int (k + 1 + 1)]))
  refine ⟨_, rfl, _, _, rfl, rfl, _, rfl, ?_⟩
  refine ite2 (fun c => ?_) (fun c => ?_)
  · refine ⟨_, rfl, _, _, rfl, rfl, _, rfl, ?_⟩
    refine ite2 (fun m2 => ?_) (fun m2 => ?_)
    · have c' : way < 2 := of_decide_eq_true c
      have m2' : (1 : Int) < m := of_decide_eq_true m2
      refine ⟨small (by show 2 ≤ 1000; decide), fun lp hlp => ?_⟩
      have sn := same_new hlp (.lst [.str ("needs" : Str), .str ("bans" : Str)])
      have item : ∃ sN : Str, (sN = ("needs" : Str) ∨ sN = ("bans" : Str)) ∧ ¬ sN = ("most" : Str) ∧ PyData.strOk sN = true ∧ atI ([.str ("needs" : Str), .str ("bans" : Str)] : List V) way = some (.str sN) := by
        have e : way = 0 ∨ way = 1 := by omega
        rcases e with e | e <;> rw [e]
        · exact ⟨_, .inl rfl, by decide +kernel, strOk_needs, rfl⟩
        · exact ⟨_, .inr rfl, by decide +kernel, strOk_bans, rfl⟩
      obtain ⟨sN, sk, snm, sok, hat⟩ := item
      have sx3 := sx2.trans (Same.x sn)
      refine ⟨_, rfl, lp, _, _, _, rfl, rfl, SqL.of upd_same, hat, _, rfl, _, rfl, _, _, rfl, rfl, _, rfl, _, rfl, _, _, rfl, rfl, pen, sp, ns, _, k + 1 + 1, rfl, pn.to sx3 (sn _ _ upd_same), by omega, by omega, by omega, fun x x0 x1 => ?_⟩
      have sx4 := sx3.trans (sameX_pen (pen := pen) (.lst [.ref sp, .int (k + 1 + 1 + 1)]))
      refine ⟨_, _, rfl, rfl, _, rfl, _, _, rfl, rfl, (by show (0 : Int) < m; omega), small (by show 3 ≤ 1000; decide), fun tp htp => ?_⟩
      obtain ⟨n0, n1, n2⟩ := mod_near (many := m) m2' (by omega) o0 o1 x0 x1
      have st := same_new htp (.tup [.str sN, .int one, .int ((one + 1 + x) % (m : Int))])
      refine q (.tuple [.str sN, .int one, .int ((one + 1 + x) % (m : Int))]) _ (k + 1 + 1 + 1) _ (sx4.trans (Same.x st)) (st _ _ upd_same) (by omega) (by omega) ⟨tp, _, rfl, upd_same, _, _, rfl, rfl, _, _, rfl, rfl, _, _, rfl, rfl, rfl⟩ ?_ ?_
      · show tieK m sN _ _ = true
        unfold tieK
        rw [if_neg snm, if_pos sk]
        show ((decide ((0 : Int) ≤ _) && decide (_ ≤ (m : Int) - 1)) && ((decide ((0 : Int) ≤ _) && decide (_ ≤ (m : Int) - 1)) && !decide (_ = _))) = true
        rw [decide_eq_true o0, decide_eq_true (by omega), decide_eq_true n0, decide_eq_true (by omega), decide_eq_false n2]
        rfl
      · show (true && (flatD 2 (.str sN) && (true && (true && true)))) = true
        rw [show flatD 2 (.str sN) = true from sok]
        rfl
    · exact r3 _ _ _ sx2 upd_same
  · refine iteF ?_
    exact r3 _ _ _ sx2 upd_same

end
section
variable {P : Program} {w : World} {K : PySem.W.Frag} {mg : Str → Option Value} {base : Heap} {a : Adr} {d : Fds}
theorem ok_law_wood (T : Txt K mg a d) : FnOk P w K mg base CX0 4 a.f_law_wood d.f_law_wood ["_law_pen", "_law_many", "_law_most"] (spWoodP K) := by
  have G_law_next := ok_law_next (P := P) (w := w) (base := base) T
  have G_law_kids := ok_law_kids (P := P) (w := w) (base := base) T
  have G_law_bough := ok_law_bough (P := P) (w := w) (base := base) T
  have G_law_cross := ok_law_cross (P := P) (w := w) (base := base) T
  refine T.K_law_wood.ok sc_law_wood (fun vs H Q E h => ?_) (fun cdv A outer s H vs Q E hr h => ?_)
  · obtain ⟨pen, sp, ns, m, most, k, rfl, _⟩ := h
    rfl
  obtain ⟨pen, sp, ns, m, most, k, rfl, pn, k0, k1, m1, m9, mo0, mo1, q⟩ := h
  have p62 : (2 : Int) ^ 62 = 4611686018427387904 := by decide
  obtain ⟨ct4, ch4, cu4⟩ := cutS (X := (cxOf CX0 P w K mg base ["_law_pen", "_law_many", "_law_most", "_law_rows", "_law_boughs", "_law_turn", "_law_cross_here"] "_law_wood" (defScope s_law_wood) a.f_law_wood cdv A outer s H E).nox) (st := (defBody s_law_wood).drop 4) (pss_one (ps_ret (pe_tup (pa_cons (pv 1) (pa_cons (pe_callTy call_tuple_of rfl T.m_tuple PyProof.Rows.boot_tuple (pa_cons (pe_op op_cat (pe_slice sl_list (pv 4) (po_some (pv 5)) po_none) (pe_slice sl_list (pv 4) po_none (po_some (pv 5)))) pa_nil)) (pa_cons (pe_callTy call_tuple_of rfl T.m_tuple PyProof.Rows.boot_tuple (pa_cons (pv 6) pa_nil)) pa_nil))))))
  obtain ⟨ct2, ch2, cu2⟩ := cutS (X := (cxOf CX0 P w K mg base ["_law_pen", "_law_many", "_law_most", "_law_rows", "_law_boughs", "_law_turn", "_law_cross_here"] "_law_wood" (defScope s_law_wood) a.f_law_wood cdv A outer s H E).nox) (st := (defBody s_law_wood).drop 2) (pss_cons (ps_set (i := 5) sc_law_wood.nd rfl (Or.inl rfl) (pe_callD G_law_next hr.lv rfl T.K_law_next (pa_cons (pv 0) (pa_cons (pe_op op_add (pe_callB (lenS (K := K)) rfl T.m_len PySem.boot_len (pa_cons (pv 4) pa_nil)) pe_int) pa_nil))))
      (pss_cons (ps_setLc (i := 6) sc_law_wood.nd rfl rfl rfl (sc0 := defScope s_law_wood) (XN := ["_law_pen", "_law_many", "_law_most", "_law_rows", "_law_boughs", "_law_turn", "_law_cross_here"]) (N' := ["_law_k", "_law_pen", "_law_many"]) (n := 1) (kp := [0, 1]) rfl (pi_range1 rfl T.m_range (pa_cons (pe_callD G_law_next hr.lv rfl T.K_law_next (pa_cons (pv 0) (pa_cons (pe_op op_add (pv 2) pe_int) pa_nil))) pa_nil)) rfl rfl (by decide +kernel) (fun _ _ _ _ _ => (pg_name (i := 0) (by show List.Nodup (["_law_k", "_law_pen", "_law_many"] : List Str); decide +kernel) rfl (Or.inl rfl))) (fun _ _ _ _ _ => pts_nil) (fun _ _ _ _ _ => (pe_callD G_law_cross hr.lv rfl T.K_law_cross (pa_cons (pv 1) (pa_cons (pv 2) pa_nil)))))
      ch4))
  refine ⟨_, (pss_cons (ps_set (i := 3) sc_law_wood.nd rfl (Or.inl rfl) (pe_callD G_law_kids hr.lv rfl T.K_law_kids (pa_cons (pv 0) (pa_cons (pv 1) pa_nil))))
      (pss_cons (ps_setLc (i := 4) sc_law_wood.nd rfl rfl rfl (sc0 := defScope s_law_wood) (XN := ["_law_pen", "_law_many", "_law_most", "_law_rows", "_law_boughs", "_law_turn", "_law_cross_here"]) (N' := ["_law_up", "_law_kids_here", "_law_pen"]) (n := 2) (kp := [0]) rfl (piL (K := K) (pv 3)) rfl rfl (by decide +kernel) (fun _ _ _ _ _ => (pgT (K := K) (n := 2) rfl (pgs_cons (pg_name (i := 0) (by show List.Nodup (["_law_up", "_law_kids_here", "_law_pen"] : List Str); decide +kernel) rfl (Or.inl rfl)) (pgs_cons (pg_name (i := 1) (by show List.Nodup (["_law_up", "_law_kids_here", "_law_pen"] : List Str); decide +kernel) rfl (Or.inl rfl)) pgs_nil)))) (fun _ _ _ _ _ => pts_nil) (fun _ _ _ _ _ => (pe_callD G_law_bough hr.lv rfl T.K_law_bough (pa_cons (pv 2) (pa_cons (pv 0) (pa_cons (pv 1) pa_nil))))))
      ch2)), ?_⟩
  refine ⟨_, rfl, _, rfl, pen, sp, ns, m, k, rfl, pn, k0, by omega, m1, m9, fun g gs ka H1 sx1 hp1 ka0 ka1 GA GK => ?_⟩
  have ngp : g ≠ pen := fun z => by have := pn.at_; rw [← z, GA.new] at this; cases this
  have few := GK.few
  have pk := GK.perm.length_eq
  rw [List.length_map, List.length_range'] at pk
  refine ⟨_, rfl, g, rfl, ⟨_, SqL.of GA.at_⟩, ?_⟩
  refine lc_list (K := K) (a := g) (xs := gs.map fun x => V.ref x.t) (fun i ys σ H2 => (∃ v v', σ = [v, v', some (.ref pen)]) ∧ SameX pen H1 H2 ∧ ∃ (kk : Int) (bs : List PyData), H2 pen = some (.lst [.ref sp, .int kk]) ∧ ka ≤ kk ∧ kk ≤ ka + 3 * i ∧ DnL H2 bs ys ∧ bs.length = i ∧ (∀ b ∈ bs, isBough m b = true) ∧ bs.flatMap kidsOf = (gs.take i).flatMap (·.kids) ∧ bs.all (flatD 3) = true)
    ⟨⟨none, none, rfl⟩, SameX.refl _ _, ka, [], hp1, Int.le_refl _, by omega, rfl, rfl, (fun _ z => nomatch z), rfl, rfl⟩ (fun i ys σ H2 hi pv => ?_) (fun i ys σ H2 hi pv => ?_) (fun i x ys σ H2 hx pv => ?_) (fun ys σ H2 pv bl hbl => ?_)
  · obtain ⟨_, _, kk, bs, _, _, _, dn, ln, _⟩ := pv
    have := dn.length
    rw [List.length_map] at hi
    exact small (by omega)
  · exact SqL.of (pv.2.1 _ _ ngp GA.at_)
  · obtain ⟨⟨v, v', rfl⟩, sx2, kk, bs, hp2, kk0, kk1, dn, ln, ok, ki, fl⟩ := pv
    rw [List.getElem?_map] at hx
    obtain ⟨x, hx', rfl⟩ := Option.map_eq_some_iff.mp hx
    have hil : i < gs.length := (List.getElem?_eq_some_iff.mp hx').1
    have hm := List.mem_of_getElem? hx'
    have ty : H2 x.t = some (.tup [.int x.up, .ref x.l]) := (SameX.tup hp1 sx2) _ _ (GA.tup x hm)
    have lx := GA.lst x hm
    have nlp : x.l ≠ pen := fun z => by have := pn.at_; rw [← z, lx.2.1] at this; cases this
    have gx := GK.each x hm
    have kl : x.kids.length ≤ 9 := by
      have : x.kids.length ≤ (gs.flatMap (·.kids)).length := by
        obtain ⟨l1, l2, e⟩ := List.append_of_mem hm
        rw [e, List.flatMap_append, List.flatMap_cons, List.length_append, List.length_append]
        omega
      omega
    refine ⟨x.t, _, rfl, sqT ty, rfl, _, _, rfl, _, _, rfl, rfl, ?_⟩
    refine ⟨_, rfl, _, rfl, _, rfl, pen, sp, ns, x.l, x.up, x.kids, m, kk, rfl, pn.to (sx1.trans sx2) hp2, by omega, by omega, sx2 _ _ nlp lx.1, nlp, kl, gx.1, gx.2.1, gx.2.2, fun dd vv kb H3 sx3 hp3 kb0 kb1 hd hb hf hk => ?_⟩
    refine ⟨⟨_, _, rfl⟩, sx2.trans sx3, kb, bs ++ [dd], hp3, by omega, by push_cast; omega, (DnL.tupS (SameX.tup hp2 sx3) fl dn).append ⟨vv, [], rfl, hd, rfl⟩, by rw [List.length_append, List.length_singleton, ln], fun b hb' => ?_, ?_, ?_⟩
    · rcases List.mem_append.mp hb' with z | z
      · exact ok b z
      · rw [List.mem_singleton.mp z]
        exact hb
    · rw [List.flatMap_append, ki, flatMap_take hx']
      simp [hk]
    · rw [List.all_append, fl]
      simp [hf]
  obtain ⟨_, sx2, kk, bs, hp2, kk0, kk1, dn, ln, okb, ki, fl⟩ := pv
  rw [List.length_map] at ln ki kk1
  rw [List.take_length] at ki
  have lys := dn.length
  have s2 := same_new hbl (.lst ys)
  have gb : GoodB m bs := ⟨okb, by rw [ki]; exact GK.perm⟩
  have sxB := (sx1.trans sx2).trans (Same.x s2)
  have hpB := s2 _ _ hp2
  have nbp : bl ≠ pen := fun z => by rw [z, hp2] at hbl; cases hbl
  refine cu2 _ _ _ ?_
  refine ⟨_, rfl, _, rfl, bl, _, rfl, .inl (SqL.of upd_same), _, _, rfl, rfl, pen, sp, ns, _, kk, rfl, pn.to sxB hpB, by omega, by omega, by omega, fun tn tn0 tn1 => ?_⟩
  obtain ⟨tt, rfl⟩ : ∃ tt : Nat, tn = (tt : Int) := ⟨tn.toNat, by omega⟩
  have sxC := sxB.trans (sameX_pen (pen := pen) (.lst [.ref sp, .int (kk + 1)]))
  refine ⟨_, rfl, _, rfl, _, _, rfl, rfl, pen, sp, ns, _, kk + 1, rfl, pn.to sxC upd_same, by omega, by omega, by omega, fun cn cn0 cn1 => ?_⟩
  have sxD := sxC.trans (sameX_pen (pen := pen) (.lst [.ref sp, .int (kk + 1 + 1)]))
  generalize hHD : L2.upd (L2.upd (L2.upd H2 bl (.lst ys)) pen (.lst [.ref sp, .int (kk + 1)])) pen (.lst [.ref sp, .int (kk + 1 + 1)]) = HD at *
  have hpD : HD pen = some (.lst [.ref sp, .int (kk + 1 + 1)]) := by rw [← hHD]; exact upd_same
  have hblD : HD bl = some (.lst ys) := by rw [← hHD, upd_ne nbp, upd_ne nbp]; exact upd_same
  have dnD : DnL HD bs ys := by
    rw [← hHD]
    exact DnL.pen upd_same fl (DnL.pen hpB fl (DnL.same s2 _ _ dn))
  refine ⟨_, rfl, by rw [p62]; omega, by rw [p62]; omega, ?_⟩
  refine lc_range0 (k := cn.toNat) (fun i zs σ H3 => (∃ v, σ = [v, some (.ref pen), some (.int m)]) ∧ SameX pen HD H3 ∧ ∃ (kc : Int) (cs : List PyData), H3 pen = some (.lst [.ref sp, .int kc]) ∧ kk + 2 ≤ kc ∧ kc ≤ kk + 2 + 6 * i ∧ DnL H3 cs zs ∧ cs.length = i ∧ (∀ c ∈ cs, isTie m c = true) ∧ cs.all (flatD 3) = true)
    ⟨⟨none, rfl⟩, SameX.refl _ _, kk + 1 + 1, [], hpD, by omega, by omega, rfl, rfl, (fun _ z => nomatch z), rfl⟩ (fun i zs σ H3 hi pv => ?_) (fun i zs σ H3 hi pv => ?_) (fun zs σ H3 pv cl hcl => ?_)
  · obtain ⟨_, _, kc, cs, _, _, _, dc, lc, _⟩ := pv
    have := dc.length
    exact small (by omega)
  · obtain ⟨⟨v, rfl⟩, sx3, kc, cs, hp3, kc0, kc1, dc, lc, okc, fc⟩ := pv
    refine ⟨_, rfl, _, rfl, pen, sp, ns, m, kc, rfl, pn.to (sxD.trans sx3) hp3, by omega, by omega, m1, m9, fun dd vv kd H4 sx4 hp4 kd0 kd1 hd ht hf => ?_⟩
    refine ⟨⟨_, rfl⟩, sx3.trans sx4, kd, cs ++ [dd], hp4, by omega, by push_cast; omega, (DnL.tupS (SameX.tup hp3 sx4) fc dc).append ⟨vv, [], rfl, hd, rfl⟩, by rw [List.length_append, List.length_singleton, lc], fun b hb' => ?_, ?_⟩
    · rcases List.mem_append.mp hb' with z | z
      · exact okc b z
      · rw [List.mem_singleton.mp z]
        exact ht
    · rw [List.all_append, fc]
      simp [hf]
  obtain ⟨_, sx3, kc, cs, hp3, kc0, kc1, dc, lc, okc, fc⟩ := pv
  have lzs := dc.length
  have s4 := same_new hcl (.lst zs)
  have hbl4 := s4 _ _ (sx3 _ _ nbp hblD)
  have dn3 := DnL.tupS (SameX.tup hpD sx3) fl dnD
  refine cu4 _ _ _ ?_
  refine ⟨_, rfl, _, rfl, _, rfl, _, rfl, bl, _, rfl, SqL.of hbl4, fun p1 hp1' => ?_⟩
  have s5 := same_new hp1' (.lst (cutV ys (some (tt : Int)) none))
  refine ⟨_, rfl, _, rfl, _, rfl, bl, _, rfl, SqL.of (s5 _ _ hbl4), fun p2 hp2' => ?_⟩
  have s6 := same_new hp2' (.lst (cutV ys none (some (tt : Int))))
  have l1 := cutV_length ys (some (tt : Int)) none
  have l2 := cutV_length ys none (some (tt : Int))
  refine ⟨p1, p2, _, _, rfl, rfl, s6 _ _ upd_same, upd_same, small (by omega), fun p3 hp3' => ?_⟩
  rw [cut_rotV ys tt (by omega)] at *
  have s7 := same_new hp3' (.lst (ys.drop tt ++ ys.take tt))
  refine ⟨p3, _, rfl, .inl ⟨SqL.of upd_same, fun t1 ht1 => ?_⟩⟩
  have s8 := same_new ht1 (.tup (ys.drop tt ++ ys.take tt))
  have s48 := (((s5.trans s6).trans s7).trans s8)
  refine ⟨_, rfl, cl, _, rfl, .inl ⟨SqL.of (s48 _ _ upd_same), fun t2 ht2 => ?_⟩⟩
  have s9 := same_new ht2 (.tup zs)
  refine ⟨small (by show 3 ≤ 1000; decide), fun wd hwd => ?_⟩
  have s10 := same_new hwd (.tup [.int m, .ref t1, .ref t2])
  have sE := (((s4.trans s48).trans s9).trans s10)
  refine q wd (bs.drop tt ++ bs.take tt) cs kc _ ((sxD.trans sx3).trans (Same.x sE)) (sE _ _ hp3) (by omega) (by omega) ⟨⟨ys.drop tt ++ ys.take tt, zs, ⟨t1, t2, upd_same, s10 _ _ (s9 _ _ upd_same), s10 _ _ upd_same⟩, (DnL.same sE _ _ ((DnL.drop tt dn3).append (DnL.take tt dn3))), DnL.same sE _ _ dc⟩, gb.rot tt, okc, ?_, by omega, ?_, fc, m1, m9⟩ (by omega)
  · rw [List.length_append, List.length_drop, List.length_take]
    omega
  · rw [List.all_eq_true]
    intro b hb'
    exact (List.all_eq_true.mp fl) b (rot_mem hb')

end
section
variable {P : Program} {w : World} {K : PySem.W.Frag} {mg : Str → Option Value} {base : Heap} {a : Adr} {d : Fds}
theorem ok_law_word (T : Txt K mg a d) : FnOk P w K mg base CX0 2 a.f_law_word d.f_law_word ["_law_every", "_law_k"] spWordF := by
  refine T.K_law_word.ok sc_law_word (fun vs H Q E h => ?_) (fun cdv A outer s H vs Q E hr h => ?_)
  · obtain ⟨l, L, k, rfl, _⟩ := h
    rfl
  obtain ⟨l, L, k, rfl, hl, few, q⟩ := h
  have nn : ∀ {M : List Nat}, M ≠ [] → natsL M ≠ [] := fun {M} h z => h (List.map_eq_nil_iff.mp z)
  refine ⟨_, (pss_cons (ps_setLc (i := 2) sc_law_word.nd rfl rfl rfl (sc0 := defScope s_law_word) (XN := ["_law_every", "_law_k", "_law_having"]) (N' := ["_law_ware", "_law_k"]) (n := 1) (kp := [1]) rfl (piL (K := K) (pv 0)) rfl rfl (by decide +kernel) (fun _ _ _ _ _ => (pg_name (i := 0) (by show List.Nodup (["_law_ware", "_law_k"] : List Str); decide +kernel) rfl (Or.inl rfl))) (fun _ _ _ _ _ => (pts_one (pt_cmpR op_eq (pe_op op_and (pe_op op_shr (pv 0) (pv 1)) pe_int) pe_int (nomark _)))) (fun _ _ _ _ _ => (pv 0)))
      (pss_cons (ps_if (pt_cmpR (op_eq_nil hr.units) (pv 0) (pe_lst pa_nil) (nomark _)) (pss_one (ps_ret (pe_tup (pa_cons pe_str pa_nil)))) pss_nil)
      (pss_cons (ps_if (pt_cmpR (op_eq_nil hr.units) (pv 2) (pe_lst pa_nil) (nomark _)) (pss_one (ps_ret (pe_tup (pa_cons pe_str pa_nil)))) pss_nil)
      (pss_cons (ps_if (pt_cmpR (op_eq_ints hr.units) (pv 2) (pv 0) (nomark _)) (pss_one (ps_ret (pe_tup (pa_cons pe_str pa_nil)))) pss_nil)
      (pss_one (ps_ret (pe_tup (pa_cons pe_str (pa_cons (pe_ix (ixL (K := K)) (pv 2) pe_int (fun _ _ => rfl)) (pa_cons (pe_ix (ixL (K := K)) (pe_lc (sc0 := defScope s_law_word) (XN := ["_law_every", "_law_k", "_law_having"]) (N' := ["_law_ware", "_law_k"]) (n := 1) (kp := [1]) rfl (piL (K := K) (pv 0)) rfl rfl (by decide +kernel) (fun _ _ _ _ _ => (pg_name (i := 0) (by show List.Nodup (["_law_ware", "_law_k"] : List Str); decide +kernel) rfl (Or.inl rfl))) (fun _ _ _ _ _ => (pts_one (pt_cmpR op_eq (pe_op op_and (pe_op op_shr (pv 0) (pv 1)) pe_int) pe_int (nomark _)))) (fun _ _ _ _ _ => (pv 0))) pe_int (fun _ _ => rfl)) pa_nil)))))))))), ?_⟩
  refine ⟨_, rfl, l, rfl, ⟨_, SqL.of hl⟩, ?_⟩
  refine lc_filt (K := K) (a := l) (l := L) (σr := [some (.int (k : Int))]) (fun s => s.testBit k) rfl hl few (fun s hs R r => ?_) (fun lh hlh => ?_)
  · refine ⟨_, rfl, _, rfl, _, _, rfl, rfl, Int.natCast_nonneg k, _, _, rfl, rfl, rfl, _, rfl, ?_⟩
    show R (decide (V.int (Builtin.bitAnd ((s : Int) / 2 ^ ((k : Nat) : Int).toNat) 1) = V.int 1)) H
    rw [dec_shr1]
    exact r
  show gName 2 (.ref lh) _ (L2.upd H lh (.lst (natsL (hasL L k)))) _
  have s1 := same_new hlh (.lst (natsL (hasL L k)))
  have h1 : (L2.upd H lh (.lst (natsL (hasL L k)))) lh = some (.lst (natsL (hasL L k))) := upd_same
  generalize L2.upd H lh (.lst (natsL (hasL L k))) = H1 at s1 h1 ⊢
  have hl1 : H1 l = some (.lst (natsL L)) := s1 _ _ hl
  refine ⟨_, rfl, small (by decide), fun l2 hl2 => ?_⟩
  have s2 := same_new hl2 (.lst [])
  refine ⟨l, l2, _, rfl, rfl, s2 _ _ hl1, upd_same, _, rfl, ?_⟩
  by_cases c1 : L = []
  · refine iteD (by rw [c1]; rfl) ?_
    refine ⟨small (by show 1 ≤ 1000; decide), fun t ht => ?_⟩
    refine q t _ ((s1.trans s2).trans (same_new ht _)) ?_
    have e1 : wordS L k = ("void" : Str) := by unfold wordS; rw [if_pos c1]
    have e2 : wordR L k = [] := by unfold wordR wordE; rw [c1]; rfl
    rw [e1, e2]
    exact upd_same
  refine iteDN (nn c1) ?_
  have h2 := s2 _ _ h1
  have hl2' := s2 _ _ hl1
  have s12 := s1.trans s2
  generalize L2.upd H1 l2 (.lst []) = H2 at s2 h2 hl2' s12 ⊢
  refine ⟨_, rfl, small (by decide), fun l3 hl3 => ?_⟩
  have s3 := same_new hl3 (.lst [])
  refine ⟨lh, l3, _, rfl, rfl, s3 _ _ h2, upd_same, _, rfl, ?_⟩
  by_cases c2 : hasL L k = []
  · refine iteD (by rw [c2]; rfl) ?_
    refine ⟨small (by show 1 ≤ 1000; decide), fun t ht => ?_⟩
    refine q t _ ((s12.trans s3).trans (same_new ht _)) ?_
    have e1 : wordS L k = ("never" : Str) := by unfold wordS; rw [if_neg c1, if_pos c2]
    have e2 : wordR L k = [] := by unfold wordR wordE; rw [c2]; simp
    rw [e1, e2]
    exact upd_same
  refine iteDN (nn c2) ?_
  have h3 := s3 _ _ h2
  have hl3' := s3 _ _ hl2'
  have s13 := s12.trans s3
  generalize L2.upd H2 l3 (.lst []) = H3 at s3 h3 hl3' s13 ⊢
  refine ⟨_, rfl, _, rfl, lh, l, (hasL L k).map (fun k : Nat => (k : Int)), L.map (fun k : Nat => (k : Int)), rfl, rfl, (by rw [show ((hasL L k).map fun k : Nat => (k : Int)).map V.int = natsL (hasL L k) from natsV _]; exact SqL.of h3), (by rw [show (L.map fun k : Nat => (k : Int)).map V.int = natsL L from natsV _]; exact SqL.of hl3'), _, rfl, ?_⟩
  by_cases c3 : hasL L k = L
  · refine iteD (by rw [c3]) ?_
    refine ⟨small (by show 1 ≤ 1000; decide), fun t ht => ?_⟩
    refine q t _ (s13.trans (same_new ht _)) ?_
    have e1 : wordS L k = ("always" : Str) := by unfold wordS; rw [if_neg c1, if_neg c2, if_pos c3]
    have e2 : wordR L k = [] := by unfold wordR wordE; rw [c3]; simp
    rw [e1, e2]
    exact upd_same
  refine iteDN (fun z => c3 (castL_inj z)) ?_
  have we : wordE L k = true := by
    unfold wordE
    rw [decide_eq_false c1, decide_eq_false c2, decide_eq_false c3]
    rfl
  obtain ⟨x, xr, ex⟩ : ∃ x r, hasL L k = x :: r := by
    cases e : hasL L k with
    | nil => exact absurd e c2
    | cons x r => exact ⟨x, r, rfl⟩
  obtain ⟨y, yr, ey⟩ : ∃ x r, notL L k = x :: r := by
    cases e : notL L k with
    | nil =>
      refine absurd (List.filter_eq_self.mpr fun s hs => ?_) c3
      have := List.filter_eq_nil_iff.mp e s hs
      simpa using this
    | cons x r => exact ⟨x, r, rfl⟩
  refine ⟨_, rfl, lh, _, _, _, rfl, rfl, SqL.of h3, (by rw [ex]; exact at0), _, rfl, l, rfl, ⟨_, SqL.of hl3'⟩, ?_⟩
  refine lc_filt (K := K) (a := l) (l := L) (σr := [some (.int (k : Int))]) (fun s => !s.testBit k) rfl hl3' few (fun s hs R r => ?_) (fun ln hln => ?_)
  · refine ⟨_, rfl, _, rfl, _, _, rfl, rfl, Int.natCast_nonneg k, _, _, rfl, rfl, rfl, _, rfl, ?_⟩
    show R (decide (V.int (Builtin.bitAnd ((s : Int) / 2 ^ ((k : Nat) : Int).toNat) 1) = V.int 0)) H3
    rw [dec_shr0]
    exact r
  show (tC (.int 0)) _ (L2.upd H3 ln (.lst (natsL (notL L k)))) _
  have s4 := same_new hln (.lst (natsL (notL L k)))
  refine ⟨ln, _, _, _, rfl, rfl, SqL.of upd_same, (by rw [ey]; exact at0), small (by show 3 ≤ 1000; decide), fun t ht => ?_⟩
  refine q t _ ((s13.trans s4).trans (same_new ht _)) ?_
  have e2 : wordR L k = [.int (x : Int), .int (y : Int)] := by
    unfold wordR
    rw [if_pos we, ex, ey]
    rfl
  rw [wordE_iff.mpr we, e2]
  exact upd_same

end
section
variable {P : Program} {w : World} {K : PySem.W.Frag} {mg : Str → Option Value} {base : Heap} {a : Adr} {d : Fds}
theorem ok_law (T : Txt K mg a d) (LB : LamB mg base a.c_cases_of a.t_cases_of) : FnOk P w K mg base CX0 22 a.f_law d.f_law ["_law_script"] (spT a.t_cases_of (spLaw K)) := by
  have G_law_next := ok_law_next (P := P) (w := w) (base := base) T
  have G_law_wood := ok_law_wood (P := P) (w := w) (base := base) T
  have G_law_word := ok_law_word (P := P) (w := w) (base := base) T
  have G_wares := ok_wares (P := P) (w := w) (base := base) T LB
  have G_standing := ok_standing (P := P) (w := w) (base := base) T LB
  have G_flocks := ok_flocks (P := P) (w := w) (base := base) T LB
  refine T.K_law.ok sc_law (fun vs H Q E h => ?_) (fun cdv A outer s H vs Q E hr h => ?_)
  · obtain ⟨_, p, ns, rfl, _⟩ := h
    rfl
  obtain ⟨tb, sp, ns, rfl, hS, hl, q⟩ := h
  refine ⟨_, (pss_cons (ps_set (i := 1) sc_law.nd rfl (Or.inl rfl) (pe_lst (pa_cons (pv 0) (pa_cons pe_int pa_nil))))
      (pss_cons (ps_set (i := 2) sc_law.nd rfl (Or.inl rfl) (pe_ix (ixL (K := K)) (pe_lst (pa_cons pe_int (pa_cons pe_int (pa_cons pe_int (pa_cons pe_int (pa_cons pe_int (pa_cons pe_int (pa_cons pe_int (pa_cons pe_int pa_nil))))))))) (pe_callD G_law_next hr.lv rfl T.K_law_next (pa_cons (pv 1) (pa_cons pe_int pa_nil))) (fun _ _ => rfl)))
      (pss_cons (ps_set (i := 3) sc_law.nd rfl (Or.inl rfl) (pe_callD G_law_wood hr.lv rfl T.K_law_wood (pa_cons (pv 1) (pa_cons (pv 2) (pa_cons (pe_ix (ixL (K := K)) (pe_lst (pa_cons pe_int (pa_cons pe_int pa_nil))) (pe_callTy call_int1 rfl T.m_int PyProof.Rows.boot_int (pa_cons (pe_cmpR op_gt (pv 2) pe_int (nomark _)) pa_nil)) (fun _ _ => rfl)) pa_nil)))))
      (pss_cons (ps_set (i := 4) sc_law.nd rfl (Or.inl rfl) (pe_callD G_wares hr.lv rfl T.K_wares (pa_cons (pv 3) pa_nil)))
      (pss_cons (ps_set (i := 5) sc_law.nd rfl (Or.inr rfl) (pe_lst pa_nil))
      (pss_cons (ps_for PassesOwn.never rfl (pi_range1 rfl T.m_range (pa_cons (pv 2) pa_nil)) (pg_name (i := 6) sc_law.nd rfl (Or.inl rfl)) (pss_cons (ps_set (i := 7) sc_law.nd rfl (Or.inl rfl) (pe_callD G_law_word hr.lv rfl T.K_law_word (pa_cons (pv 4) (pa_cons (pv 6) pa_nil))))
      (pss_cons (ps_set (i := 8) sc_law.nd rfl (Or.inl rfl) (pe_callD G_standing hr.lv rfl T.K_standing (pa_cons (pv 3) (pa_cons (pv 6) pa_nil))))
      (pss_cons (ps_if (PW.pt (pw_or (pt_cmpR op_ne (pe_ix (ixT (K := K)) (pv 8) pe_int (fun _ _ => rfl)) (pe_ix (ixT (K := K)) (pv 7) pe_int (fun _ _ => rfl)) (nomark _)) (pw_or1 (PW.pt (pw_and (pt_cmpR op_eq (pe_ix (ixT (K := K)) (pv 7) pe_int (fun _ _ => rfl)) pe_str (nomark _)) (pw_and1 (pt_cmpR (op_ne_data hr.units) (pv 8) (pv 7) (nomark _)))))))) (pss_one (ps_ret pe_bl)) pss_nil)
      (pss_one (ps_expr (pe_bmK (K := K) PySem.F.plainAttrs_list PySem.F.slot_list_append PySem.F.type_list_append mt_append (pv 5) (pa_cons (pv 7) pa_nil))))))))
      (pss_cons (ps_asg (pe_callD G_flocks hr.lv rfl T.K_flocks (pa_cons (pv 3) pa_nil)) (pgT (K := K) (n := 2) rfl (pgs_cons (pg_name (i := 9) sc_law.nd rfl (Or.inl rfl)) (pgs_cons (pg_name (i := 10) sc_law.nd rfl (Or.inl rfl)) pgs_nil))))
      (pss_cons (ps_set (i := 11) sc_law.nd rfl (Or.inl rfl) (pe_lst pa_nil))
      (pss_cons (ps_for PassesOwn.never rfl (piL (K := K) (pv 9)) (pg_name (i := 12) sc_law.nd rfl (Or.inr rfl)) (pss_cons (ps_set (i := 11) sc_law.nd rfl (Or.inl rfl) (pe_op op_cat (pv 11) (pv 12)))
      (pss_one (ps_if (pt_cmpR (op_ne_ints hr.units) (pe_lc (sc0 := defScope s_law) (XN := ["_law_script", "_law_pen", "_law_many", "_law_wood_here", "_law_every", "_law_words", "_law_k", "_law_due", "_law_found", "_law_rows", "_law_parts", "_law_met", "_law_row", "_law_a", "_law_b", "_law_ware"]) (N' := ["_law_k", "_law_words", "_law_row"]) (n := 1) (kp := [5, 12]) rfl (piL (K := K) (pv 12)) rfl rfl (by decide +kernel) (fun _ _ _ _ _ => (pg_name (i := 0) (by show List.Nodup (["_law_k", "_law_words", "_law_row"] : List Str); decide +kernel) rfl (Or.inl rfl))) (fun _ _ _ _ _ => (pts_one (pt_cmpR (op_ne_data hr.units) (pe_ix (ixL (K := K)) (pv 1) (pv 0) (fun _ _ => rfl)) (pe_ix (ixL (K := K)) (pv 1) (pe_ix (ixL (K := K)) (pv 2) pe_int (fun _ _ => rfl)) (fun _ _ => rfl)) (nomark _)))) (fun _ _ _ _ _ => (pv 0))) (pe_lst pa_nil) (nomark _)) (pss_one (ps_ret pe_bl)) pss_nil))))
      (pss_cons (ps_if (pt_cmpR (op_ne_ints hr.units) (pe_callB call_sortedB rfl T.m_sorted PyProof.Rows.boot_sorted (pa_cons (pv 11) pa_nil)) (pe_callTy (call_list_rng rfl) rfl T.m_list PyProof.Rows.boot_list (pa_cons (pe_callTy call_rng1 rfl T.m_range PyProof.Rows.boot_range (pa_cons (pv 2) pa_nil)) pa_nil)) (nomark _)) (pss_one (ps_ret pe_bl)) pss_nil)
      (pss_cons (ps_for PassesOwn.never rfl (piL (K := K) (pv 10)) (pgT (K := K) (n := 3) rfl (pgs_cons (pg_name (i := 13) sc_law.nd rfl (Or.inl rfl)) (pgs_cons (pg_name (i := 14) sc_law.nd rfl (Or.inl rfl)) (pgs_cons (pg_name (i := 15) sc_law.nd rfl (Or.inl rfl)) pgs_nil)))) (pss_one (ps_if (PW.pt (pw_or (pt_cmpR op_notIn_seq (pv 15) (pv 4) (by with_unfolding_all rfl)) (pw_or1 (pt_cmpR op_eq (pe_op op_and (pe_op op_shr (pv 15) (pv 13)) pe_int) (pe_op op_and (pe_op op_shr (pv 15) (pv 14)) pe_int) (nomark _))))) (pss_one (ps_ret pe_bl)) pss_nil)))
      (pss_one (ps_ret (pe_cmpR op_eq (pe_callB (lenS (K := K)) rfl T.m_len PySem.boot_len (pa_cons (pv 10) pa_nil)) (pe_op op_fdiv (pe_op op_mul (pe_callB (lenS (K := K)) rfl T.m_len PySem.boot_len (pa_cons (pv 9) pa_nil)) (pe_op op_sub (pe_callB (lenS (K := K)) rfl T.m_len PySem.boot_len (pa_cons (pv 9) pa_nil)) pe_int)) pe_int) (nomark _))))))))))))))), ?_⟩
  refine ⟨_, rfl, small (by show 2 ≤ 1000; decide), fun pen hpen => ?_⟩
  have pn := pen_new hS hl hpen
  have tb1 := (same_new hpen (.lst [.ref sp, .int 0])).tab tb
  generalize hH1 : L2.upd H pen (.lst [.ref sp, .int 0]) = H1 at pn tb1 ⊢
  refine ⟨small (by show 8 ≤ 1000; decide), fun tl htl => ?_⟩
  have s2 := same_new htl (.lst [.int 4, .int 5, .int 3, .int 6, .int 2, .int 4, .int 1, .int 9])
  have ntp : tl ≠ pen := fun z => by have := pn.at_; rw [← z, htl] at this; cases this
  refine ⟨_, rfl, pen, sp, ns, 8, 0, rfl, pn.to (Same.x s2) (s2 _ _ pn.at_), by decide, by decide, by decide, fun c c0 c1 => ?_⟩
  have sx3 := SameX.trans (Same.x (pen := pen) s2) (sameX_pen (pen := pen) (.lst [.ref sp, .int (0 + 1)]))
  obtain ⟨m, hat, m1, m9⟩ : ∃ m : Nat, atI [V.int 4, V.int 5, V.int 3, V.int 6, V.int 2, V.int 4, V.int 1, V.int 9] c = some (.int (m : Int)) ∧ 1 ≤ m ∧ m ≤ 9 := by
    have e : c = 0 ∨ c = 1 ∨ c = 2 ∨ c = 3 ∨ c = 4 ∨ c = 5 ∨ c = 6 ∨ c = 7 := by omega
    rcases e with e | e | e | e | e | e | e | e <;> rw [e]
    · exact ⟨4, rfl, by decide, by decide⟩
    · exact ⟨5, rfl, by decide, by decide⟩
    · exact ⟨3, rfl, by decide, by decide⟩
    · exact ⟨6, rfl, by decide, by decide⟩
    · exact ⟨2, rfl, by decide, by decide⟩
    · exact ⟨4, rfl, by decide, by decide⟩
    · exact ⟨1, rfl, by decide, by decide⟩
    · exact ⟨9, rfl, by decide, by decide⟩
  refine ⟨tl, _, _, _, rfl, rfl, SqL.of (by rw [upd_ne ntp]; exact upd_same), hat, ?_⟩
  generalize hH3 : L2.upd (L2.upd H1 tl (.lst [.int 4, .int 5, .int 3, .int 6, .int 2, .int 4, .int 1, .int 9])) pen (.lst [.ref sp, .int (0 + 1)]) = H3 at sx3 ⊢
  have hp3 : H3 pen = some (.lst [.ref sp, .int (0 + 1)]) := by rw [← hH3]; exact upd_same
  refine ⟨_, rfl, _, rfl, small (by show 2 ≤ 1000; decide), fun tl4 htl4 => ?_⟩
  have s4 := same_new htl4 (.lst [.int 6, .int 2])
  refine ⟨_, rfl, _, _, rfl, rfl, .inr ⟨_, rfl, ?_⟩⟩
  obtain ⟨mo, hat4, mo0, mo8⟩ : ∃ mo : Int, atI [V.int 6, V.int 2] (if decide ((m : Int) > 6) = true then 1 else 0) = some (.int mo) ∧ 0 ≤ mo ∧ mo ≤ 8 := by
    by_cases c : (m : Int) > 6
    · rw [if_pos (decide_eq_true c)]
      exact ⟨2, rfl, by decide, by decide⟩
    · rw [if_neg (by rw [decide_eq_false c]; simp)]
      exact ⟨6, rfl, by decide, by decide⟩
  refine ⟨tl4, _, _, _, rfl, rfl, SqL.of upd_same, hat4, ?_⟩
  have sx4 := sx3.trans (Same.x (pen := pen) s4)
  have hp4 := s4 _ _ hp3
  refine ⟨pen, sp, ns, m, mo, 0 + 1, rfl, pn.to sx4 hp4, by decide, by decide, m1, m9, mo0, mo8, fun wd bs cs k5 H5 sx5 hp5 k50 k51 W5 lc5 => ?_⟩
  obtain ⟨ts, ets, okt, tsl, WT⟩ := W5.ties
  have WA := WT H5 (fun _ _ h => h)
  have tb5 := (sx4.trans sx5).tab pn.at_ tb1
  have fw := wareL_few (m := m) (ts := ts) m9
  refine ⟨_, rfl, tb5, wd, m, ts, rfl, WA, m1, m9, fun le H6 s6 nle h6 => ?_⟩
  generalize hL : wareL m ts = L at fw h6
  refine ⟨small (by decide), fun lw hlw => ?_⟩
  have s7 := same_new hlw (.lst [])
  have h7 : (L2.upd H6 lw (.lst [])) lw = some (.lst []) := upd_same
  generalize L2.upd H6 lw (.lst []) = H7 at s7 h7 ⊢
  refine ⟨_, rfl, _, rfl, by omega, by omega, ?_⟩
  rw [Int.toNat_natCast]
  refine for_range0 (n := m) (fun i σ H8 => (∃ v6 v7 v8, σ = [some (.ref sp), some (.ref pen), some (.int (m : Int)), some (.ref wd), some (.ref le), some (.ref lw), v6, v7, v8, none, none, none, none, none, none, none]) ∧ Same H6 H8 ∧ ∃ ws : List V, H8 lw = some (.lst ws) ∧ DnL H8 ((List.range i).map (wordDt L)) ws) ⟨⟨none, none, none, rfl⟩, s7, [], h7, (rfl : ([] : List V) = [])⟩ ?_ ?_
  · rintro i σ H8 hi ⟨⟨v6, v7, v8, rfl⟩, s8, ws, h8, dn8⟩
    have wl : ws.length ≤ 9 := by
      rw [← dn8.length, List.length_map, List.length_range]
      omega
    refine ⟨_, rfl, _, rfl, le, L, i, rfl, s8 _ _ h6, by omega, fun p H9 s9 h9 => ?_⟩
    have s69 := s8.trans s9
    refine ⟨_, rfl, _, rfl, (s6.trans s69).tab tb5, wd, m, ts, i, rfl, WA.same (s6.trans s69), m1, m9, hi, fun v HA sA st => ?_⟩
    obtain ⟨p2, r2, rfl, hp2, er2⟩ := stand_is st okt m1 m9 hi
    rw [hL] at hp2 er2
    have h9A : HA p = some (.tup (.str (wordS L i) :: wordR L i)) := sA _ _ h9
    refine ⟨_, rfl, p2, _, _, _, rfl, rfl, sqT hp2, at0, _, rfl, p, _, _, _, rfl, rfl, sqT h9A, at0, rfl, _, rfl, ?_⟩
    refine iteNS rfl ?_
    have go : tDrop (tBM K "list" rAppend (tVar 5) (tCons (tVar 7) tNil)) = tDrop (tBM K "list" rAppend (tVar 5) (tCons (tVar 7) tNil)) := rfl
    have hwA : HA lw = some (.lst ws) := sA _ _ (s9 _ _ h8)
    have dnA := DnL.same (s9.trans sA) _ _ dn8
    have s6A := s69.trans sA
    have fin : ∀ D : Ends, (∀ H', Same H6 H' → (∃ ws : List V, H' lw = some (.lst ws) ∧ DnL H' ((List.range (i + 1)).map (wordDt L)) ws) → D.nx [some (.ref sp), some (.ref pen), some (.int (m : Int)), some (.ref wd), some (.ref le), some (.ref lw), some (.int (i : Int)), some (.ref p), some (.ref p2), none, none, none, none, none, none, none] H') →
        tDrop (tBM K "list" rAppend (tVar 5) (tCons (tVar 7) tNil)) D [some (.ref sp), some (.ref pen), some (.int (m : Int)), some (.ref wd), some (.ref le), some (.ref lw), some (.int (i : Int)), some (.ref p), some (.ref p2), none, none, none, none, none, none, none] HA := fun D hD => by
      refine ⟨_, rfl, .inl ⟨rfl, _, SqL.of hwA⟩, _, rfl, lw, _, _, rfl, rfl, hwA, small1000 (by omega), ?_⟩
      have tu : TupS HA (L2.upd HA lw (.lst (ws ++ [.ref p]))) := fun b xs hb => by rw [upd_ne fun z => by rw [z, hwA] at hb; cases hb]; exact hb
      refine hD _ (Same.put s6A hlw hwA) ⟨_, upd_same, ?_⟩
      rw [List.range_succ, List.map_append]
      exact (words_tup tu _ _ dnA).append ⟨.ref p, [], rfl, word_dn (tu _ _ h9A), rfl⟩
    refine ⟨_, rfl, p, _, _, _, rfl, rfl, sqT h9A, at0, rfl, _, rfl, ?_⟩
    by_cases we : wordE L i = true
    · refine iteD (by rw [wordE_iff.mpr we]) ?_
      rw [er2 we] at hp2
      refine ⟨_, rfl, _, rfl, wordDt L i, wordDt L i, word_dn hp2, word_dn h9A, shaped_lay (lay_word L i) (by decide), shaped_lay (lay_word L i) (by decide), _, rfl, ?_⟩
      rw [lay_self (lay_word L i)]
      refine iteF ?_
      exact fin _ fun H' s' h' => ⟨⟨_, _, _, rfl⟩, s', h'⟩
    · refine iteDN (fun z => we (wordE_iff.mp (by injection z))) ?_
      refine iteF ?_
      exact fin _ fun H' s' h' => ⟨⟨_, _, _, rfl⟩, s', h'⟩
  · rintro σ H8 ⟨⟨v6, v7, v8, rfl⟩, s8, ws, h8, dn8⟩
    have s58 := s6.trans s8
    refine ⟨_, rfl, s58.tab tb5, wd, m, ts, rfl, WA.same s58, m1, m9, fun t lf lp rs ps HB sB nt nf np nr FB => ?_⟩
    rw [hL] at FB
    refine ⟨t, _, rfl, sqT FB.tup, rfl, _, _, rfl, _, _, rfl, rfl, ?_⟩
    refine ⟨small (by decide), fun lm hlm => ?_⟩
    have sC0 := same_new hlm (.lst [])
    have hmC : (L2.upd HB lm (.lst [])) lm = some (.lst []) := upd_same
    generalize L2.upd HB lm (.lst []) = HC at sC0 hmC ⊢
    have hwB : HB lw = some (.lst ws) := sB _ _ h8
    have dnB := DnL.same sB _ _ dn8
    have mlen : (frs L m).length ≤ 9 := Nat.le_trans (frs_len L m) m9
    have rlen : rs.length = (frs L m).length := by
      have e := FB.rowd.length
      unfold rowsD at e
      rw [List.length_map, List.length_map] at e
      exact e.symm
    refine ⟨_, rfl, lf, rfl, ⟨_, SqL.of (sC0 _ _ FB.rows)⟩, ?_⟩
    refine for_list (K := K) (a := lf) (xs := rs.map V.ref) (fun i σ HD => Same HB HD ∧ ∃ lm v12, σ = [some (.ref sp), some (.ref pen), some (.int (m : Int)), some (.ref wd), some (.ref le), some (.ref lw), v6, v7, v8, some (.ref lf), some (.ref lp), some (.ref lm), v12, none, none, none] ∧ HD lm = some (.lst (natsL (((frs L m).take i).flatMap (rowF L m))))) ⟨sC0, lm, none, rfl, hmC⟩ (fun i σ HD _ z => SqL.of (z.1 _ _ FB.rows)) ?_ ?_
    · rintro i x σ HD hx ⟨sD, lm, v12, rfl, hmD⟩
      obtain ⟨e, he, hd⟩ := FB.rowd.get hx
      unfold rowsD at he
      rw [List.getElem?_map] at he
      obtain ⟨f, hf, rfl⟩ := Option.map_eq_some_iff.mp he
      obtain ⟨r, xs, rfl, hrB, hxs⟩ := hd
      have ex := dnl_nats hxs
      subst ex
      have fm := (frs_mem (List.mem_of_getElem? hf)).1
      obtain ⟨rr, er⟩ := row_head (List.mem_of_getElem? hf)
      have hrD : HD r = some (.lst (natsL (rowF L m f))) := sD _ _ hrB
      have rowl : (rowF L m f).length ≤ 9 := Nat.le_trans (rowK_len L m _) m9
      have metl : (((frs L m).take i).flatMap (rowF L m)).length ≤ 81 := by
        have : ∀ l : List Nat, (l.flatMap (rowF L m)).length ≤ l.length * 9 := fun l => by
          induction l with
          | nil => exact Nat.le_refl 0
          | cons x l ih =>
            rw [List.flatMap_cons, List.length_append, List.length_cons, Nat.add_mul]
            have : (rowF L m x).length ≤ 9 := Nat.le_trans (rowK_len L m _) m9
            omega
        have h1 := this ((frs L m).take i)
        have h2 := List.length_take_le i (frs L m)
        have h3 : ((frs L m).take i).length * 9 ≤ 9 * 9 := Nat.mul_le_mul_right 9 (by rw [List.length_take]; omega)
        omega
      refine ⟨_, rfl, _, rfl, lm, r, _, _, rfl, rfl, hmD, hrD, small (by rw [List.length_map, List.length_map]; omega), fun lm2 hlm2 => ?_⟩
      have eM : natsL (((frs L m).take i).flatMap (rowF L m)) ++ natsL (rowF L m f) = natsL (((frs L m).take (i + 1)).flatMap (rowF L m)) := by
        rw [List.take_succ, hf, Option.toList_some, List.flatMap_append, List.flatMap_singleton]
        exact List.map_append.symm
      rw [eM]
      have sE := same_new hlm2 (.lst (natsL (((frs L m).take (i + 1)).flatMap (rowF L m))))
      have hmE : (L2.upd HD lm2 (.lst (natsL (((frs L m).take (i + 1)).flatMap (rowF L m))))) lm2 = some (.lst (natsL (((frs L m).take (i + 1)).flatMap (rowF L m)))) := upd_same
      have hrE := sE _ _ hrD
      have sBE := sD.trans sE
      generalize L2.upd HD lm2 (.lst (natsL (((frs L m).take (i + 1)).flatMap (rowF L m)))) = HE at sE hmE hrE sBE ⊢
      have wordAt : ∀ k, k < m → ∃ v, atI ws (k : Int) = some v ∧ Dn HE (wordDt L k) v := fun k hk => by
        obtain ⟨v, h1, h2⟩ := (DnL.same sBE _ _ dnB).get' (i := k) (d := wordDt L k) (by rw [List.getElem?_map, List.getElem?_range hk]; rfl)
        exact ⟨v, atI_nat h1, h2⟩
      have hwE := sBE _ _ hwB
      obtain ⟨vf, af, df⟩ := wordAt f fm
      refine ⟨_, rfl, r, rfl, ⟨_, SqL.of hrE⟩, ?_⟩
      refine lc_filt (K := K) (a := r) (l := rowF L m f) (σr := [some (.ref lw), some (.ref r)]) (fun _ => false) rfl hrE (by omega) (fun k hk R hR => ?_) (fun lq hlq => ?_)
      · obtain ⟨hk1, hk2⟩ := List.mem_filter.mp hk
        obtain ⟨vk, ak, dk⟩ := wordAt k (List.mem_range.mp hk1)
        rw [word_alike (of_decide_eq_true hk2)] at dk
        refine ⟨_, rfl, _, rfl, lw, _, _, _, rfl, rfl, SqL.of hwE, ak, _, rfl, _, rfl, r, _, _, .int (f : Int), rfl, rfl, SqL.of hrE, (by rw [er]; exact at0), lw, _, _, _, rfl, rfl, SqL.of hwE, af, wordDt L f, wordDt L f, dk, df, shaped_lay (lay_word L f) (by decide), shaped_lay (lay_word L f) (by decide), _, rfl, ?_⟩
        rw [lay_self (lay_word L f)]
        exact hR
      have e0 : (rowF L m f).filter (fun _ => false) = [] := List.filter_eq_nil_iff.mpr fun _ _ z => by cases z
      rw [e0]
      have sF := same_new hlq (.lst (natsL []))
      have hqF : (L2.upd HE lq (.lst (natsL []))) lq = some (.lst (natsL [])) := upd_same
      have hmF := sF _ _ hmE
      generalize L2.upd HE lq (.lst (natsL [])) = HF at sF hqF hmF ⊢
      refine ⟨small (by decide), fun lz hlz => ?_⟩
      have sG := same_new hlz (.lst [])
      refine ⟨lq, lz, [], [], rfl, rfl, SqL.of (sG _ _ hqF), SqL.of upd_same, _, rfl, ?_⟩
      refine iteNS rfl ?_
      exact ⟨(sBE.trans sF).trans sG, lm2, _, rfl, sG _ _ hmF⟩
    · rintro σ HD ⟨sD, lm, v12, rfl, hmD⟩
      have et : (frs L m).take (rs.map V.ref).length = frs L m := by rw [List.length_map, rlen, List.take_length]
      rw [et] at hmD
      have eV : ((((frs L m).flatMap (rowF L m)).map fun k : Nat => (k : Int)).map V.int) = natsL ((frs L m).flatMap (rowF L m)) := natsV _
      refine ⟨_, rfl, lm, ((frs L m).flatMap (rowF L m)).map (fun k : Nat => (k : Int)), rfl, (by rw [eV]; exact SqL.of hmD), fun ms h1 h2 l3 h3 => ?_⟩
      rw [sorted_nats h1 h2 (rows_perm L m) List.pairwise_lt_range]
      have sE := same_new h3 (.lst (((List.range m).map fun k : Nat => (k : Int)).map V.int))
      have h3E : (L2.upd HD l3 (.lst (((List.range m).map fun k : Nat => (k : Int)).map V.int))) l3 = some (.lst (((List.range m).map fun k : Nat => (k : Int)).map V.int)) := upd_same
      have sDE := sD.trans sE
      generalize L2.upd HD l3 (.lst (((List.range m).map fun k : Nat => (k : Int)).map V.int)) = HE at sE h3E sDE ⊢
      have p62 : (2 : Int) ^ 62 = 4611686018427387904 := by decide
      refine ⟨_, rfl, _, rfl, fun rp hrp => ?_⟩
      have sF := same_new hrp (.rng 0 (m : Int))
      refine ⟨rp, 0, _, rfl, upd_same, by rw [p62]; omega, by rw [p62]; omega, by rw [p62]; omega, by rw [p62]; omega, by omega, fun l4 hl4 => ?_⟩
      have e : ((List.range' 0 ((m : Int) - 0).toNat).map fun i : Nat => V.int (0 + (i : Int))) = ((List.range m).map fun k : Nat => (k : Int)).map V.int := by
        have e1 : ((m : Int) - 0).toNat = m := by omega
        rw [e1, List.range_eq_range', List.map_map]
        simp
      rw [e]
      have sG := same_new hl4 (.lst (((List.range m).map fun k : Nat => (k : Int)).map V.int))
      have sFG := sF.trans sG
      refine ⟨l3, l4, (List.range m).map (fun k : Nat => (k : Int)), (List.range m).map (fun k : Nat => (k : Int)), rfl, rfl, SqL.of (sFG _ _ h3E), SqL.of upd_same, _, rfl, ?_⟩
      refine iteNS rfl ?_
      have sBG := sDE.trans sFG
      generalize L2.upd (L2.upd HE rp (.rng 0 (m : Int))) l4 (.lst (((List.range m).map fun k : Nat => (k : Int)).map V.int)) = HG at sBG sFG ⊢
      refine ⟨_, rfl, lp, rfl, ⟨_, SqL.of (sBG _ _ FB.parts)⟩, ?_⟩
      refine for_list (K := K) (a := lp) (xs := ps) (fun i σ HI => Same HB HI ∧ ∃ v13 v14 v15, σ = [some (.ref sp), some (.ref pen), some (.int (m : Int)), some (.ref wd), some (.ref le), some (.ref lw), v6, v7, v8, some (.ref lf), some (.ref lp), some (.ref lm), v12, v13, v14, v15]) ⟨sBG, none, none, none, rfl⟩ (fun i σ HI _ z => SqL.of (z.1 _ _ FB.parts)) ?_ ?_
      · rintro i x σ HI hx ⟨sI, v13, v14, v15, rfl⟩
        obtain ⟨e, he, hd⟩ := (DnL.same sI _ _ FB.partd).get hx
        rw [List.getElem?_map] at he
        obtain ⟨f, hf, rfl⟩ := Option.map_eq_some_iff.mp he
        obtain ⟨r, xs, rfl, hrI, hxs⟩ := hd
        have ex := dnl_nats (l := [f.1, f.2.1, f.2.2]) hxs
        subst ex
        obtain ⟨g1, g2⟩ := parts_mem (frs_nodup L m) (List.mem_of_getElem? hf)
        have hleI : HI le = some (.lst (natsL L)) := sI _ _ (sB _ _ (s8 _ _ h6))
        refine ⟨r, _, rfl, sqT hrI, rfl, _, _, rfl, _, _, rfl, _, _, rfl, rfl, ?_⟩
        refine ⟨_, rfl, _, rfl, le, _, rfl, .inl (SqL.of hleI), rfl, flat_nats L, _, rfl, ?_⟩
        have e1 : (if true = true then !inV (V.int (f.2.2 : Int)) (natsL L) else inV (V.int (f.2.2 : Int)) (natsL L)) = false := by
          rw [if_pos rfl, inV_nats, decide_eq_true g1]
          rfl
        rw [e1]
        refine iteF ?_
        refine ⟨_, rfl, _, rfl, _, _, rfl, rfl, Int.natCast_nonneg _, _, _, rfl, rfl, _, rfl, _, rfl, _, _, rfl, rfl, Int.natCast_nonneg _, _, _, rfl, rfl, rfl, _, rfl, ?_⟩
        have e2 : decide (V.int (Builtin.bitAnd ((f.2.2 : Int) / 2 ^ ((f.1 : Nat) : Int).toNat) 1) = V.int (Builtin.bitAnd ((f.2.2 : Int) / 2 ^ ((f.2.1 : Nat) : Int).toNat) 1)) = false := by
          rw [shr_bit, shr_bit]
          revert g2
          cases f.2.2.testBit f.1 <;> cases f.2.2.testBit f.2.1 <;> intro g2
          · exact absurd rfl g2
          · rfl
          · rfl
          · exact absurd rfl g2
        rw [e2]
        refine iteF ?_
        exact ⟨sI, _, _, _, rfl⟩
      · rintro σ HI ⟨sI, v13, v14, v15, rfl⟩
        refine ⟨_, rfl, lp, _, rfl, .inl (SqL.of (sI _ _ FB.parts)), _, rfl, lf, _, rfl, .inl (SqL.of (sI _ _ FB.rows)), _, rfl, lf, _, rfl, .inl (SqL.of (sI _ _ FB.rows)), _, _, rfl, rfl, _, _, rfl, rfl, (by unfold CMul; rw [List.length_map]; omega), _, _, rfl, rfl, ⟨by decide, by decide⟩, rfl, ?_⟩
        have lps : ps.length = (partsF L (frs L m)).length := by
          rw [← FB.partd.length, List.length_map]
        have p2 := parts_len2 L (frs L m)
        have e3 : decide (V.int ((ps.length : Nat) : Int) = V.int ((((rs.map V.ref).length : Nat) : Int) * ((((rs.map V.ref).length : Nat) : Int) - 1) / 2)) = true := by
          refine decide_eq_true (congrArg V.int ?_)
          rw [List.length_map, rlen, lps]
          generalize (partsF L (frs L m)).length = x at p2
          generalize (frs L m).length = y at p2
          cases y with
          | zero =>
            have : x = 0 := by omega
            rw [this]
            rfl
          | succ y =>
            have e5 : ((y + 1 : Nat) : Int) * (((y + 1 : Nat) : Int) - 1) = 2 * (x : Int) := by
              have e6 : (2 * (x : Int)) = (((y + 1) * (y + 1 - 1) : Nat) : Int) := by rw [← p2]; omega
              rw [e6, Nat.add_sub_cancel, Int.natCast_mul]
              congr 1
              omega
            rw [e5]
            omega
        show Q (.bl (decide (V.int ((ps.length : Nat) : Int) = V.int ((((rs.map V.ref).length : Nat) : Int) * ((((rs.map V.ref).length : Nat) : Int) - 1) / 2)))) HI
        rw [e3]
        exact q _

end

-- FOOT
theorem all_mk {l : PySem.W.OpenLaw} {w : World} {K : PySem.W.Frag} {h : Heap} {mg : Str → Option Value} {fa f1 f2 f3 f4 f5 f6 f7 f8 f9 f10 f11 f12 f13 f14 f15 f16 f17 f18 f19 f20 f21 f22 f23 f24 f25 f26 f27 f28 f29 f30 f31 f32 f33 f34 f35 f36 cc13 tt13 : Addr} (X : K.In h) (G : h.Ns mainGlobals mg) (hfa : mg "law" = some (.ref fa))
    {d1 d2 d3 d4 d5 d6 d7 d8 d9 d10 d11 d12 d13 d14 d15 d16 d17 d18 d19 d20 d21 d22 d23 d24 d25 d26 d27 d28 d29 d30 d31 d32 d33 d34 d35 d36 : FuncData}
    {coc13 : Value} {cod13 : Option Addr} {cvs13 : Array Value} {csl13 : Array (Option Value)}
    (a1 : Dk K "has" s_has f1 d1)
    (a2 : Dk K "with_option" s_with_option f2 d2)
    (a3 : Dk K "open_options" s_open_options f3 d3)
    (a4 : Dk K "many_ties" s_many_ties f4 d4)
    (a5 : Dk K "tie_at" s_tie_at f5 d5)
    (a6 : Dk K "count_in" s_count_in f6 d6)
    (a7 : Dk K "every_tie" s_every_tie f7 d7)
    (a8 : Dk K "sure_broken" s_sure_broken f8 d8)
    (a9 : Dk K "least_sum" s_least_sum f9 d9)
    (a10 : Dk K "sure_broken_bough" s_sure_broken_bough f10 d10)
    (a11 : Dk K "first_sure_broken" s_first_sure_broken f11 d11)
    (a12 : Dk K "cases" s_cases f12 d12)
    (a13 : Dk K "cases_of" s_cases_of f13 d13)
    (e13 : d13.code = .ref cc13) (m13 : K.lookup cc13 = some ⟨coc13, cod13, .fields cvs13, csl13⟩) (n13 : (cvs13[11]? : Option Value) = some (.ref tt13))
    (a14 : Dk K "ware_leaf" s_ware_leaf f14 d14)
    (a15 : Dk K "told_tree" s_told_tree f15 d15)
    (a16 : Dk K "wares_in" s_wares_in f16 d16)
    (a17 : Dk K "wares" s_wares f17 d17)
    (a18 : Dk K "first_ware" s_first_ware f18 d18)
    (a19 : Dk K "first_keeping" s_first_keeping f19 d19)
    (a20 : Dk K "bars" s_bars f20 d20)
    (a21 : Dk K "least_bar" s_least_bar f21 d21)
    (a22 : Dk K "least_ties" s_least_ties f22 d22)
    (a23 : Dk K "tie_others" s_tie_others f23 d23)
    (a24 : Dk K "left_without" s_left_without f24 d24)
    (a25 : Dk K "standing" s_standing f25 d25)
    (a26 : Dk K "flocks" s_flocks f26 d26)
    (a27 : Dk K "parts_of" s_parts_of f27 d27)
    (a28 : Dk K "first_parting" s_first_parting f28 d28)
    (a29 : Dk K "_law_cell" s_law_cell f29 d29)
    (a30 : Dk K "_law_next" s_law_next f30 d30)
    (a31 : Dk K "_law_kids" s_law_kids f31 d31)
    (a32 : Dk K "_law_bough" s_law_bough f32 d32)
    (a33 : Dk K "_law_cross" s_law_cross f33 d33)
    (a34 : Dk K "_law_wood" s_law_wood f34 d34)
    (a35 : Dk K "_law_word" s_law_word f35 d35)
    (a36 : Dk K "law" s_law f36 d36)
    (z1 : PySem.W.nsIn K mainGlobals "range" = some none)
    (z2 : PySem.W.nsIn K mainGlobals "len" = some none)
    (z3 : PySem.W.nsIn K mainGlobals "max" = some none)
    (z4 : PySem.W.nsIn K mainGlobals "int" = some none)
    (z5 : PySem.W.nsIn K mainGlobals "list" = some none)
    (z6 : PySem.W.nsIn K mainGlobals "tuple" = some none)
    (z7 : PySem.W.nsIn K mainGlobals "sorted" = some none)
    (z8 : PySem.W.nsIn K mainGlobals "enumerate" = some none)
    (z9 : PySem.W.nsIn K mainGlobals "sum" = some none)
    : (∃ fd : FuncData, (∀ (s : Shared) (v : Value), BindsTo s fd ⟨[v], []⟩ [("_law_script", v)]) ∧ ∀ base : Heap, K.In base → base.Ns mainGlobals mg → (∀ p ∈ ([(cc13, tt13)] : List (Addr × Addr)), LamB mg base p.1 p.2) → FnOk l.prog w K mg base CX0 22 fa fd ["_law_script"] (spT tt13 (spLaw K))) := by
  have e := hfa.symm.trans (PySem.W.mg_of X G a36.1)
  cases e
  have T : Txt K mg ⟨f1, f2, f3, f4, f5, f6, f7, f8, f9, f10, f11, f12, f13, f14, f15, f16, f17, f18, f19, f20, f21, f22, f23, f24, f25, f26, f27, f28, f29, f30, f31, f32, f33, f34, f35, fa, cc13, tt13⟩ ⟨d1, d2, d3, d4, d5, d6, d7, d8, d9, d10, d11, d12, d13, d14, d15, d16, d17, d18, d19, d20, d21, d22, d23, d24, d25, d26, d27, d28, d29, d30, d31, d32, d33, d34, d35, d36⟩ := ⟨PySem.W.mg_none_of X G z1, PySem.W.mg_none_of X G z2, PySem.W.mg_none_of X G z3, PySem.W.mg_none_of X G z4, PySem.W.mg_none_of X G z5, PySem.W.mg_none_of X G z6, PySem.W.mg_none_of X G z7, PySem.W.mg_none_of X G z8, PySem.W.mg_none_of X G z9, a1.df X G (bd2 fun _ _ _ _ _ _ _ _ => rfl), a2.df X G (bd2 fun _ _ _ _ _ _ _ _ => rfl), a3.df X G (bd3 fun _ _ _ _ _ _ _ _ _ => rfl), a4.df X G (bd1 fun _ _ _ _ _ _ _ => rfl), a5.df X G (bd2 fun _ _ _ _ _ _ _ _ => rfl), a6.df X G (bd2 fun _ _ _ _ _ _ _ _ => rfl), a7.df X G (bd1 fun _ _ _ _ _ _ _ => rfl), a8.df X G (bd3 fun _ _ _ _ _ _ _ _ _ => rfl), a9.df X G (bd3 fun _ _ _ _ _ _ _ _ _ => rfl), a10.df X G (bd3 fun _ _ _ _ _ _ _ _ _ => rfl), a11.df X G (bd4 fun _ _ _ _ _ _ _ _ _ _ => rfl), a12.df X G (bd3 fun _ _ _ _ _ _ _ _ _ => rfl), a13.df X G (bd4 fun _ _ _ _ _ _ _ _ _ _ => rfl), a14.df X G (bd3 fun _ _ _ _ _ _ _ _ _ => rfl), a15.df X G (bd5 fun _ _ _ _ _ _ _ _ _ _ _ => rfl), a16.df X G (bd2 fun _ _ _ _ _ _ _ _ => rfl), a17.df X G (bd1 fun _ _ _ _ _ _ _ => rfl), a18.df X G (bd3 fun _ _ _ _ _ _ _ _ _ => rfl), a19.df X G (bd4 fun _ _ _ _ _ _ _ _ _ _ => rfl), a20.df X G (bd4 fun _ _ _ _ _ _ _ _ _ _ => rfl), a21.df X G (bd3 fun _ _ _ _ _ _ _ _ _ => rfl), a22.df X G (bd3 fun _ _ _ _ _ _ _ _ _ => rfl), a23.df X G (bd4 fun _ _ _ _ _ _ _ _ _ _ => rfl), a24.df X G (bd2 fun _ _ _ _ _ _ _ _ => rfl), a25.df X G (bd2 fun _ _ _ _ _ _ _ _ => rfl), a26.df X G (bd1 fun _ _ _ _ _ _ _ => rfl), a27.df X G (bd2 fun _ _ _ _ _ _ _ _ => rfl), a28.df X G (bd3 fun _ _ _ _ _ _ _ _ _ => rfl), a29.df X G (bd2 fun _ _ _ _ _ _ _ _ => rfl), a30.df X G (bd2 fun _ _ _ _ _ _ _ _ => rfl), a31.df X G (bd2 fun _ _ _ _ _ _ _ _ => rfl), a32.df X G (bd3 fun _ _ _ _ _ _ _ _ _ => rfl), a33.df X G (bd2 fun _ _ _ _ _ _ _ _ => rfl), a34.df X G (bd3 fun _ _ _ _ _ _ _ _ _ => rfl), a35.df X G (bd2 fun _ _ _ _ _ _ _ _ => rfl), a36.df X G (bd1 fun _ _ _ _ _ _ _ => rfl), e13⟩
  exact ⟨d36, law_b a36.2 fun _ _ _ _ _ _ _ => rfl, fun base _ _ LL => ok_law T (LL _ List.mem_cons_self)⟩
theorem walk {l : PySem.W.OpenLaw} {q : Program} {loose : List Str} {XP : (Str → Option Value) → Heap → Prop} {YP : World → Heap → Prop} {d : DefRec} {K : Params → PySem.W.Frag} {c13 P13 : Addr} (hn : l.most = some 63) (hdf : d.params.defaults = [])
    (hY : ∀ (w : World) (h : Heap), YP w h → (K w.params).In h)
    (hK0 : ∀ w : World, PySem.W.noTabs (K w.params) = true) (hT : ∀ (w : World) (h : Heap), YP w h → PySem.W.TabsAt [(c13, P13)] h)
(F : ∀ (w : World) (mg : Str → Option Value) (fa : Addr) (h : Heap), (K w.params).In h → h.Ns mainGlobals mg → mg d.name = some (.ref fa) →
      ∃ fd : FuncData, (∀ (s : Shared) (u : Value), BindsTo s fd ⟨[u], []⟩ [("_law_script", u)]) ∧ ∀ base : Heap, (K w.params).In base → base.Ns mainGlobals mg → (∀ p ∈ ([(c13, P13)] : List (Addr × Addr)), LamB mg base p.1 p.2) → FnOk l.prog w (K w.params) mg base CX0 22 fa fd ["_law_script"] (spT P13 (spLaw (K w.params)))) :
    PySem.W.WalkO q loose XP YP l.row.toRowW d [] (fun f vs => PySem.call f vs) :=
  
  L2.walk_ofT (n := 63) (k := 22) (x := "_law_script") (tabs := fun _ => [(c13, P13)]) (sp := fun w => (spT P13 (spLaw (K w.params)))) hn (by decide) hdf ⟨rfl, by decide, by decide⟩ hY hK0 hT F (fun _ _ a ns hl hT hS => ⟨hT _ List.mem_cons_self, a, ns, rfl, hS, hl, fun _ => rfl⟩)
end Ow
structure PySem.W.Fast : Prop where
  (tw17038817182410678963 tw11500212984134125952 tw7802546993221284133 tw14754629197729738827 tw16024238582699549776 tw13614260531524250007 tw8101690067319522516 tw10488304556877516248 tw3471977947904155490 tw10112360812711734312 tw17369576146974216522 tw3606486851773030319 tw14206666648142118637 tw18236534336503677949 tw7059967773072413311 tw10443623698654657215 tw91938112088766272 tw7292750189988648565 tw12998980156098030272 tw7674080882245391734 tw11009251773214165614 tw17188481136608780671 tw17245326603248652563 tw657283562390905862 tw10226237757437938561 tw6101307973082878215 tw6140575301597182622 tw611351916550708105 tw5890141043021858517 tw1369537150065031333 tw1553569046887615225 tw14210939734622992135 tw9525245214788153532 tw7496588133748725553 tw8641084360727657945 tw7734777020629486968 tw9443603538806725297 tw3641682389032271611 tw15432892344831672133 tw7644937794799262278 tw15249576964033744038 tw14567811150458885367 tw4998592710293780685 tw14780775509307029909 tw8855607820351735121 tw8907460999205193071 tw14165745380620497283 tw16777950321607971461 tw11938824567806160568 tw10434749757229620745 tw4509282208471478428 tw12942419508124343153 tw9660755674464639722 tw2562668092297271907 tw8236073206850491284 tw835396593394958524 tw16139530501117395912 tw12509607172666366042 tw14823564897371110404 tw3384701212896807846 tw430578397977195023 tw6592069143775237645 tw13035639712628075142 tw16712435081148790767 tw5324446677277673454 tw6193393592933618432 tw4069128776753259607 tw17222802607149273286 tw10452734235275810651 tw9650021450100115460 tw17512759280953656406 tw12618017221327291730 tw1433250284958030027 tw16609686967358787365 tw7117016710116250026 tw14630097776997037549 tw13784560744761181276 tw3368006162317124457 tw4687752696443977800 tw76442546495394567 tw18196107581671265357 tw14570045465440646493 tw10656161157739226825 tw6112900104369270752 tw15383791699443837095 tw11354922598061724982 tw2403333362954458987 tw13199810768082295201 tw8411444266485794675 tw8133409562873376633 tw5320263215107070131 tw16813527363331930405 tw12759936781442390007 tw1275027367437787760 tw16604928076694580028 tw3334442186135421301 tw3866347737489186094 tw5671944832863725296 tw5813813127431722222 tw2473042541748660864 tw8267896431912475758 tw691485724741633601 tw17149836224397716928 tw2970137985335298783 tw5014078588885062714 tw5412042112210766477 tw6178859733588467130 tw15864915012786418216 tw6622150163693412904 tw6467797716888869675 tw16287492626074576554 tw6910952345626747938 tw14778568002755401012 tw17212048637689329242 tw16650677745968809324 tw10894542147565052728 tw9442169445346495173 tw9149814876001939040 tw14996164784801453201 tw14280615362977090671 tw9239595054030362018 tw9123784572543134970 tw2833553210766350174 tw10546806333817377949 tw2011561528148822775 tw11501160800422689019 tw6387043176150065042 tw17787196719322625180 tw16566338969900541657 tw11786337981128081531 tw13743342796891954729 tw15716486906506295909 tw6386972639846329639 tw15954360251338149285 tw15748332407702651735 tw2341381210770878945 tw6749016129727580131 tw12313475468935484006 tw2693395858100278463 tw1113534566349763813 tw3330492297687695759 tw1545908358880894412 tw1071277032547804007 tw5562414726326653532 tw1386059295914149559 tw14930881672940423578 tw4490097686699326510 tw369995319405534711 tw4895248665996881818 tw14900673221438031702 tw1945927141278270833 tw4476060601452931193 tw16098629649399816099 tw11144556292275829952 tw12765447590276443350 tw5517956074548475564 tw7109212933473286859 tw16604337979992021161 tw2598787972535228062 tw9171089304007776350 tw14084751514576595829 tw8260842270528180516 tw15396593706465633286 tw17332556132789971322 tw15556219717931608627 tw4647642784560662893 tw2920369863109400035 tw10652473568137651788 tw13501504757356701505 tw14152421889269128371 tw13508589043967379830 tw7764161656600850768 tw10591996575220118553 tw13106971133614610757 tw14556017402526878851 tw3782267463748676335 tw9354452373029147603 tw1094008591282219953 tw7443550751321881019 tw12333770038152918249 tw6654281625080232160 tw1681859419070323791 tw660152677218636223 tw17610146806904130556 tw272718508434422957 tw10525574612608922684 tw11742068172550906702 tw9597837593543477427 tw14628746706197147188 tw12440712164055515790 tw15288939911843902343 tw17206903102982907813 tw5817995999554367501 tw10417079030072257836 tw5398349213633888274 tw16081410400469085456 tw10981019626888626431 tw1177136215084400174 tw9149901278367975744 tw18059387389442664353 tw9056478691793378928 tw5901575445278242934 tw159648792536281750 tw2460048797067262763 tw14825784388500403631 tw5283385070783324311 tw16694043549707643470 tw10293566494466587648 tw10002791709812426608 tw10029703276698966247 tw9771367498897765614 tw15469167471207930971 tw2709062636890347982 tw16201012167227925387 : True)
namespace Ow
end Ow
open PySem PySem.W PyProof.Rows
set_option maxRecDepth 100000 in
set_option maxHeartbeats 0 in
theorem PySem.Challenge.cw_optionwood_k35_whole_standing_and_wares_holds : PySem.Challenge.rw_optionwood_k35_whole_standing_and_wares.Holds := by
  w_on; o_law; k_head; (case hw => w_witness2)
  k_fill
  refine' Ow.walk (l := PySem.Challenge.rw_optionwood_k35_whole_standing_and_wares) (c13 := _) (P13 := _) rfl rfl (fun w h Y => PySem.W.km_in_of Y) ?K0 ?hT ?F
  case F =>
    intro w mg fa h KX G hmg
    refine' Ow.all_mk KX G hmg ?a1 ?a2 ?a3 ?a4 ?a5 ?a6 ?a7 ?a8 ?a9 ?a10 ?a11 ?a12 ?a13 ?e13 ?m13 ?n13 ?a14 ?a15 ?a16 ?a17 ?a18 ?a19 ?a20 ?a21 ?a22 ?a23 ?a24 ?a25 ?a26 ?a27 ?a28 ?a29 ?a30 ?a31 ?a32 ?a33 ?a34 ?a35 ?a36 ?z1 ?z2 ?z3 ?z4 ?z5 ?z6 ?z7 ?z8 ?z9
    all_goals try (refine' L2.dk ?a ?l ?c ?k; (case a => k_is); (case l => k_is); (case c => k_is); (case k => k_is))
    (case e13 => exact rfl)
    (case m13 => k_is)
    (case n13 => exact rfl)
    (case z1 => k_is)
    (case z2 => k_is)
    (case z3 => k_is)
    (case z4 => k_is)
    (case z5 => k_is)
    (case z6 => k_is)
    (case z7 => k_is)
    (case z8 => k_is)
    (case z9 => k_is)
  case K0 => intro w; kernel_rfl
  case hT =>
    intro w h Y q hq
    simp only [List.mem_cons, List.not_mem_nil, or_false] at hq
    subst hq
    exact ⟨PySem.W.codeHd_of_K (PySem.W.km_in_of Y) (by kernel_rfl), PySem.W.km_tabs_of Y _ (by decide)⟩
#print axioms PySem.Challenge.cw_optionwood_k35_whole_standing_and_wares_holds
