import PyProof.Rows.All
import Wide.All
import OpenK.AllK
import Wide.FinOn
import Lean
import PyProof.EqAt
import PyProof.EqKinds
import PyProof.TupleCall
import PySem.Challenge.RW_optionwood_k61_trees_of_bounds
set_option Elab.async false
set_option linter.all false
set_option maxRecDepth 100000
namespace L2
open PySem PySem.Spec PyProof.Rows
abbrev Key := Sum Int Str
def ztt : Key → Value → Bool
 | .inl k, v => Value.isInt k v
 | .inr x, v => Value.isStrOf x v
def zwh (w : World) : Key → Int
 | .inl k => hashInt k
 | .inr x => hashStr w x
theorem zbq : ∀ {k : Key} {v : Value}, ztt k v = true → (∃ i t, k = Sum.inl i ∧ v = Value.int i t) ∨ (∃ x t, k = Sum.inr x ∧ v = Value.str x t)
 | .inl i, v, h => by
  obtain ⟨t, e⟩ := Value.isInt_shape (k := i) (v := v) h
  exact .inl ⟨i, t, rfl, e⟩
 | .inr x, v, h => by
  obtain ⟨t, e⟩ := Value.isStrOf_shape (x := x) (v := v) h
  exact .inr ⟨x, t, rfl, e⟩
theorem zu9 (a b : Int) : decide ((Sum.inl a : Key) = Sum.inl b) = (a == b) := by
 by_cases e : a = b
 ·subst e; simp
 ·have h : ¬ (Sum.inl a : Key) = Sum.inl b := fun q => e (Sum.inl.inj q)
  rw [decide_eq_false h]
  exact (beq_eq_false_iff_ne.mpr e).symm
theorem zt7 (a b : Str) : decide ((Sum.inr a : Key) = Sum.inr b) = decide (a = b) := by
 by_cases e : a = b
 ·subst e; simp
 ·have h : ¬ (Sum.inr a : Key) = Sum.inr b := fun q => e (Sum.inr.inj q)
  rw [decide_eq_false h, decide_eq_false e]
theorem zum (a : Int) (b : Str) : decide ((Sum.inl a : Key) = Sum.inr b) = false := decide_eq_false (fun q => nomatch q)
theorem zuz (a : Str) (b : Int) : decide ((Sum.inr a : Key) = Sum.inl b) = false := decide_eq_false (fun q => nomatch q)
def zob (prog : Program) (w : World) : PySem.KeyKind prog w Key where
 is := ztt
 hash := zwh w
 inj := fun v a b ha hb => by
  rcases zbq ha with ⟨i, t, rfl, rfl⟩ | ⟨x, t, rfl, rfl⟩
  ·rcases zbq hb with ⟨j, u, rfl, e⟩ | ⟨y, u, rfl, e⟩
   ·injection e with e1 _; rw [e1]
   ·exact nomatch e
  ·rcases zbq hb with ⟨j, u, rfl, e⟩ | ⟨y, u, rfl, e⟩
   ·exact nomatch e
   ·injection e with e1 _; rw [e1]
 byValue := fun k v h => by
  rcases zbq h with ⟨i, t, rfl, rfl⟩ | ⟨x, t, rfl, rfl⟩ <;> rfl
 pyHash := fun hv h => by
  rcases zbq hv with ⟨i, t, rfl, rfl⟩ | ⟨x, t, rfl, rfl⟩
  ·exact wpAny_pyHash_int h
  ·exact wpAny_pyHash_str h
 eqBool := fun hu hv h => by
  rcases zbq hu with ⟨i, t, rfl, rfl⟩ | ⟨x, t, rfl, rfl⟩
  ·rcases zbq hv with ⟨j, u, rfl, rfl⟩ | ⟨y, u, rfl, rfl⟩
   ·rw [zu9] at h; exact wpAny_eqBool_int h
   ·rw [zum] at h; exact SeqAt.EqAt.int_str i t y u _ _ _ _ h
  ·rcases zbq hv with ⟨j, u, rfl, rfl⟩ | ⟨y, u, rfl, rfl⟩
   ·rw [zuz] at h; exact SeqAt.EqAt.str_int x t j u _ _ _ _ h
   ·rw [zt7] at h; exact wpAny_eqBool_str h
 «strs» := fun k x t v h => by
  rcases zbq h with ⟨i, u, rfl, e⟩ | ⟨y, u, rfl, e⟩
  ·exact nomatch e
  ·injection e with e1 _
   subst e1
   cases v <;> rfl
end L2
namespace L2
open PySem PySem.Spec PyProof.Rows
inductive V where
 | non | bl (b : Bool) | int (i : Int) | str (x : Str) | byt (b : Array UInt8) | flt (b : UInt64) | ref (a : Addr) | ty (n : String)
 deriving DecidableEq
def RelV : V → Value → Prop
 | .non, u => u = Value.none
 | .bl b, u => u = Value.bool b
 | .int i, u => ∃ t, u = Value.int i t
 | .str x, u => ∃ t, u = Value.str x t
 | .byt b, u => ∃ t, u = Value.bytes b t
 | .flt b, u => ∃ t, u = Value.float b t
 | .ref a, u => u = Value.ref a
 | .ty n, u => u = Value.type n
abbrev Vals : List V → List Value → Prop := Paired RelV
theorem Vals.length {xs : List V} {us : List Value} (r : Vals xs us) : xs.length = us.length := Paired.length r
theorem Vals.get : ∀ {xs : List V} {us : List Value} {i : Nat} {x : V}, Vals xs us → xs[i]? = some x → ∃ u, us[i]? = some u ∧ RelV x u
 | _, _, _, _, .nil, e => by simp at e
 | _, _, 0, _, .cons r _, e => by simp at e; subst e; exact ⟨_, rfl, r⟩
 | _, _, i + 1, x, .cons _ t, e => by
  obtain ⟨u, h1, h2⟩ := Vals.get (i := i) (x := x) t (by simpa using e)
  exact ⟨u, by simpa using h1, h2⟩
theorem Vals.set {x : V} {u : Value} (r : RelV x u) : ∀ {xs : List V} {us : List Value} (i : Nat), Vals xs us → Vals (xs.set i x) (us.set i u)
 | _, _, _, .nil => .nil
 | _, _, 0, .cons _ t => .cons r t
 | _, _, i + 1, .cons q t => .cons q (Vals.set r i t)
theorem Vals.append : ∀ {xs ys : List V} {us ws : List Value}, Vals xs us → Vals ys ws → Vals (xs ++ ys) (us ++ ws)
 | _, _, _, _, .nil, s => s
 | _, _, _, _, .cons r t, s => .cons r (Vals.append t s)
theorem Vals.take : ∀ {xs : List V} {us : List Value} (n : Nat), Vals xs us → Vals (xs.take n) (us.take n)
 | _, _, 0, _ => .nil
 | _, _, _ + 1, .nil => .nil
 | _, _, n + 1, .cons r t => .cons r (Vals.take n t)
theorem Vals.drop : ∀ {xs : List V} {us : List Value} (n : Nat), Vals xs us → Vals (xs.drop n) (us.drop n)
 | _, _, 0, r => r
 | _, _, _ + 1, .nil => .nil
 | _, _, n + 1, .cons _ t => Vals.drop n t
def zu7 : Option V → Option Value → Prop
 | some v, some u => RelV v u
 | none, none => True
 | _, _ => False
def KV {κ : Type} : List (κ × V) → List (κ × Value) → Prop := Paired fun (p : κ × V) (q : κ × Value) => p.1 = q.1 ∧ RelV p.2 q.2
def kV : Key → V
 | .inl i => .int i
 | .inr x => .str x
inductive HO where
 | lst (xs : List V)
 | tup (xs : List V)
 | dK (kvs : List (Key × V)) | dT (kvs : List (List Key × V))
 | set (S : Int → Bool) (n : Nat)
 | ins (C dx : Addr) (fs : List (Str × V))
 | own (x : Addr)
 | xd (fs : List (Str × V))
 | met (f x : Addr)
 | rng (lo hi : Int)
 | frz (o : Obj) (u : HO)
 | tbl (ps : Array Value)
 | ext (φ : Heap → Prop)
abbrev Hp := Addr → Option HO
def upd (H : Hp) (a : Addr) (o : HO) : Hp := fun b => if b = a then some o else H b
theorem zae {H : Hp} {a : Addr} {o : HO} : upd H a o a = some o := by unfold upd; rw [if_pos rfl]
theorem zap {H : Hp} {a b : Addr} {o : HO} (h : b ≠ a) : upd H a o b = H b := by unfold upd; rw [if_neg h]
theorem zop {H : Hp} {a b : Addr} {o u : HO} (h : H a = some o) (h' : H b = some u) (d : o ≠ u) : a ≠ b := by
 intro e; subst e; rw [h] at h'; exact d (Option.some.inj h')
theorem zax {H : Hp} {a b : Addr} {o : HO} (h : H a = some o) (h' : H b = none) : a ≠ b := by
 intro e; subst e; rw [h] at h'; cases h'
section
variable (P : Program) (w : World)
def ObjOk (H : Hp) (h : Heap) (a : Addr) : HO → Prop
 | .lst xs => xs.length ≤ sizeLine ∧ ∃ (its : List Value) (n : Nat), Vals xs its ∧ h.get? a = some { cls := .type "list", data := .seq its.toArray n }
 | .tup xs => xs.length ≤ sizeLine ∧ ∃ its : List Value, Vals xs its ∧ IsTup h a its.toArray
 | .dK kvs => kvs.length ≤ sizeLine ∧ (a == sysModules) = false ∧ ∃ vs, KV kvs vs ∧ h.DictOf (zob P w) a vs
 | .dT kvs => kvs.length ≤ sizeLine ∧ (a == sysModules) = false ∧ ∃ xs : List (List Key × Addr × Value),
   Paired (fun (p : List Key × V) (q : List Key × Addr × Value) => p.1 = q.1 ∧ H q.2.1 = some (.tup (p.1.map kV)) ∧ RelV p.2 q.2.2) kvs xs ∧
   ∃ o es ep, h.get? a = some o ∧ o.ExactDict ∧ o.data = .dict es ep ∧ es.toList = xs.map (entryOfKey (tupleKind (zob P w))) ∧ (xs.map (·.1)).Nodup
 | .set S n => h.SetOf (intKind P w) a S n
 | .ins C dx fs => H dx = some (.own a) ∧ fs.length ≤ 1000 ∧ dx ≠ a ∧ h.get? a = some (PySem.W.instObj C dx) ∧
   ∃ mA, h.Ns1 dx mA ∧ (∀ f, zu7 (fs.lookup f) (mA f)) ∧ PySem.Within mA (fs.map (·.1))
 | .own _ => ∃ o, h.get? a = some o
 | .xd fs => ∃ mA, h.Ns1 a mA ∧ ∀ f, zu7 (fs.lookup f) (mA f)
 | .rng lo hi => ∃ t u v, h.get? a = some { cls := .type "range", data := .fields #[.int lo t, .int hi u, .int 1 v] }
 | .frz o u => h.get? a = some o ∧ ObjOk H h a u
 | .tbl ps => h.get? a = some { cls := .none, data := .fields ps }
 | .met f x => h.get? a = some (PySem.W.methodObj (.ref f) (.ref x))
 | .ext φ => φ h ∧ (∃ o, h.get? a = some o) ∧ ∀ h1 h2 : Heap, φ h1 → (∀ o, h1.get? a = some o → h2.get? a = some o) → φ h2
def HOk (H : Hp) (h : Heap) : Prop := ∀ a o, H a = some o → ObjOk P w H h a o
end
section
variable {P : Program} {w : World} {H H' : Hp} {h h' : Heap} {a : Addr} {o : HO}
theorem ObjOk.lt (x : ObjOk P w H h a o) : a < h.objs.size := by
 cases o with
 | lst xs => obtain ⟨_, _, _, _, e⟩ := x; exact Heap.lt_size e
 | tup xs => obtain ⟨_, _, _, p⟩ := x; exact p.lt
 | dK kvs => obtain ⟨_, _, _, _, o, _, _, e, _⟩ := x; exact Heap.lt_size e
 | dT kvs => obtain ⟨_, _, _, _, o, _, _, e, _⟩ := x; exact Heap.lt_size e
 | set S n => obtain ⟨o, _, _, _, e, _⟩ := x; exact Heap.lt_size e
 | ins C dx fs => obtain ⟨_, _, _, e, _⟩ := x; exact Heap.lt_size e
 | own y => obtain ⟨_, e⟩ := x; exact Heap.lt_size e
 | xd fs => obtain ⟨_, ⟨_, _, _, e, _⟩, _⟩ := x; exact Heap.lt_size e
 | rng lo hi => obtain ⟨_, _, _, e⟩ := x; exact Heap.lt_size e
 | frz ob u => obtain ⟨e, _⟩ := x; exact Heap.lt_size e
 | tbl ps => exact Heap.lt_size (show h.get? a = some _ from x)
 | met f y => exact Heap.lt_size (show h.get? a = some _ from x)
 | ext φ => obtain ⟨_, ⟨_, e⟩, _⟩ := x; exact Heap.lt_size e
theorem Paired.mapP {α β : Type} {F G : α → β → Prop} : ∀ {l₁ : List α} {l₂ : List β}, Paired F l₁ l₂ → (∀ a b, F a b → G a b) → Paired G l₁ l₂
 | _, _, .nil, _ => .nil
 | _, _, .cons r t, f => .cons (f _ _ r) (Paired.mapP t f)
theorem ObjOk.stay (x : ObjOk P w H h a o) (k : ∀ b u, (b = a ∨ H b = some (.own a)) → h.get? b = some u → h'.get? b = some u)
  (ho : ∀ b, H b = some (.own a) → H' b = some (.own a)) (ht : ∀ b xs, H b = some (.tup xs) → H' b = some (.tup xs)) : ObjOk P w H' h' a o := by
 induction o with
 | lst xs => obtain ⟨z, its, n, r, e⟩ := x; exact ⟨z, its, n, r, k _ _ (.inl rfl) e⟩
 | tup xs => obtain ⟨z, its, r, ob, e, c⟩ := x; exact ⟨z, its, r, ob, k _ _ (.inl rfl) e, c⟩
 | dK kvs => obtain ⟨z, y, vs, r, ob, es, ep, e, c⟩ := x; exact ⟨z, y, vs, r, ob, es, ep, k _ _ (.inl rfl) e, c⟩
 | dT kvs =>
  obtain ⟨z, y, xs, r, ob, es, ep, e, c⟩ := x
  exact ⟨z, y, xs, Paired.mapP r fun p q z => ⟨z.1, ht _ _ z.2.1, z.2.2⟩, ob, es, ep, k _ _ (.inl rfl) e, c⟩
 | set S n => obtain ⟨ob, es, ep, t, e, c⟩ := x; exact ⟨ob, es, ep, t, k _ _ (.inl rfl) e, c⟩
 | ins C dx fs =>
  obtain ⟨d, z, ne, e, mA, ⟨od, es, ep, e2, c⟩, r⟩ := x
  exact ⟨ho _ d, z, ne, k _ _ (.inl rfl) e, mA, ⟨od, es, ep, k _ _ (.inr d) e2, c⟩, r⟩
 | own y => obtain ⟨ob, e⟩ := x; exact ⟨ob, k _ _ (.inl rfl) e⟩
 | xd fs => obtain ⟨mA, ⟨od, es, ep, e, c⟩, r⟩ := x; exact ⟨mA, ⟨od, es, ep, k _ _ (.inl rfl) e, c⟩, r⟩
 | rng lo hi => obtain ⟨t, u, v, e⟩ := x; exact ⟨t, u, v, k _ _ (.inl rfl) e⟩
 | frz ob u ih => obtain ⟨e, q⟩ := x; exact ⟨k _ _ (.inl rfl) e, ih q⟩
 | tbl ps =>
  have e : h.get? a = some { cls := .none, data := .fields ps } := x
  show h'.get? a = some { cls := .none, data := .fields ps }
  exact k a _ (.inl rfl) e
 | met f y =>
  have e : h.get? a = some (PySem.W.methodObj (.ref f) (.ref y)) := x
  show h'.get? a = some (PySem.W.methodObj (.ref f) (.ref y))
  exact k a _ (.inl rfl) e
 | ext φ => obtain ⟨p, ⟨o, e⟩, st⟩ := x; exact ⟨st _ _ p fun o q => k _ _ (.inl rfl) q, ⟨o, k _ _ (.inl rfl) e⟩, st⟩
theorem HOk.lt (x : HOk P w H h) (e : H a = some o) : a < h.objs.size := (x a o e).lt
theorem HOk.fresh (x : HOk P w H h) (e : h.objs.size ≤ a) : H a = none := by
 cases q : H a with
 | none => rfl
 | some u => exact absurd (Nat.lt_of_lt_of_le (x.lt q) e) (Nat.lt_irrefl _)
theorem HOk.kept (x : HOk P w H h) (k : ∀ b u, h.get? b = some u → h'.get? b = some u) : HOk P w H h' := fun a o e =>
 (x a o e).stay (fun b u _ q => k b u q) (fun _ q => q) fun _ _ q => q
theorem HOk.laid (x : HOk P w H h) (k : ∀ b u, h.get? b = some u → h'.get? b = some u) (hp : h.objs.size ≤ a) (new : ObjOk P w (upd H a o) h' a o) : HOk P w (upd H a o) h' := fun b u e => by
 have hn := x.fresh hp
 by_cases hb : b = a
 ·subst hb; rw [zae] at e; cases e; exact new
 ·rw [zap hb] at e
  exact (x b u e).stay (fun c v _ q => k c v q) (fun c q => by rw [zap (zax q hn)]; exact q) fun c xs q => by rw [zap (zax q hn)]; exact q
end
def Rd (H : Hp) (a : Addr) (u : HO) : Prop := H a = some u ∨ ∃ o, H a = some (.frz o u)
theorem Rd.ok {P : Program} {w : World} {H : Hp} {h : Heap} {a : Addr} {u : HO} (r : Rd H a u) (x : HOk P w H h) : ObjOk P w H h a u := by
 rcases r with r | ⟨o, r⟩
 ·exact x a u r
 ·obtain ⟨_, q⟩ := x a _ r
  exact q
def Mut : Option HO → Prop
 | some (.lst _) => True
 | some (.dK _) => True
 | some (.dT _) => True
 | some (.set _ _) => True
 | some (.ins _ _ _) => True
 | some (.ext _) => True
 | _ => False
section
variable {P : Program} {w : World} {H : Hp} {h h' : Heap} {x e : Addr} {o' : HO}
theorem HOk.write (ok : HOk P w H h) (mu : Mut (H x)) (he : e = x ∨ H e = some (.own x)) (k : ∀ b u, b ≠ e → h.get? b = some u → h'.get? b = some u) (heo : ∃ u, h'.get? e = some u)
  (new : ObjOk P w (upd H x o') h' x o') : HOk P w (upd H x o') h' := fun b u q => by
 have nown : ∀ c y, H c = some (.own y) → c ≠ x := fun c y r z => by subst z; rw [r] at mu; exact mu
 have ntup : ∀ c xs, H c = some (.tup xs) → c ≠ x := fun c xs r z => by subst z; rw [r] at mu; exact mu
 by_cases hb : b = x
 ·subst hb; rw [zae] at q; cases q; exact new
 ·rw [zap hb] at q
  by_cases hbe : b = e
  ·have q' : H b = some (.own x) := by
    rcases he with z | z
    ·exact absurd (hbe.trans z) hb
    ·rw [hbe]; exact z
   rw [q] at q'; cases q'
   obtain ⟨v, hv⟩ := heo
   exact ⟨v, by rw [hbe]; exact hv⟩
  ·refine (ok b u q).stay (fun c v hc r => k c v ?_ r) (fun c r => by rw [zap (nown c b r)]; exact r) fun c xs r => by rw [zap (ntup c xs r)]; exact r
   rcases hc with rfl | hc
   ·exact hbe
   ·rintro rfl
    rcases he with z | z
    ·exact nown c b hc z
    ·rw [hc] at z; cases z; exact hb rfl
end
structure Un (fs ex : List Addr) (H H' : Hp) (h h' : Heap) : Prop where
 keep : ∀ b o, h.get? b = some o → H b = none → b ∉ fs → b ∉ ex → h'.get? b = some o
 slot : ∀ b o, h.get? b = some o → H b = none → b ∈ fs → b ∉ ex → ∃ sl, h'.get? b = some { o with slots := sl }
 free : ∀ b o, h.get? b = some o → H b = none → b ∉ ex → H' b = none
 there : ∀ b o, h.get? b = some o → b ∉ ex → ∃ o', h'.get? b = some o'
 tups : ∀ b xs, H b = some (.tup xs) → H' b = some (.tup xs)
 frzs : ∀ b o u, H b = some (.frz o u) → H' b = some (.frz o u)
 tbls : ∀ b ps, H b = some (.tbl ps) → ∃ more, H' b = some (.tbl (ps ++ more))
section
variable {fs fs' ex ex' : List Addr} {H H1 H2 : Hp} {h h1 h2 h' : Heap} {a x e : Addr} {o : HO}
theorem Un.any (u : Un fs ex H H1 h h1) {b : Addr} {ob : Obj} (q : h.get? b = some ob) (n : H b = none) (hx : b ∉ ex) : ∃ sl, h1.get? b = some { ob with slots := sl } := by
 by_cases hb : b ∈ fs
 ·exact u.slot b ob q n hb hx
 ·exact ⟨ob.slots, u.keep b ob q n hb hx⟩
theorem Un.kept (k : ∀ b u, h.get? b = some u → h'.get? b = some u) : Un fs ex H H h h' :=
 ⟨fun b ob q _ _ _ => k b ob q, fun b ob q _ _ _ => ⟨ob.slots, k b ob q⟩, fun _ _ _ n _ => n, fun b ob q _ => ⟨ob, k b ob q⟩, fun _ _ q => q, fun _ _ _ q => q, fun _ ps q => ⟨#[], by rw [q]; simp⟩⟩
theorem Un.refl : Un fs ex H H h h := Un.kept fun _ _ q => q
theorem Un.laid (k : ∀ b u, h.get? b = some u → h'.get? b = some u) (hp : h.objs.size ≤ a) (hn : H a = none) : Un fs ex H (upd H a o) h h' where
 keep := fun b u q _ _ _ => k b u q
 slot := fun b u q _ _ _ => ⟨u.slots, k b u q⟩
 free := fun b u q n _ => by rw [zap (Nat.ne_of_lt (Nat.lt_of_lt_of_le (Heap.lt_size q) hp))]; exact n
 there := fun b u q _ => ⟨u, k b u q⟩
 tups := fun b xs q => by rw [zap (zax q hn)]; exact q
 frzs := fun b u xs q => by rw [zap (zax q hn)]; exact q
 tbls := fun b ps q => ⟨#[], by rw [zap (zax q hn), q]; simp⟩
theorem Un.write (mu : Mut (H x)) (he : e = x ∨ H e = some (.own x)) (k : ∀ b u, b ≠ e → h.get? b = some u → h'.get? b = some u) (heo : ∃ u, h'.get? e = some u) : Un fs ex H (upd H x o) h h' := by
 have hx : ∀ b, H b = none → b ≠ x := fun b n z => by subst z; rw [n] at mu; exact mu
 have hb : ∀ b, H b = none → b ≠ e := fun b n z => by
  subst z
  rcases he with r | r
  ·exact hx b n r
  ·rw [n] at r; cases r
 have hm : ∀ b u, H b = some u → ¬ Mut (some u) → b ≠ x := fun b u q nm z => by subst z; rw [q] at mu; exact nm mu
 refine ⟨fun b u q n _ _ => k b u (hb b n) q, fun b u q n _ _ => ⟨u.slots, k b u (hb b n) q⟩, fun b u q n _ => by rw [zap (hx b n)]; exact n, fun b u q _ => ?_,
  fun b xs q => by rw [zap (hm b _ q fun z => z)]; exact q, fun b u xs q => by rw [zap (hm b _ q fun z => z)]; exact q, fun b ps q => ⟨#[], by rw [zap (hm b _ q fun z => z), q]; simp⟩⟩
 by_cases hbe : b = e
 ·subst hbe; exact heo
 ·exact ⟨u, k b u hbe q⟩
end
def trk (h : Heap) (H : Hp) : List Addr := (List.range h.objs.size).filter fun a => (H a).isSome
def zj3 (h : Heap) (H : Hp) : Heap := PySem.W.hideAll h (trk h H)
theorem zp0 (h : Heap) (H : Hp) : (zj3 h H).objs.size = h.objs.size := PySem.W.hideAll_size _ _
theorem zqt {h : Heap} {H : Hp} {b : Addr} {o : Obj} (e : h.get? b = some o) (n : H b = none) : (zj3 h H).get? b = some o :=
 PySem.W.hideAll_get _ e fun hm => by
  have q : (H b).isSome = true := (List.mem_filter.mp hm).2
  rw [n] at q; simp at q
theorem ztk {h : Heap} {H : Hp} {b : Addr} {o : Obj} (e : (zj3 h H).get? b = some o) : h.get? b = some o ∧ H b = none := by
 have e' : h.get? b = some o := PySem.W.of_hideAll (trk h H) e
 refine ⟨e', ?_⟩
 cases q : H b with
 | none => rfl
 | some x =>
  have hm : b ∈ trk h H := List.mem_filter.mpr ⟨List.mem_range.mpr (Heap.lt_size e'), by simp [q]⟩
  have z : (zj3 h H).get? b = none := PySem.W.hideAll_none (trk h H) hm
  rw [z] at e; cases e
end L2
namespace L2
open PySem PySem.Spec PyProof.Rows
structure Mod (K : PySem.W.Frag) (mg : Str → Option Value) (base : Heap) : Prop where
 kin : K.In base
 glob : base.Ns mainGlobals mg
 blt : ∃ mb, base.Ns builtinsNs mb ∧ ∀ x : Str, x ≠ "__name__" → mb x = bootBuiltins x
 nolimit : base.NoLimit
structure Cx where
 prog : Program
 w : World
 K : PySem.W.Frag
 mg : Str → Option Value
 base : Heap
 A : Around
 N : List Str
 s₀ : Shared
 H₀ : Hp
 env : Env
 outer : List Env
 stack : List Env
 ex : List Addr
 fn : Str → Bool
 calm : Bool
 pn : List (Addr × Obj)
 xe : Value → Shared → Prop
def frs (l : List Env) : List Addr := l.filterMap (·.frame)
abbrev Cx.fs (X : Cx) : List Addr := frs X.outer
def Vis (sc : Scope) (x : Str) : Prop := sc.names.lookup x = some .local ∨ sc.names.lookup x = some .cell ∨ sc.names.lookup x = some .free
def Loc (sc : Scope) (x : Str) : Prop := sc.names.lookup x = some .local ∨ sc.names.lookup x = some .cell
def zwd (env : Env) (h : Heap) (m : Str → Option Value) (x : Str) (u : Value) : Prop :=
 (env.kindOf x = some .local ∧ m x = some u) ∨ ((env.kindOf x = some .cell ∨ env.kindOf x = some .free) ∧ ∃ c, env.cells.lookup x = some c ∧ h.IsCell c (some u))
structure Cx.Ok (X : Cx) : Prop where
 mod : Mod X.K X.mg X.base
 kind : X.env.scope.kind = .function
 glob : X.env.globals = mainGlobals
 blt : X.env.builtins = builtinsNs
 above : X.s₀.heap.objs.size ≤ X.env.locals
 inj : ∀ x y c, X.env.cells.lookup x = some c → X.env.cells.lookup y = some c → x = y
 has : ∀ x, (X.env.kindOf x = some .cell ∨ X.env.kindOf x = some .free) → ∃ c, X.env.cells.lookup x = some c
 cab : ∀ x c, X.fn x = true → X.env.cells.lookup x = some c → X.s₀.heap.objs.size ≤ c
 hd : X.calm = true → X.A.handled = none
 frames : X.A.frames = some X.stack
 stk : X.stack = X.outer ∨ (X.stack = X.env :: X.outer ∧ X.env.frame = some X.env.locals)
 exf : ∀ b ∈ X.ex, b ≠ X.env.locals ∧ ∀ x c, X.env.cells.lookup x = some c → c ≠ b
 bs : ∀ b o, X.base.get? b = some o → X.s₀.heap.get? b = some o ∧ X.H₀ b = none
 bsz : X.base.objs.size ≤ X.s₀.heap.objs.size
 noex : ∀ b o, X.base.get? b = some o → b ∉ X.ex
 exfs : ∀ b ∈ X.ex, b ∉ X.fs
 funs : X.s₀.heap.FunFrames X.base X.outer
 frf : ∀ b ∈ X.fs, X.H₀ b = none
structure Inv (X : Cx) (pins : List (Addr × Obj)) (σ : List (Option V)) (H : Hp) (s : Shared) : Prop where
 ok : X.Ok
 os : s.os = X.s₀.os
 bare : AllBare s.gens
 base : Un X.fs X.ex X.H₀ H X.s₀.heap s.heap
 loc : ∃ m, s.heap.Ns X.env.locals m ∧ ∀ (i : Nat) (x : Str) (v : V), X.N[i]? = some x → σ[i]? = some (some v) → Vis X.env.scope x → ∃ u, RelV v u ∧ zwd X.env s.heap m x u
 cell : ∀ x c, X.env.cells.lookup x = some c → ∃ v, s.heap.IsCell c v
 free : H X.env.locals = none
 freeC : ∀ x c, X.env.cells.lookup x = some c → H c = none
 pin : ∀ p ∈ X.pn ++ pins, s.heap.get? p.1 = some p.2 ∧ H p.1 = none ∧ p.1 ≠ X.env.locals ∧ p.1 ∉ X.fs ∧ ∀ v, p.2.data ≠ .cell v
 hok : HOk X.prog X.w H s.heap
 len : σ.length = X.N.length
section
variable {X : Cx} {pins : List (Addr × Obj)} {σ : List (Option V)} {H H' : Hp} {s : Shared} {h' : Heap}
theorem Cx.Ok.nofr (ok : X.Ok) {b : Addr} {o : Obj} (e : X.base.get? b = some o) : b ∉ X.fs := fun hb => by
 have := (ok.funs.mem hb).1
 rw [e] at this; cases this
theorem Inv.bs (I : Inv X pins σ H s) : ∀ b o, X.base.get? b = some o → s.heap.get? b = some o ∧ H b = none := fun b o e =>
 ⟨I.base.keep b o (I.ok.bs b o e).1 (I.ok.bs b o e).2 (I.ok.nofr e) (I.ok.noex b o e), I.base.free b o (I.ok.bs b o e).1 (I.ok.bs b o e).2 (I.ok.noex b o e)⟩
theorem Inv.bk (I : Inv X pins σ H s) : ∀ b o, X.base.get? b = some o → s.heap.get? b = some o := fun b o e => (I.bs b o e).1
theorem Inv.mod (I : Inv X pins σ H s) : Mod X.K X.mg X.base := I.ok.mod
theorem Inv.kIn (I : Inv X pins σ H s) : X.K.In s.heap := I.ok.mod.kin.keeps I.bk
theorem Inv.lt (I : Inv X pins σ H s) : X.env.locals < s.heap.objs.size := let ⟨_, hn, _⟩ := I.loc; hn.lt
theorem Inv.sz (I : Inv X pins σ H s) : X.s₀.heap.objs.size ≤ s.heap.objs.size := Nat.le_trans I.ok.above (Nat.le_of_lt I.lt)
theorem Inv.nofs (I : Inv X pins σ H s) {a : Addr} (h : s.heap.objs.size ≤ a) : a ∉ X.fs := fun hb => by
 obtain ⟨_, o, ho, _⟩ := I.ok.funs.mem hb
 exact absurd (Nat.lt_of_lt_of_le (Heap.lt_size ho) (Nat.le_trans I.sz h)) (Nat.lt_irrefl _)
theorem Inv.cne (I : Inv X pins σ H s) : ∀ x c, X.env.cells.lookup x = some c → c ≠ X.env.locals := fun x c e z => by
 obtain ⟨v, o, ho, hd⟩ := I.cell x c e
 obtain ⟨m, ⟨o', es, ep, ho', hd', _⟩, _⟩ := I.loc
 rw [z, ho'] at ho; cases ho; rw [hd'] at hd; cases hd
theorem Inv.funs (I : Inv X pins σ H s) : s.heap.FunFrames X.base X.outer := by
 have all : ∀ (l : List Env), (∀ b ∈ frs l, b ∈ X.fs) → X.s₀.heap.FunFrames X.base l → s.heap.FunFrames X.base l := by
  intro l
  induction l with
  | nil => intro _ _; trivial
  | cons env r ih =>
   intro hs hl
   obtain ⟨hk, ⟨L, o, hf, hn, ho, hd⟩, hr⟩ := hl
   have hL : L ∈ X.fs := hs L (by unfold frs; rw [List.filterMap_cons, hf]; exact List.mem_cons_self)
   obtain ⟨sl, e⟩ := I.base.slot L o ho (I.ok.frf L hL) hL fun z => I.ok.exfs L z hL
   exact ⟨hk, ⟨L, _, hf, hn, e, hd⟩, ih (fun b hb => hs b (by unfold frs; rw [List.filterMap_cons, hf]; exact List.mem_cons_of_mem _ hb)) hr⟩
 exact all X.outer (fun _ hb => hb) I.ok.funs
theorem Inv.stack (I : Inv X pins σ H s) : s.heap.FunFrames X.base X.stack := by
 rcases I.ok.stk with e | ⟨e, hf⟩
 ·rw [e]; exact I.funs
 ·rw [e]
  obtain ⟨m, hn, _⟩ := I.loc
  refine .cons (by rw [I.ok.kind]; decide) hf hn ?_ I.funs
  exact Heap.get?_none_of_le (Nat.le_trans I.ok.bsz I.ok.above)
theorem Inv.stkSub (I : Inv X pins σ H s) : ∀ b ∈ frs X.stack, b ∈ X.env.locals :: X.fs := fun b hb => by
 rcases I.ok.stk with e | ⟨e, hf⟩
 ·rw [e] at hb; exact List.mem_cons_of_mem _ hb
 ·rw [e] at hb
  unfold frs at hb
  rw [List.filterMap_cons, hf] at hb
  exact hb
theorem Inv.stkFree (I : Inv X pins σ H s) : ∀ b ∈ frs X.stack, H b = none := fun b hb => by
 rcases List.mem_cons.mp (I.stkSub b hb) with e | hb
 ·rw [e]; exact I.free
 ·obtain ⟨_, o, ho, _⟩ := I.ok.funs.mem hb
  exact I.base.free b o ho (I.ok.frf b hb) fun z => I.ok.exfs b z hb
theorem Inv.step {g' : Array GenState} {t' : Nat} {d' : Drawn} {ch : List Addr} (I : Inv X pins σ H s)
  (hch : ∀ b ∈ ch, (b ∈ X.ex ∨ X.s₀.heap.objs.size ≤ b) ∧ b ≠ X.env.locals ∧ (∀ x c, X.env.cells.lookup x = some c → c ≠ b) ∧ ∀ p ∈ X.pn ++ pins, p.1 ≠ b)
  (keep : ∀ b o, b ≠ X.env.locals → b ∉ X.fs → b ∉ ch → s.heap.get? b = some o → H b = none → h'.get? b = some o)
  (slot : ∀ b o, b ≠ X.env.locals → b ∈ X.fs → b ∉ ch → s.heap.get? b = some o → H b = none → ∃ sl, h'.get? b = some { o with slots := sl }) (free : ∀ b o, b ∉ ch → s.heap.get? b = some o → H b = none → H' b = none)
  (there : ∀ b o, b ∉ ch → s.heap.get? b = some o → ∃ o', h'.get? b = some o')
  (tups : ∀ b xs, H b = some (.tup xs) → H' b = some (.tup xs)) (frzs : ∀ b o u, H b = some (.frz o u) → H' b = some (.frz o u)) (tbls : ∀ b ps, H b = some (.tbl ps) → ∃ more, H' b = some (.tbl (ps ++ more)))
  (ns : ∀ m, s.heap.Ns X.env.locals m → h'.Ns X.env.locals m) (hok : HOk X.prog X.w H' h') (hg : AllBare g') :
  Inv X pins σ H' { s with heap := h', gens := g', drawn := d', toks := t' } := by
 have neL : ∀ b o, X.s₀.heap.get? b = some o → b ≠ X.env.locals := fun b o e => Nat.ne_of_lt (Nat.lt_of_lt_of_le (Heap.lt_size e) I.ok.above)
 have neC : ∀ b o, X.s₀.heap.get? b = some o → b ∉ X.ex → b ∉ ch := fun b o e hx hb => by
  rcases (hch b hb).1 with z | z
  ·exact hx z
  ·exact absurd (Nat.lt_of_lt_of_le (Heap.lt_size e) z) (Nat.lt_irrefl _)
 have cellK : ∀ x c, X.env.cells.lookup x = some c → ∀ v, s.heap.IsCell c v → h'.IsCell c v := fun x c e v ⟨o, ho, hd⟩ => by
  have nch : c ∉ ch := fun z => (hch c z).2.2.1 x c e rfl
  by_cases hc : c ∈ X.fs
  ·obtain ⟨sl, q⟩ := slot c o (I.cne x c e) hc nch ho (I.freeC x c e)
   exact ⟨_, q, hd⟩
  ·exact ⟨o, keep c o (I.cne x c e) hc nch ho (I.freeC x c e), hd⟩
 refine ⟨I.ok, I.os, hg, ⟨fun b o e n hb hx => ?_, fun b o e n hb hx => ?_, fun b o e n hx => ?_, fun b o e hx => ?_, fun b xs e => tups b xs (I.base.tups b xs e), fun b o xs e => frzs b o xs (I.base.frzs b o xs e), fun b ps e => ?_⟩, ?_, fun x c e => ?_, ?_, fun x c e => ?_, fun p hp => ?_, hok, I.len⟩
 ·exact keep b o (neL b o e) hb (neC b o e hx) (I.base.keep b o e n hb hx) (I.base.free b o e n hx)
 ·obtain ⟨sl, e1⟩ := I.base.slot b o e n hb hx
  obtain ⟨sl', e2⟩ := slot b _ (neL b o e) hb (neC b o e hx) e1 (I.base.free b o e n hx)
  exact ⟨sl', e2⟩
 ·obtain ⟨o', e1⟩ := I.base.there b o e hx
  exact free b o' (neC b o e hx) e1 (I.base.free b o e n hx)
 ·obtain ⟨o', e1⟩ := I.base.there b o e hx
  exact there b o' (neC b o e hx) e1
 ·obtain ⟨m1, e1⟩ := I.base.tbls b ps e
  obtain ⟨m2, e2⟩ := tbls b _ e1
  exact ⟨m1 ++ m2, by rw [e2, Array.append_assoc]⟩
 ·obtain ⟨m, hn, hl⟩ := I.loc
  refine ⟨m, ns m hn, fun i x v e1 e2 e3 => ?_⟩
  obtain ⟨u, r, l⟩ := hl i x v e1 e2 e3
  refine ⟨u, r, ?_⟩
  rcases l with l | ⟨k, c, e, z⟩
  ·exact .inl l
  ·exact .inr ⟨k, c, e, cellK x c e _ z⟩
 ·obtain ⟨v, z⟩ := I.cell x c e
  exact ⟨v, cellK x c e v z⟩
 ·obtain ⟨m, ⟨o, _, _, ho, _⟩, _⟩ := I.loc
  exact free _ o (fun z => (hch _ z).2.1 rfl) ho I.free
 ·obtain ⟨v, o, ho, hd⟩ := I.cell x c e
  exact free c o (fun z => (hch c z).2.2.1 x c e rfl) ho (I.freeC x c e)
 ·obtain ⟨e, n, ne, nf, d⟩ := I.pin p hp
  have nch : p.1 ∉ ch := fun z => (hch p.1 z).2.2.2 p hp rfl
  exact ⟨keep p.1 p.2 ne nf nch e n, free p.1 p.2 nch e n, ne, nf, d⟩
theorem Inv.un {t' : Nat} (I : Inv X pins σ H s) (u : Un X.fs [] H H' s.heap h') (hok : HOk X.prog X.w H' h') : Inv X pins σ H' { s with heap := h', toks := t' } := by
 obtain ⟨m, ⟨o, es, ep, ho, r⟩, _⟩ := id I.loc
 obtain ⟨sl, hL⟩ := u.any ho I.free (by simp)
 exact I.step (g' := s.gens) (d' := s.drawn) (ch := []) (fun _ z => nomatch z) (fun b o _ hb _ e n => u.keep b o e n hb (by simp)) (fun b o _ hb _ e n => u.slot b o e n hb (by simp)) (fun b o _ e n => u.free b o e n (by simp)) (fun b o _ e => u.there b o e (by simp)) u.tups u.frzs u.tbls (fun m' hm => by
  obtain ⟨o', es', ep', ho', r'⟩ := hm
  rw [ho] at ho'; cases ho'
  exact ⟨_, es', ep', hL, r'⟩) hok I.bare
theorem Inv.call {g' : Array GenState} {t' : Nat} {d' : Drawn} {ch : List Addr} (I : Inv X pins σ H s) (u : Un (frs X.stack) ch H H' s.heap h') (hok : HOk X.prog X.w H' h') (hg : AllBare g')
  (hch : ∀ b ∈ ch, (b ∈ X.ex ∨ X.s₀.heap.objs.size ≤ b) ∧ b ≠ X.env.locals ∧ (∀ x c, X.env.cells.lookup x = some c → c ≠ b) ∧ ∀ p ∈ X.pn ++ pins, p.1 ≠ b) :
  Inv X pins σ H' { s with heap := h', gens := g', drawn := d', toks := t' } := by
 obtain ⟨m, ⟨o, es, ep, ho, r⟩, _⟩ := id I.loc
 obtain ⟨sl, hL⟩ := u.any ho I.free fun z => (hch _ z).2.1 rfl
 exact I.step (ch := ch) hch (fun b o hL hb hc e n => u.keep b o e n (fun z => (List.mem_cons.mp (I.stkSub b z)).elim hL hb) hc) (fun b o _ _ hc e n => u.any e n hc) (fun b o hc e n => u.free b o e n hc) (fun b o hc e => u.there b o e hc) u.tups u.frzs u.tbls (fun m' hm => by
  obtain ⟨o', es', ep', ho', r'⟩ := hm
  rw [ho] at ho'; cases ho'
  exact ⟨_, es', ep', hL, r'⟩) hok hg
theorem Inv.turned {t' : Nat} {it : Addr} (I : Inv X pins σ H s) (k : ∀ b o, b ≠ it → s.heap.get? b = some o → h'.get? b = some o) (hn : H it = none) (hL : it ≠ X.env.locals)
  (h1 : it ∈ X.ex ∨ X.s₀.heap.objs.size ≤ it) (h2 : ∀ x c, X.env.cells.lookup x = some c → c ≠ it) (h3 : ∀ p ∈ X.pn ++ pins, p.1 ≠ it) : Inv X pins σ H { s with heap := h', toks := t' } := by
 have nit : ∀ b u, H b = some u → b ≠ it := fun b u e z => by rw [z, hn] at e; cases e
 refine I.step (g' := s.gens) (d' := s.drawn) (ch := [it]) (fun b hb => ?_) (fun b o _ _ hc e _ => k b o (fun z => hc (by simp [z])) e) (fun b o _ _ hc e _ => ⟨o.slots, k b o (fun z => hc (by simp [z])) e⟩) (fun _ _ _ _ n => n)
  (fun b o hc e => ⟨o, k b o (fun z => hc (by simp [z])) e⟩) (fun _ _ e => e) (fun _ _ _ e => e) (fun b ps e => ⟨#[], by rw [e]; simp⟩) (fun m hm => ?_) (fun b u e => ?_) I.bare
 ·have e : b = it := by simpa using hb
  subst e
  exact ⟨h1, hL, h2, h3⟩
 ·obtain ⟨o, es, ep, ho, r⟩ := hm
  exact ⟨o, es, ep, k _ o (Ne.symm hL) ho, r⟩
 ·refine (I.hok b u e).stay (fun c v hc q => k c v ?_ q) (fun _ q => q) fun _ _ q => q
  rcases hc with z | z
  ·rw [z]; exact nit b u e
  ·exact nit c _ z
theorem Inv.tok (I : Inv X pins σ H s) (t : Nat) : Inv X pins σ H { s with toks := t } := I.un (h' := s.heap) (t' := t) Un.refl I.hok
theorem Inv.kept {t' : Nat} (I : Inv X pins σ H s) (k : ∀ b u, s.heap.get? b = some u → h'.get? b = some u) : Inv X pins σ H { s with heap := h', toks := t' } := I.un (Un.kept k) (I.hok.kept k)
theorem Inv.laid {a : Addr} {o : HO} {t' : Nat} (I : Inv X pins σ H s) (k : ∀ b u, s.heap.get? b = some u → h'.get? b = some u) (hp : s.heap.objs.size ≤ a) (new : ObjOk X.prog X.w (upd H a o) h' a o) :
  Inv X pins σ (upd H a o) { s with heap := h', toks := t' } := I.un (Un.laid k hp (I.hok.fresh hp)) (I.hok.laid k hp new)
theorem Inv.write {x e : Addr} {o : HO} {t' : Nat} (I : Inv X pins σ H s) (mu : Mut (H x)) (he : e = x ∨ H e = some (.own x)) (k : ∀ b u, b ≠ e → s.heap.get? b = some u → h'.get? b = some u) (heo : ∃ u, h'.get? e = some u)
  (new : ObjOk X.prog X.w (upd H x o) h' x o) : Inv X pins σ (upd H x o) { s with heap := h', toks := t' } := I.un (Un.write mu he k heo) (I.hok.write mu he k heo new)
theorem Inv.pins_of {pins' : List (Addr × Obj)} (I : Inv X pins σ H s) (h : ∀ p ∈ pins', s.heap.get? p.1 = some p.2 ∧ H p.1 = none ∧ p.1 ≠ X.env.locals ∧ p.1 ∉ X.fs ∧ ∀ v, p.2.data ≠ .cell v) : Inv X pins' σ H s :=
 ⟨I.ok, I.os, I.bare, I.base, I.loc, I.cell, I.free, I.freeC, fun p hp => (List.mem_append.mp hp).elim (fun z => I.pin p (List.mem_append_left _ z)) (h p), I.hok, I.len⟩
theorem zmy {N : List Str} (hN : N.Nodup) {i j : Nat} {x : Str} (a : N[i]? = some x) (b : N[j]? = some x) : i = j := by
 obtain ⟨h1, e1⟩ := List.getElem?_eq_some_iff.mp a
 obtain ⟨h2, e2⟩ := List.getElem?_eq_some_iff.mp b
 exact (List.getElem_inj hN).mp (e1.trans e2.symm)
theorem zpv {M : Model} {A : Around} {E : Value → Shared → Prop} {i : Nat} {x : Str} {v : V} {u : Value} {Q : Unit → Shared → Prop} (I : Inv X pins σ H s) (hN : X.N.Nodup) (hi : X.N[i]? = some x) (hx : Loc X.env.scope x) (r : RelV v u)
  (h : ∀ s', Inv X pins (σ.set i (some v)) H s' → (∃ a, Heap.SameBut a s.heap s'.heap ∧ (a = X.env.locals ∨ X.env.cells.lookup x = some a)) → Q () s') (hf : X.fn x = true ∨ X.env.scope.names.lookup x = some .local := by first | exact .inl rfl | exact .inr rfl | assumption) : wpAny M A (storeName X.env x u) Q E s := by
 obtain ⟨m, hn, hl⟩ := id I.loc
 have hcls : (X.env.scope.kind == .class || (X.env.scope.kind == .module && X.env.locals != X.env.globals)) = false := by rw [I.ok.kind]; rfl
 have hiσ : i < σ.length := by rw [I.len]; exact (List.getElem?_eq_some_iff.mp hi).1
 have cne := I.cne
 have tracked : ∀ {a : Addr} {h' : Heap}, (∃ o, s.heap.get? a = some o ∧ H a = none) → Heap.SameBut a s.heap h' → HOk X.prog X.w H h' := fun {a h'} ha hs b ob e => by
  obtain ⟨_, _, hfree⟩ := ha
  refine (I.hok b ob e).stay (fun c w' hc q => (hs.2 c ?_).trans q) (fun _ q => q) fun _ _ q => q
  rintro rfl
  rcases hc with rfl | hc
  ·rw [hfree] at e; cases e
  ·rw [hfree] at hc; cases hc
 rcases hx with hk | hk
 ·refine wpAny_storeName_local hk hn (fun h' hn' hs => ?_) hcls
  obtain ⟨oL, _, _, hoL, _⟩ := id hn
  refine h _ ⟨I.ok, I.os, I.bare, ⟨fun b o e n hb hx => ?_, fun b o e n hb hx => ?_, I.base.free, fun b o e hx => ?_, I.base.tups, I.base.frzs, I.base.tbls⟩, ⟨_, hn', fun j y v' e1 e2 e3 => ?_⟩, fun y c e => ?_, I.free, I.freeC, fun p hp => ?_, tracked ⟨oL, hoL, I.free⟩ hs, by simpa using I.len⟩ ⟨_, hs, .inl rfl⟩
  ·exact (hs.2 b (Nat.ne_of_lt (Nat.lt_of_lt_of_le (Heap.lt_size e) I.ok.above))).trans (I.base.keep b o e n hb hx)
  ·obtain ⟨sl, e1⟩ := I.base.slot b o e n hb hx
   exact ⟨sl, (hs.2 b (Nat.ne_of_lt (Nat.lt_of_lt_of_le (Heap.lt_size e) I.ok.above))).trans e1⟩
  ·obtain ⟨o', e1⟩ := I.base.there b o e hx
   exact ⟨o', (hs.2 b (Nat.ne_of_lt (Nat.lt_of_lt_of_le (Heap.lt_size e) I.ok.above))).trans e1⟩
  ·by_cases hj : j = i
   ·subst hj
    rw [hi] at e1; cases e1
    rw [List.getElem?_set_self hiσ] at e2
    cases e2
    exact ⟨u, r, .inl ⟨hk, by simp⟩⟩
   ·rw [List.getElem?_set_ne (Ne.symm hj)] at e2
    obtain ⟨u', r', q⟩ := hl j y v' e1 e2 e3
    refine ⟨u', r', ?_⟩
    rcases q with ⟨k, e⟩ | ⟨k, c, e, z⟩
    ·refine .inl ⟨k, ?_⟩
     have : y ≠ x := fun e => hj (zmy hN e1 (e ▸ hi))
     simp [this, e]
    ·exact .inr ⟨k, c, e, z.sameBut hs (cne y c e)⟩
  ·obtain ⟨w', z⟩ := I.cell y c e
   exact ⟨w', z.sameBut hs (cne y c e)⟩
  ·obtain ⟨e, n, ne, nf, d⟩ := I.pin p hp
   exact ⟨(hs.2 p.1 ne).trans e, n, ne, nf, d⟩
 ·have hfn : X.fn x = true := by
   rcases hf with z | z
   ·exact z
   ·rw [z] at hk; cases hk
  obtain ⟨c, hc⟩ := I.ok.has x (.inl hk)
  obtain ⟨w', z⟩ := I.cell x c hc
  refine wpAny_storeName_cell I.ok.kind hk hc z (fun h' hc' hs => ?_)
  obtain ⟨oc, hoc, hocd⟩ := id z
  refine h { s with heap := h' } ⟨I.ok, I.os, I.bare, ⟨fun b o e n hb hx => ?_, fun b o e n hb hx => ?_, I.base.free, fun b o e hx => ?_, I.base.tups, I.base.frzs, I.base.tbls⟩, ⟨m, hn.sameBut hs (Ne.symm (cne x c hc)), fun j y v' e1 e2 e3 => ?_⟩, fun y c' e => ?_, I.free, I.freeC, fun p hp => ?_, tracked ⟨oc, hoc, I.freeC x c hc⟩ hs, by simpa using I.len⟩ ⟨c, hs, .inr hc⟩
  ·exact (hs.2 b (Nat.ne_of_lt (Nat.lt_of_lt_of_le (Heap.lt_size e) (I.ok.cab x c hfn hc)))).trans (I.base.keep b o e n hb hx)
  ·obtain ⟨sl, e1⟩ := I.base.slot b o e n hb hx
   exact ⟨sl, (hs.2 b (Nat.ne_of_lt (Nat.lt_of_lt_of_le (Heap.lt_size e) (I.ok.cab x c hfn hc)))).trans e1⟩
  ·obtain ⟨o', e1⟩ := I.base.there b o e hx
   exact ⟨o', (hs.2 b (Nat.ne_of_lt (Nat.lt_of_lt_of_le (Heap.lt_size e) (I.ok.cab x c hfn hc)))).trans e1⟩
  ·by_cases hj : j = i
   ·subst hj
    rw [hi] at e1; cases e1
    rw [List.getElem?_set_self hiσ] at e2
    cases e2
    exact ⟨u, r, .inr ⟨.inl hk, c, hc, hc'⟩⟩
   ·rw [List.getElem?_set_ne (Ne.symm hj)] at e2
    obtain ⟨u', r', q⟩ := hl j y v' e1 e2 e3
    refine ⟨u', r', ?_⟩
    rcases q with q | ⟨k, c', e, z'⟩
    ·exact .inl q
    ·refine .inr ⟨k, c', e, z'.sameBut hs ?_⟩
     rintro rfl
     exact hj (zmy hN e1 (I.ok.inj _ _ _ e hc ▸ hi))
  ·by_cases hcc : c' = c
   ·subst hcc; exact ⟨_, hc'⟩
   ·obtain ⟨w2, z2⟩ := I.cell y c' e
    exact ⟨w2, z2.sameBut hs hcc⟩
  ·obtain ⟨e, n, ne, nf, d⟩ := I.pin p hp
   refine ⟨(hs.2 p.1 ?_).trans e, n, ne, nf, d⟩
   intro q
   rw [q, hoc] at e
   have q' : oc = p.2 := Option.some.inj e
   exact d w' (by rw [← q']; exact hocd)
theorem zl8 {M : Model} {A : Around} {E : Value → Shared → Prop} {i : Nat} {x : Str} {v : V} {u : Value} {Q : Unit → Shared → Prop} (I : Inv X pins σ H s) (hN : X.N.Nodup) (hi : X.N[i]? = some x) (hx : Loc X.env.scope x) (r : RelV v u)
  (h : ∀ s', Inv X pins (σ.set i (some v)) H s' → Q () s') (hf : X.fn x = true ∨ X.env.scope.names.lookup x = some .local := by first | exact .inl rfl | exact .inr rfl | assumption) : wpAny M A (storeName X.env x u) Q E s :=
 zpv I hN hi hx r (fun s' I' _ => h s' I') hf
theorem Inv.call' {s' : Shared} {ch : List Addr} (I : Inv X pins σ H s) (ho : s'.os = s.os) (u : Un (frs X.stack) ch H H' s.heap s'.heap) (hok : HOk X.prog X.w H' s'.heap) (hg : AllBare s'.gens)
  (hch : ∀ b ∈ ch, (b ∈ X.ex ∨ X.s₀.heap.objs.size ≤ b) ∧ b ≠ X.env.locals ∧ (∀ x c, X.env.cells.lookup x = some c → c ≠ b) ∧ ∀ p ∈ X.pn ++ pins, p.1 ≠ b) : Inv X pins σ H' s' := by
 obtain ⟨h', g', d', t', o'⟩ := s'
 have e : o' = s.os := ho
 subst e
 exact I.call (g' := g') (t' := t') (d' := d') u hok hg hch
end
abbrev XK := Value → Option Addr → Hp → Prop
abbrev St := List (Option V)
abbrev VK := V → Hp → Prop
abbrev TE := St → Hp → VK → Prop
abbrev TT := St → Hp → (Bool → Hp → Prop) → Prop
abbrev TA := St → Hp → (List V → Hp → Prop) → Prop
structure zj7 where
 nx : St → Hp → Prop
 rt : VK
 bk : St → Hp → Prop := fun _ _ => False
 ct : St → Hp → Prop := fun _ _ => False
abbrev TS := zj7 → St → Hp → Prop
def EP (X : Cx) (pins : List (Addr × Obj)) (σ : St) (Q : VK) (u : Value) (s' : Shared) : Prop := ∃ v H', Inv X pins σ H' s' ∧ RelV v u ∧ Q v H'
def TP (X : Cx) (pins : List (Addr × Obj)) (σ : St) (Q : Bool → Hp → Prop) (b : Bool) (s' : Shared) : Prop := ∃ H', Inv X pins σ H' s' ∧ Q b H'
def AP (X : Cx) (pins : List (Addr × Obj)) (σ : St) (Q : List V → Hp → Prop) (us : List Value) (s' : Shared) : Prop := ∃ vs H', Inv X pins σ H' s' ∧ Vals vs us ∧ Q vs H'
def SP (X : Cx) (pins : List (Addr × Obj)) (D : zj7) (f : Flow) (s' : Shared) : Prop :=
 match f with
 | .next => ∃ σ' H', Inv X pins σ' H' s' ∧ D.nx σ' H'
 | .brk => ∃ σ' H', Inv X pins σ' H' s' ∧ D.bk σ' H'
 | .cont => ∃ σ' H', Inv X pins σ' H' s' ∧ D.ct σ' H'
 | .ret u => ∃ v σ' H', Inv X pins σ' H' s' ∧ RelV v u ∧ D.rt v H'
def PE (X : Cx) (e : Expr) (t : TE) : Prop :=
 ∀ (pins : List (Addr × Obj)) (s : Shared) (σ : St) (H : Hp) (Q : VK), Inv X pins σ H s → t σ H Q → wpAny (model X.prog X.w) X.A (eval e X.env) (EP X pins σ Q) X.xe s
def PT (X : Cx) (e : Expr) (t : TT) : Prop :=
 ∀ (pins : List (Addr × Obj)) (s : Shared) (σ : St) (H : Hp) (Q : Bool → Hp → Prop), Inv X pins σ H s → t σ H Q → wpAny (model X.prog X.w) X.A (isTrue e X.env (eval e X.env)) (TP X pins σ Q) X.xe s
def PW (X : Cx) (e : Expr) (t : TT) : Prop :=
 ∀ (whole : Sem Value) (pins : List (Addr × Obj)) (s : Shared) (σ : St) (H : Hp) (Q : Bool → Hp → Prop), Inv X pins σ H s → t σ H Q → wpAny (model X.prog X.w) X.A (isTrue e X.env whole) (TP X pins σ Q) X.xe s
theorem PW.pt {X : Cx} {e : Expr} {t : TT} (h : PW X e t) : PT X e t := h _
def PA (X : Cx) (es : List Expr) (t : TA) : Prop :=
 ∀ (pos : Pos) (pins : List (Addr × Obj)) (s : Shared) (σ : St) (H : Hp) (Q : List V → Hp → Prop), Inv X pins σ H s → t σ H Q → wpAny (model X.prog X.w) X.A (spliced (backTo pos (starEach es X.env))) (AP X pins σ Q) X.xe s
def PS (X : Cx) (st : Stmt) (t : TS) : Prop :=
 ∀ (pins : List (Addr × Obj)) (s : Shared) (σ : St) (H : Hp) (D : zj7), Inv X pins σ H s → t D σ H → wpAny (model X.prog X.w) X.A (exec st X.env) (SP X pins D) X.xe s
def PSs (X : Cx) (st : List Stmt) (t : TS) : Prop :=
 ∀ (pins : List (Addr × Obj)) (s : Shared) (σ : St) (H : Hp) (D : zj7), Inv X pins σ H s → t D σ H → wpAny (model X.prog X.w) X.A (execs st X.env) (SP X pins D) X.xe s
theorem thn {α : Type} {t : Sem α} {Q Q' : α → Shared → Prop} {M : Model} {A : Around} {E : Value → Shared → Prop} {s : Shared} (h : wpAny M A t Q E s) (hQ : ∀ a s, Q a s → Q' a s) : wpAny M A t Q' E s := wpAny_mono h hQ fun _ _ x => x
end L2
namespace L2
open PySem PySem.Spec PyProof.Rows
section
variable {X : Cx}
def zo4 (i : Nat) : TE := fun σ H Q => ∃ v, σ[i]? = some (some v) ∧ Q v H
def tC (v : V) : TE := fun _ H Q => Q v H
theorem zrl {i : Nat} {x : Str} {pos : Pos} (hN : X.N[i]? = some x) (hv : Vis X.env.scope x) (hd : (x == ("__debug__" : Str)) = false := by decide) (hcd : (x == ("__classdict__" : Str)) = false := by decide) : PE X (.Name x pos) (zo4 i) := by
 intro pins s σ H Q I h
 obtain ⟨v, e, h⟩ := h
 obtain ⟨m, hn, hl⟩ := I.loc
 obtain ⟨u, r, l⟩ := hl i x v hN e hv
 have fin : EP X pins σ Q u s := ⟨v, H, I, r, h⟩
 rcases l with ⟨hk, hm⟩ | ⟨hk, c, hc, hcell⟩
 ·exact wpAny_Name (wpAny_loadName_local I.ok.kind hk hn hm fin) hd
 ·rcases hk with hk | hk
  ·exact wpAny_Name (wpAny_loadName_cell I.ok.kind hk hc hcell fin) hd
  ·exact wpAny_Name (wpAny_loadName_free I.ok.kind hk hc hcell fin hcd) hd
theorem zac {i j pos} : PE X (.Constant (.int i) j pos) (tC (.int i)) := fun _ _ _ H _ I h => wpAny_Constant_int ⟨.int i, H, I.tok _, ⟨_, rfl⟩, h⟩
theorem ze8 {b j pos} : PE X (.Constant (.bool b) j pos) (tC (.bl b)) := fun _ _ _ H _ I h => Constant_bool ⟨.bl b, H, I, rfl, h⟩
theorem zga {j pos} : PE X (.Constant .none j pos) (tC .non) := fun _ _ _ H _ I h => Constant_none ⟨.non, H, I, rfl, h⟩
theorem zay {x j pos} : PE X (.Constant (.str x) j pos) (tC (.str x)) := fun _ _ _ H _ I h => Calls.Constant_str ⟨.str x, H, I.tok _, ⟨_, rfl⟩, h⟩
def Gl (X : Cx) (x : Str) : Prop := X.env.kindOf x = some .globalImplicit
theorem zok {E : Value → Shared → Prop} {pins : List (Addr × Obj)} {s : Shared} {σ : St} {H : Hp} {x : Str} {u : Value} {pos : Pos} {Q : Value → Shared → Prop} (I : Inv X pins σ H s) (hg : Gl X x) (hm : X.mg x = some u) (h : Q u s)
  (hd : (x == ("__debug__" : Str)) = false := by decide) : wpAny (model X.prog X.w) X.A (eval (.Name x pos) X.env) Q E s :=
 Calls.Name_function_global I.ok.kind hg (Calls.loadGlobal_global (by rw [I.ok.glob]; exact I.mod.glob.keeps I.bk) hm h) hd
theorem ze2 {E : Value → Shared → Prop} {pins : List (Addr × Obj)} {s : Shared} {σ : St} {H : Hp} {x : Str} {u : Value} {pos : Pos} {Q : Value → Shared → Prop} (I : Inv X pins σ H s) (hg : Gl X x) (hm : X.mg x = none) (hv : bootBuiltins x = some u) (h : Q u s)
  (hn : x ≠ "__name__" := by decide) (hd : (x == ("__debug__" : Str)) = false := by decide) : wpAny (model X.prog X.w) X.A (eval (.Name x pos) X.env) Q E s := by
 obtain ⟨mb, h1, h2⟩ := I.mod.blt
 exact Calls.Name_function_global I.ok.kind hg (Calls.loadGlobal_builtin (by rw [I.ok.glob]; exact I.mod.glob.keeps I.bk) hm (by rw [I.ok.blt]; exact h1.keeps I.bk) ((h2 x hn).trans hv) h) hd
theorem zs7 {x : Str} {v : V} {u : Value} {pos : Pos} (hg : Gl X x) (hm : X.mg x = none) (hv : bootBuiltins x = some u) (r : RelV v u) (hn : x ≠ "__name__" := by decide) (hd : (x == ("__debug__" : Str)) = false := by decide) : PE X (.Name x pos) (tC v) :=
 fun _ _ _ H _ I h => ze2 I hg hm hv ⟨v, H, I, r, h⟩ hn hd
variable {a b : Expr} {ta tb : TE} {pos : Pos}
def tB (t : TE) : TT := fun σ H Q => t σ H fun x H1 => ∃ c, x = .bl c ∧ Q c H1
theorem zbu {e : Expr} {t : TE} (h : PE X e t) (he : ∀ whole, isTrue e X.env whole = (do let v ← whole; standAt e.pos; holding [v] (truthy v)) := by intro _; rfl) : PT X e (tB t) := by
 intro pins s σ H Q I hw
 refine isTrue_plain (thn (h pins s σ H _ I hw) fun v s1 ⟨x, H1, I1, r1, q1⟩ => ?_) (he _)
 obtain ⟨d, rfl, q⟩ := q1
 cases r1
 exact wpAny_truthy_bool ⟨H1, I1, q⟩
variable {tA tB' : TT} {rest : List Expr}
def zwc (t u : TT) : TT := fun σ H Q => t σ H fun c H1 => if c = true then u σ H1 Q else Q false H1
def tOr (t u : TT) : TT := fun σ H Q => t σ H fun c H1 => if c = true then Q true H1 else u σ H1 Q
def zwo (t : TT) : TT := fun σ H Q => t σ H fun c H1 => Q (!c) H1
theorem zeu (ha : PT X a tA) : PW X (.BoolOp .And [a] pos) tA := by
 intro wh pins s σ H Q I h
 refine isTrue_and (thn (ha pins s σ H Q I h) fun c s1 e => ?_)
 cases c with
 | true => exact isTrue_and_nil e
 | false => exact e
theorem zhg (ha : PT X a tA) : PW X (.BoolOp .Or [a] pos) tA := by
 intro wh pins s σ H Q I h
 refine isTrue_or (thn (ha pins s σ H Q I h) fun c s1 e => ?_)
 cases c with
 | false => exact isTrue_or_nil e
 | true => exact e
theorem zgb (ha : PT X a tA) (hb : PW X (.BoolOp .And (b :: rest) pos) tB') : PW X (.BoolOp .And (a :: b :: rest) pos) (zwc tA tB') := by
 intro wh pins s σ H Q I h
 refine isTrue_and (thn (ha pins s σ H _ I h) fun c s1 ⟨H1, I1, q1⟩ => ?_)
 cases c with
 | true => exact hb wh pins s1 σ H1 Q I1 q1
 | false => exact ⟨H1, I1, q1⟩
theorem zhx (ha : PT X a tA) (hb : PW X (.BoolOp .Or (b :: rest) pos) tB') : PW X (.BoolOp .Or (a :: b :: rest) pos) (tOr tA tB') := by
 intro wh pins s σ H Q I h
 refine isTrue_or (thn (ha pins s σ H _ I h) fun c s1 ⟨H1, I1, q1⟩ => ?_)
 cases c with
 | true => exact ⟨H1, I1, q1⟩
 | false => exact hb wh pins s1 σ H1 Q I1 q1
theorem ze0 (ha : PT X a tA) : PT X (.UnaryOp .Not a pos) (zwo tA) := by
 intro pins s σ H Q I h
 exact isTrue_not (ha pins s σ H (fun c H1 => Q (!c) H1) I h)
def zv4 (ta tb : TE) : TE := fun σ H Q => ta σ H fun x H1 => ∃ c, x = .bl c ∧ if c = true then tb σ H1 Q else Q (.bl false) H1
def zwj (ta tb : TE) : TE := fun σ H Q => ta σ H fun x H1 => ∃ c, x = .bl c ∧ if c = true then Q (.bl true) H1 else tb σ H1 Q
def zv1 (ta : TE) : TE := fun σ H Q => ta σ H fun x H1 => ∃ c, x = .bl c ∧ Q (.bl (!c)) H1
theorem zco {op} {t : TE} (h : PE X a t) : PE X (.BoolOp op [a] pos) t := fun pins s σ H Q I hw => BoolOp_one (h pins s σ H Q I hw)
theorem zcl (ha : PE X a ta) (hb : PE X (.BoolOp .And (b :: rest) pos) tb) : PE X (.BoolOp .And (a :: b :: rest) pos) (zv4 ta tb) := by
 intro pins s σ H Q I h
 refine BoolOp_and (thn (ha pins s σ H _ I h) fun v s1 ⟨x, H1, I1, r1, q1⟩ => ?_)
 obtain ⟨c, rfl, q1⟩ := q1
 cases r1
 refine wpAny_truthy_bool ?_
 cases c with
 | true => exact hb pins s1 σ H1 Q I1 q1
 | false => exact ⟨.bl false, H1, I1, rfl, q1⟩
theorem ztu (ha : PE X a ta) (hb : PE X (.BoolOp .Or (b :: rest) pos) tb) : PE X (.BoolOp .Or (a :: b :: rest) pos) (zwj ta tb) := by
 intro pins s σ H Q I h
 refine BoolOp_or (thn (ha pins s σ H _ I h) fun v s1 ⟨x, H1, I1, r1, q1⟩ => ?_)
 obtain ⟨c, rfl, q1⟩ := q1
 cases r1
 refine wpAny_truthy_bool ?_
 cases c with
 | false => exact hb pins s1 σ H1 Q I1 q1
 | true => exact ⟨.bl true, H1, I1, rfl, q1⟩
theorem zgg (ha : PE X a ta) : PE X (.UnaryOp .Not a pos) (zv1 ta) := by
 intro pins s σ H Q I h
 refine UnaryOp_ (thn (ha pins s σ H _ I h) fun v s1 ⟨x, H1, I1, r1, q1⟩ => ?_)
 obtain ⟨c, rfl, q1⟩ := q1
 cases r1
 exact not_of (wpAny_truthy_bool ⟨.bl (!c), H1, I1, rfl, q1⟩)
end
end L2
namespace L2
open PySem PySem.Spec PyProof.Rows
def SqL (K : PySem.W.Frag) (H : Hp) (a : Addr) (xs : List V) : Prop :=
 Rd H a (.lst xs) ∨
  ∃ (o : Obj) (its : Array Value) (n : Nat), K.lookup a = some o ∧ o.cls = .type "list" ∧ o.dict = none ∧ o.data = .seq its n ∧ its.size ≤ sizeLine ∧ Vals xs its.toList
def SqT (K : PySem.W.Frag) (H : Hp) (a : Addr) (xs : List V) : Prop :=
 Rd H a (.tup xs) ∨
  ∃ (o : Obj) (its : Array Value) (n : Nat), K.lookup a = some o ∧ o.cls = .type "tuple" ∧ o.data = .seq its n ∧ its.size ≤ sizeLine ∧ Vals xs its.toList
def zwg : Value → Option V
 | .none => some .non
 | .bool b => some (.bl b)
 | .int i _ => some (.int i)
 | .str x _ => some (.str x)
 | .bytes b _ => some (.byt b)
 | .float b _ => some (.flt b)
 | .ref a => some (.ref a)
 | .type n => some (.ty n)
 | _ => none
theorem RelV.abs {x : V} {u : Value} (r : RelV x u) : zwg u = some x := by
 cases x with
 | non => cases r; rfl
 | bl _ => cases r; rfl
 | int _ => obtain ⟨t, rfl⟩ := r; rfl
 | str _ => obtain ⟨t, rfl⟩ := r; rfl
 | byt _ => obtain ⟨t, rfl⟩ := r; rfl
 | flt _ => obtain ⟨t, rfl⟩ := r; rfl
 | ref _ => cases r; rfl
 | ty _ => cases r; rfl
theorem RelV.inj {x y : V} {u : Value} (r : RelV x u) (q : RelV y u) : x = y := Option.some.inj (r.abs.symm.trans q.abs)
theorem Vals.inj : ∀ {xs ys : List V} {us : List Value}, Vals xs us → Vals ys us → xs = ys
 | _, _, _, .nil, .nil => rfl
 | _, _, _, .cons r t, .cons r' t' => by rw [r.inj r', Vals.inj t t']
section
variable {X : Cx} {pins : List (Addr × Obj)} {σ : St} {H : Hp} {s : Shared} {a : Addr} {xs ys : List V}
theorem SqL.of {K : PySem.W.Frag} (h : H a = some (.lst xs)) : SqL K H a xs := .inl (.inl h)
theorem Inv.list (I : Inv X pins σ H s) (h : SqL X.K H a xs) : ∃ its : List Value, Vals xs its ∧ PlainL s.heap a its.toArray ∧ xs.length ≤ sizeLine := by
 rcases h with h | ⟨o, its, n, hk, hc, hd, hs, hz, r⟩
 ·obtain ⟨z, its, n, r, e⟩ := h.ok I.hok
  exact ⟨its, r, ⟨_, n, e, rfl, rfl, rfl⟩, z⟩
 ·refine ⟨its.toList, r, ⟨o, n, I.kIn a o hk, hc, hd, by simpa using hs⟩, ?_⟩
  have e := r.length
  simp only [Array.length_toList] at e
  omega
theorem Inv.tuple (I : Inv X pins σ H s) (h : SqT X.K H a xs) : ∃ its : List Value, Vals xs its ∧ IsTup s.heap a its.toArray ∧ xs.length ≤ sizeLine := by
 rcases h with h | ⟨o, its, n, hk, hc, hs, hz, r⟩
 ·obtain ⟨z, its, r, p⟩ := h.ok I.hok
  exact ⟨its, r, p, z⟩
 ·refine ⟨its.toList, r, ⟨o, I.kIn a o hk, hc, n, by simpa using hs⟩, ?_⟩
  have e := r.length
  simp only [Array.length_toList] at e
  omega
theorem Inv.list_inj (I : Inv X pins σ H s) (h : SqL X.K H a xs) (h' : SqL X.K H a ys) : xs = ys := by
 obtain ⟨its, r, ⟨o, n, e, _, _, d⟩, _⟩ := I.list h
 obtain ⟨its', r', ⟨o', n', e', _, _, d'⟩, _⟩ := I.list h'
 rw [e] at e'; cases e'
 rw [d] at d'
 injection d' with d1 _
 have : its = its' := by simpa using congrArg Array.toList d1
 subst this
 exact r.inj r'
theorem Inv.tuple_inj (I : Inv X pins σ H s) (h : SqT X.K H a xs) (h' : SqT X.K H a ys) : xs = ys := by
 obtain ⟨its, r, ⟨o, e, _, n, d⟩, _⟩ := I.tuple h
 obtain ⟨its', r', ⟨o', e', _, n', d'⟩, _⟩ := I.tuple h'
 rw [e] at e'; cases e'
 rw [d] at d'
 injection d' with d1 _
 have : its = its' := by simpa using congrArg Array.toList d1
 subst this
 exact r.inj r'
end
abbrev Cx.wish (X : Cx) (E : Value → Shared → Prop) : Cx := { X with xe := E }
abbrev Cx.nox (X : Cx) : Cx := X.wish fun _ _ => False
theorem Cx.Ok.wish {X : Cx} (ok : X.Ok) (E : Value → Shared → Prop) : (X.wish E).Ok :=
 ⟨ok.mod, ok.kind, ok.glob, ok.blt, ok.above, ok.inj, ok.has, ok.cab, ok.hd, ok.frames, ok.stk, ok.exf, ok.bs, ok.bsz, ok.noex, ok.exfs, ok.funs, ok.frf⟩
theorem Cx.Ok.unwish {X : Cx} {E : Value → Shared → Prop} (ok : (X.wish E).Ok) : X.Ok :=
 ⟨ok.mod, ok.kind, ok.glob, ok.blt, ok.above, ok.inj, ok.has, ok.cab, ok.hd, ok.frames, ok.stk, ok.exf, ok.bs, ok.bsz, ok.noex, ok.exfs, ok.funs, ok.frf⟩
section
variable {X : Cx} {pins : List (Addr × Obj)} {σ : St} {H : Hp} {s : Shared} {E : Value → Shared → Prop}
theorem Inv.wish (I : Inv X pins σ H s) (E : Value → Shared → Prop) : Inv (X.wish E) pins σ H s := ⟨I.ok.wish E, I.os, I.bare, I.base, I.loc, I.cell, I.free, I.freeC, I.pin, I.hok, I.len⟩
theorem Inv.unwish (I : Inv (X.wish E) pins σ H s) : Inv X pins σ H s := ⟨I.ok.unwish, I.os, I.bare, I.base, I.loc, I.cell, I.free, I.freeC, I.pin, I.hok, I.len⟩
theorem SP.unwish {D : zj7} {f : Flow} {s' : Shared} (h : SP (X.wish E) pins D f s') : SP X pins D f s' := by
 cases f with
 | next => obtain ⟨σ', H', I, q⟩ := h; exact ⟨σ', H', I.unwish, q⟩
 | brk => obtain ⟨σ', H', I, q⟩ := h; exact ⟨σ', H', I.unwish, q⟩
 | cont => obtain ⟨σ', H', I, q⟩ := h; exact ⟨σ', H', I.unwish, q⟩
 | ret u => obtain ⟨v, σ', H', I, r, q⟩ := h; exact ⟨v, σ', H', I.unwish, r, q⟩
theorem PSs.nox {st : List Stmt} {t : TS} (h : PSs X.nox st t) : PSs X st t := fun pins s σ H D I hw =>
 wpAny_mono (h pins s σ H D (I.wish _) hw) (fun _ _ q => q.unwish) fun _ _ z => False.elim z
end
section
variable {X : Cx} {st : Stmt} {rest : List Stmt} {t u : TS} {e : Expr} {te : TE} {pos : Pos}
def zvp : TS := fun D σ H => D.nx σ H
def zwq (t u : TS) : TS := fun D σ H => t { D with nx := u D } σ H
theorem zaq : PSs X [] zvp := fun _ _ σ H _ I h => wpAny_execs_nil ⟨σ, H, I, h⟩
theorem zaf (h1 : PS X st t) (h2 : PSs X rest u) : PSs X (st :: rest) (zwq t u) := by
 intro pins s σ H D I h
 refine wpAny_execs_cons (thn (h1 pins s σ H { D with nx := u D } I h) fun f s1 q => ?_)
 cases f with
 | next =>
  obtain ⟨σ', H', I', q⟩ := q
  exact h2 pins s1 σ' H' D I' q
 | ret v => exact q
 | brk => exact q
 | cont => exact q
theorem zah (h1 : PS X st t) : PSs X [st] t := by
 intro pins s σ H D I h
 refine wpAny_execs_cons (thn (h1 pins s σ H D I h) fun f s1 q => ?_)
 cases f with
 | next => exact wpAny_execs_nil q
 | ret v => exact q
 | brk => exact q
 | cont => exact q
theorem Inv.quiet {pins : List (Addr × Obj)} {σ : St} {H : Hp} {s : Shared} (I : Inv X pins σ H s) : interactive X.env = false := by simp [interactive, I.ok.kind]
def zv0 (te : TE) : TS := fun D σ H => te σ H fun _ H1 => D.nx σ H1
theorem zfz (he : PE X e te) (hs : swapsWith e none pos.line X.env = pure false := by rfl) : PS X (.Expr e pos) (zv0 te) := by
 intro pins s σ H D I h
 exact wpAny_Expr_any (thn (he pins s σ H _ I h) fun v s1 ⟨x, H1, I1, r1, q1⟩ => ⟨σ, H1, I1, q1⟩) I.quiet hs
def zv8 (te : TE) : TS := fun D σ H => te σ H D.rt
theorem zaj (he : PE X e te) : PS X (.Return (some e) pos) (zv8 te) := by
 intro pins s σ H D I h
 exact wpAny_Return_some (thn (he pins s σ H _ I h) fun v s1 ⟨x, H1, I1, r1, q1⟩ => ⟨x, σ, H1, I1, r1, q1⟩)
def zwl (c : TT) (t u : TS) : TS := fun D σ H => c σ H fun b H1 => if b = true then t D σ H1 else u D σ H1
theorem zaz {c : Expr} {a b : List Stmt} {tc : TT} (hc : PT X c tc) (ha : PSs X a t) (hb : PSs X b u) : PS X (.If c a b pos) (zwl tc t u) := by
 intro pins s σ H D I h
 refine wpAny_If (thn (hc pins s σ H _ I h) fun d s1 ⟨H1, I1, q1⟩ => ?_)
 cases d with
 | true => exact ha pins s1 σ H1 D I1 q1
 | false => exact hb pins s1 σ H1 D I1 q1
def zqx : TS := fun _ _ _ => False
theorem zfw {sts : List Stmt} : PSs X sts zqx := fun _ _ _ _ _ _ h => h.elim
end
abbrev TG := V → St → Hp → (St → Hp → Prop) → Prop
abbrev TGs := List V → St → Hp → (St → Hp → Prop) → Prop
def PG (X : Cx) (target : Expr) (t : TG) : Prop :=
 ∀ (pins : List (Addr × Obj)) (s : Shared) (σ : St) (H : Hp) (v : V) (u : Value) (Q : St → Hp → Prop), Inv X pins σ H s → RelV v u → t v σ H Q →
  wpAny (model X.prog X.w) X.A (assign target X.env u) (fun _ s' => ∃ σ' H', Inv X pins σ' H' s' ∧ Q σ' H') X.xe s
def PGs (X : Cx) (ts : List Expr) (t : TGs) : Prop :=
 ∀ (pins : List (Addr × Obj)) (s : Shared) (σ : St) (H : Hp) (vs : List V) (us : List Value) (Q : St → Hp → Prop), Inv X pins σ H s → Vals vs us → t vs σ H Q →
  wpAny (model X.prog X.w) X.A (assignInOrder ((assignEach ts X.env).map (·.2)) us) (fun _ s' => ∃ σ' H', Inv X pins σ' H' s' ∧ Q σ' H') X.xe s
abbrev zue := V → V → V → Hp → (Hp → Prop) → Prop
def zvu (X : Cx) (t : zue) : Prop :=
 ∀ (pins : List (Addr × Obj)) (s : Shared) (σ : St) (H : Hp) (o i v : V) (ov iv u : Value) (Q : Hp → Prop), Inv X pins σ H s → RelV o ov → RelV i iv → RelV v u → t o i v H Q →
  wpAny (model X.prog X.w) X.A (setItem ov iv u) (fun _ s' => ∃ H', Inv X pins σ H' s' ∧ Q H') X.xe s
section
variable {X : Cx} {pos : Pos}
def zjs (i : Nat) : TG := fun v σ H Q => Q (σ.set i (some v)) H
theorem za0 {i : Nat} {x : Str} (hN : X.N.Nodup) (hi : X.N[i]? = some x) (hx : Loc X.env.scope x) (hf : X.fn x = true ∨ X.env.scope.names.lookup x = some .local := by first | exact .inl rfl | exact .inr rfl | assumption) : PG X (.Name x pos) (zjs i) := by
 intro pins s σ H v u Q I r h
 exact wpAny_assign_Name (zl8 I hN hi hx r (fun s' I' => ⟨_, H, I', h⟩) hf)
def zwa : TGs := fun vs σ H Q => vs = [] ∧ Q σ H
def zvj (t : TG) (u : TGs) : TGs := fun vs σ H Q => ∃ v r, vs = v :: r ∧ t v σ H fun σ' H' => u r σ' H' Q
theorem zgw : PGs X [] zwa := by
 intro pins s σ H vs us Q I r h
 obtain ⟨e, h⟩ := h
 subst e
 cases r
 exact assignInOrder_nil ⟨σ, H, I, h⟩
theorem zb1 {e : Expr} {es : List Expr} {t : TG} {u : TGs} (h1 : PG X e t) (h2 : PGs X es u)
  (hs : (assignEach (e :: es) X.env).map (·.2) = assign e X.env :: (assignEach es X.env).map (·.2) := by rfl) : PGs X (e :: es) (zvj t u) := by
 intro pins s σ H vs us Q I r h
 obtain ⟨v, vr, e1, h⟩ := h
 subst e1
 cases r with
 | cons r rr =>
  rw [hs]
  refine assignInOrder_cons (thn (h1 pins s σ H _ _ _ I r h) fun _ s1 ⟨σ1, H1, I1, q1⟩ => ?_)
  exact h2 pins s1 σ1 H1 _ _ Q I1 rr q1
def zvm (K : PySem.W.Frag) (n : Nat) (t : TGs) : TG := fun v σ H Q => ∃ a xs, v = .ref a ∧ SqT K H a xs ∧ xs.length = n ∧ t xs σ H Q
theorem zu3 {es : List Expr} {k : Nat} {t : TGs} {n : Nat} (hc : X.calm = true) (h : PGs X es t)
  (hn : (assignEach es X.env).length = n := by rfl) (hst : (assignEach es X.env).findIdx? (·.1) = none := by rfl) : PG X (.Tuple es k pos) (zvm X.K n t) := by
 intro pins s σ H v u Q I r hw
 obtain ⟨a, xs, e1, hq, hl, hw⟩ := hw
 subst e1
 cases r
 obtain ⟨its, rv, ht, hz⟩ := I.tuple hq
 refine assign_Tuple_tuple (I.ok.hd hc) ht (by simp [hn, ← hl, rv.length]) hst fun h' hx => ?_
 have I1 : Inv X pins σ H { s with heap := h' } := I.kept (t' := s.toks) fun b o e => hx b o (Nat.ne_of_lt (Heap.lt_size e)) e
 exact h pins _ σ H xs _ Q I1 (by simpa using rv) hw
def zwe (to ti : TE) (t : zue) : TG := fun v σ H Q => to σ H fun o H1 => ti σ H1 fun i H2 => t o i v H2 fun H3 => Q σ H3
theorem zu6 {o i : Expr} {to ti : TE} {t : zue} (ho : PE X o to) (hi : PE X i ti) (hs : zvu X t)
  (ha : ∀ v, assign (.Subscript o i pos) X.env v = (do
   let ov ← holding [v] (eval o X.env)
   let iv ← holding [v, ov] (eval i X.env)
   standAt pos
   holding [v, ov, iv] (setItem ov iv v)
   release [v, ov, iv] []) := by intro _; rfl) : PG X (.Subscript o i pos) (zwe to ti t) := by
 intro pins s σ H v u Q I r h
 rw [ha]
 refine wpAny_bind (wpAny_holding (thn (ho pins s σ H _ I h) fun ov s1 ⟨x, H1, I1, r1, q1⟩ => ?_))
 refine wpAny_bind (wpAny_holding (thn (hi pins s1 σ H1 _ I1 q1) fun iv s2 ⟨y, H2, I2, r2, q2⟩ => ?_))
 refine wpAny_bind (wpAny_standAt (wpAny_bind (wpAny_holding (thn (hs pins s2 σ H2 x y v ov iv u _ I2 r1 r2 r q2) fun _ s3 ⟨H3, I3, q3⟩ => ?_))))
 exact wpAny_release ⟨σ, H3, I3, q3⟩
def zuv (te : TE) (g : TG) : TS := fun D σ H => te σ H fun x H1 => g x σ H1 D.nx
theorem zn4 {tg e : Expr} {te : TE} {g : TG} (he : PE X e te) (hg : PG X tg g) (hs : swapsWithSole [tg] e pos.line X.env = pure false := by rfl) (hw : swappedStores [tg] e X.env = pure none := by rfl)
  (h1 : (assignEach [tg] X.env).map (·.2) = [assign tg X.env] := by rfl) : PS X (.Assign [tg] e pos) (zuv te g) := by
 intro pins s σ H D I h
 refine wpAny_Assign_stores (thn (he pins s σ H _ I h) fun v s1 ⟨x, H1, I1, r1, q1⟩ => ?_) hs hw
 rw [h1]
 exact thn (hg pins s1 σ H1 x v _ I1 r1 q1) fun _ s2 q => q
theorem zat {i : Nat} {x : Str} {e : Expr} {te : TE} {pos' : Pos} (hN : X.N.Nodup) (hi : X.N[i]? = some x) (hx : Loc X.env.scope x) (he : PE X e te) (hs : swapsWith e (some (.Name x pos')) pos.line X.env = pure false := by rfl) (hf : X.fn x = true ∨ X.env.scope.names.lookup x = some .local := by first | exact .inl rfl | exact .inr rfl | assumption) :
  PS X (.Assign [.Name x pos'] e pos) (zuv te (zjs i)) := by
 intro pins s σ H D I h
 refine wpAny_Assign_Name (thn (he pins s σ H _ I h) fun v s1 ⟨y, H1, I1, r1, q1⟩ => ?_) hs
 exact zl8 I1 hN hi hx r1 (fun s2 I2 => ⟨_, H1, I2, q1⟩) hf
end
section
variable {X : Cx} {pos : Pos}
def zvd (c : TT) (tb : TS) : TS := fun D σ H => ∃ W : Nat → St → Hp → Prop, (∃ m, W m σ H) ∧ ∀ m σ H, W m σ H →
 c σ H fun b H1 => if b = true then ∃ N : St → Hp → Prop, (∀ σ' H', N σ' H' → ∃ m', m' < m ∧ W m' σ' H') ∧ tb { D with nx := N, ct := N, bk := D.nx } σ H1 else D.nx σ H1
theorem zqy {c : Expr} {body : List Stmt} {tc : TT} {tb : TS} (hp : PassesOwn (model X.prog X.w) X.A X.env X.xe) (hc : PT X c tc) (hb : PSs X body tb) : PS X (.While c body [] pos) (zvd tc tb) := by
 intro pins s σ H D I h
 obtain ⟨W, ⟨m0, w0⟩, turn⟩ := h
 refine wpAny_While (codeAny_whileLoop (fun n s' => ∃ σ' H', Inv X pins σ' H' s' ∧ W n σ' H') ?_ m0 ⟨σ, H, I, w0⟩)
 rintro n s1 ⟨σ1, H1, I1, w1⟩
 refine wpAny_passesOwn hp (thn (hc pins s1 σ1 H1 _ I1 (turn n σ1 H1 w1)) fun b s2 ⟨H2, I2, q2⟩ => ?_)
 cases b with
 | true =>
  obtain ⟨N, hN, q2⟩ := q2
  rw [if_pos rfl]
  refine wpAny_passesOwn hp (thn (hb pins s2 σ1 H2 _ I2 q2) fun f s3 q3 => ?_)
  cases f with
  | next =>
   obtain ⟨σ3, H3, I3, n3⟩ := q3
   obtain ⟨m', hm, w3⟩ := hN σ3 H3 n3
   exact ⟨m', hm, σ3, H3, I3, w3⟩
  | cont =>
   obtain ⟨σ3, H3, I3, n3⟩ := q3
   obtain ⟨m', hm, w3⟩ := hN σ3 H3 n3
   exact ⟨m', hm, σ3, H3, I3, w3⟩
  | brk => exact q3
  | ret v => exact q3
 | false =>
  rw [if_neg Bool.false_ne_true]
  exact wpAny_execs_nil ⟨σ1, H2, I2, q2⟩
end
structure It where
 go : Nat → Hp → Prop
 yld : Nat → Hp → V → Hp → Prop
 stop : Nat → Hp → Prop
def zhp (X : Cx) (pins : List (Addr × Obj)) (H : Hp) (b : Addr) : Prop :=
 H b = none ∧ b ≠ X.env.locals ∧ b ∉ X.fs ∧ (b ∈ X.ex ∨ X.s₀.heap.objs.size ≤ b) ∧ (∀ x c, X.env.cells.lookup x = some c → c ≠ b) ∧ ∀ p ∈ X.pn ++ pins, p.1 ≠ b
theorem Inv.fpOk {X : Cx} {pins : List (Addr × Obj)} {σ : St} {H H' : Hp} {s : Shared} {b : Addr} (I : Inv X pins σ H s) (hb : s.heap.objs.size ≤ b) (hn : H' b = none) : zhp X pins H' b := by
 refine ⟨hn, Nat.ne_of_gt (Nat.lt_of_lt_of_le I.lt hb), I.nofs hb, .inr (Nat.le_trans I.sz hb), fun x c e z => ?_, fun p hp z => ?_⟩
 ·obtain ⟨v, q⟩ := I.cell x c e
  exact absurd (Nat.lt_of_lt_of_le q.lt (by rw [z]; exact hb)) (Nat.lt_irrefl _)
 ·exact absurd (Nat.lt_of_lt_of_le (Heap.lt_size (I.pin p hp).1) (by rw [z]; exact hb)) (Nat.lt_irrefl _)
structure zsb (P : Program) (w : World) (K : PySem.W.Frag) (tg : Expr) (J : It) (fp : List Addr) (it : Addr) (tn : Nat → Heap → Prop) : Prop where
 mem : it ∈ fp
 obj : ∀ i h, tn i h → ∀ b ∈ fp, ∃ o, h.get? b = some o ∧ ∀ v, o.data ≠ .cell v
 keep : ∀ i h h', tn i h → (∀ b ∈ fp, ∀ o, h.get? b = some o → h'.get? b = some o) → tn i h'
 item : ∀ (X : Cx), X.prog = P → X.w = w → X.K = K → X.calm = true → ∀ (i : Nat) (pins : List (Addr × Obj)) (s : Shared) (σ : St) (H : Hp) (E : Value → Shared → Prop), Inv X pins σ H s → (∀ b ∈ fp, zhp X pins H b) → tn i s.heap → J.go i H →
  wpAny (model P w) X.A (pyNext (.ref it)) (fun r s1 => ∃ u, r = some u ∧
   wpAny (model P w) X.A (letOwnedTupleGo tg (.ref it) u) (fun _ s2 => ∃ x H', Inv X pins σ H' s2 ∧ RelV x u ∧ J.yld i H x H' ∧ tn (i + 1) s2.heap ∧ ∀ b ∈ fp, H' b = none) E s1) E s
 done : ∀ (X : Cx), X.prog = P → X.w = w → X.K = K → X.calm = true → ∀ (i : Nat) (pins : List (Addr × Obj)) (s : Shared) (σ : St) (H : Hp) (E : Value → Shared → Prop), Inv X pins σ H s → (∀ b ∈ fp, zhp X pins H b) → tn i s.heap → J.stop i H →
  wpAny (model P w) X.A (pyNext (.ref it)) (fun r s1 => r = none ∧ Inv X pins σ H s1) E s
 self : ∀ (A : Around) (i : Nat) (s : Shared) (Q : Value → Shared → Prop) (E : Value → Shared → Prop), tn i s.heap → Q (.ref it) s → wpAny (model P w) A (pyIter (.ref it)) Q E s
abbrev TI := St → Hp → (It → Hp → Prop) → Prop
def PIE (X : Cx) (pins : List (Addr × Obj)) (σ : St) (tg : Expr) (R : It → Hp → Prop) (itv : Value) (s2 : Shared) : Prop :=
 ∃ (it : Addr) (fp : List Addr) (tn : Nat → Heap → Prop) (J : It) (H' : Hp), itv = .ref it ∧ Inv X pins σ H' s2 ∧ zsb X.prog X.w X.K tg J fp it tn ∧ tn 0 s2.heap ∧ (∀ b ∈ fp, zhp X pins H' b) ∧ R J H'
def PI (X : Cx) (tg iter : Expr) (wi : TI) : Prop :=
 ∀ (pins : List (Addr × Obj)) (s : Shared) (σ : St) (H : Hp) (R : It → Hp → Prop), Inv X pins σ H s → wi σ H R →
  wpAny (model X.prog X.w) X.A (eval iter X.env) (fun v s1 => wpAny (model X.prog X.w) X.A (pyIter v) (PIE X pins σ tg R) X.xe s1) X.xe s
theorem zri {M : Model} {A : Around} {E : Value → Shared → Prop} {s : Shared} {tg : Expr} {it : Addr} {u : Value} {o : Obj} {n : String} {vs : Array Value} {Q : Unit → Shared → Prop} (ho : s.heap.get? it = some o) (hc : o.cls = .type n) (hd : o.data = .fields vs)
    (hn : ["enumerate", "zip", "dict_itemiterator", "dict_reverseitemiterator", "odict_iterator", "itertools.zip_longest", "itertools.pairwise"].contains n = false) (hQ : Q () s) : wpAny M A (letOwnedTupleGo tg (.ref it) u) Q E s := by
  unfold letOwnedTupleGo
  cases tg <;> first
    | exact wpAny_pure hQ
    | (cases u <;> first
        | exact wpAny_pure hQ
        | (refine wpAny_bind (wpAny_load ho ?_)
           rw [hc, hd]
           show wpAny M A (if (["enumerate", "zip", "dict_itemiterator", "dict_reverseitemiterator", "odict_iterator", "itertools.zip_longest", "itertools.pairwise"].contains n && vs[0]? == some (rawInt _)) = true then _ else _) Q E s
           rw [if_neg (by intro h; rw [hn, Bool.false_and] at h; cases h)]
           exact wpAny_pure hQ))
def Itl (K : PySem.W.Frag) (a : Addr) : It :=
 ⟨fun i H => ∃ xs x, SqL K H a xs ∧ xs[i]? = some x, fun i H x H' => H' = H ∧ ∀ xs, SqL K H a xs → xs[i]? = some x, fun i H => ∃ xs, SqL K H a xs ∧ xs.length ≤ i⟩
def Itt (K : PySem.W.Frag) (a : Addr) : It :=
 ⟨fun i H => ∃ xs x, SqT K H a xs ∧ xs[i]? = some x, fun i H x H' => H' = H ∧ ∀ xs, SqT K H a xs → xs[i]? = some x, fun i H => ∃ xs, SqT K H a xs ∧ xs.length ≤ i⟩
def Itr (lo : Int) (n : Nat) : It := ⟨fun i _ => i < n, fun i H x H' => H' = H ∧ x = .int (lo + i), fun i _ => n ≤ i⟩
theorem zkk {P : Program} {w : World} {K : PySem.W.Frag} {tg : Expr} (a it : Addr) : zsb P w K tg (Itl K a) [it] it (fun i h => h.IsListIter it a i) where
 mem := by simp
 obj := fun i h st b hb => by
  have e : b = it := by simpa using hb
  subst e
  obtain ⟨o, e, c, d⟩ := st
  exact ⟨o, e, fun v z => by rw [d] at z; cases z⟩
 keep := fun i h h' st k => st.at fun o e => k it (by simp) o e
 item := by
  intro X hP hw hK hc i pins s σ H E I hf st hg
  subst hP hw hK
  obtain ⟨xs, x, hq, hx⟩ := hg
  obtain ⟨its, rv, p, hz⟩ := I.list hq
  obtain ⟨u, hu, ru⟩ := rv.get hx
  obtain ⟨f0, f1, f2, f3, f4, f5⟩ := hf it (by simp)
  refine wpAny_pyNext_list_item st p.isList (x := u) (by simpa using hu) fun h' st' sb => ?_
  have I1 : Inv X pins σ H { s with heap := h' } := I.turned (t' := s.toks) (fun b o hb e => (sb.2 b hb).trans e) f0 f1 f3 f4 f5
  obtain ⟨o, e, c, d⟩ := id st'
  exact ⟨u, rfl, zri (s := { s with heap := h' }) e c d (by decide) ⟨x, H, I1, ru, ⟨rfl, fun ys hy => by rw [I.list_inj hy hq]; exact hx⟩, st', fun b hb => (hf b hb).1⟩⟩
 done := by
  intro X hP hw hK hc i pins s σ H E I hf st hg
  subst hP hw hK
  obtain ⟨xs, hq, hx⟩ := hg
  obtain ⟨its, rv, p, hz⟩ := I.list hq
  obtain ⟨f0, f1, f2, f3, f4, f5⟩ := hf it (by simp)
  have hl := rv.length
  exact wpAny_pyNext_list_end (I.ok.hd hc) st p.isList (by simp; omega) fun h' eb => ⟨rfl, I.turned (t' := s.toks) (fun b o hb e => eb b o hb e) f0 f1 f3 f4 f5⟩
 self := fun _ _ _ _ _ st h => wpAny_pyIter_listiter st h
theorem zix {P : Program} {w : World} {K : PySem.W.Frag} {tg : Expr} (a it : Addr) : zsb P w K tg (Itt K a) [it] it (fun i h => h.IsTupleIter it a i) where
 mem := by simp
 obj := fun i h st b hb => by
  have e : b = it := by simpa using hb
  subst e
  obtain ⟨o, e, c, d⟩ := st
  exact ⟨o, e, fun v z => by rw [d] at z; cases z⟩
 keep := fun i h h' st k => st.at fun o e => k it (by simp) o e
 item := by
  intro X hP hw hK hc i pins s σ H E I hf st hg
  subst hP hw hK
  obtain ⟨xs, x, hq, hx⟩ := hg
  obtain ⟨its, rv, p, hz⟩ := I.tuple hq
  obtain ⟨u, hu, ru⟩ := rv.get hx
  obtain ⟨f0, f1, f2, f3, f4, f5⟩ := hf it (by simp)
  refine wpAny_pyNext_tuple_item st (show s.heap.IsTuple a its.toArray from p) (x := u) (by simpa using hu) fun h' st' sb => ?_
  have I1 : Inv X pins σ H { s with heap := h' } := I.turned (t' := s.toks) (fun b o hb e => (sb.2 b hb).trans e) f0 f1 f3 f4 f5
  obtain ⟨o, e, c, d⟩ := id st'
  exact ⟨u, rfl, zri (s := { s with heap := h' }) e c d (by decide) ⟨x, H, I1, ru, ⟨rfl, fun ys hy => by rw [I.tuple_inj hy hq]; exact hx⟩, st', fun b hb => (hf b hb).1⟩⟩
 done := by
  intro X hP hw hK hc i pins s σ H E I hf st hg
  subst hP hw hK
  obtain ⟨xs, hq, hx⟩ := hg
  obtain ⟨its, rv, p, hz⟩ := I.tuple hq
  obtain ⟨f0, f1, f2, f3, f4, f5⟩ := hf it (by simp)
  have hl := rv.length
  exact wpAny_pyNext_tuple_end (I.ok.hd hc) st (show s.heap.IsTuple a its.toArray from p) (by simp; omega) fun h' eb => ⟨rfl, I.turned (t' := s.toks) (fun b o hb e => eb b o hb e) f0 f1 f3 f4 f5⟩
 self := fun _ _ _ _ _ st h => wpAny_pyIter_tupleiter st h
theorem znv {P : Program} {w : World} {K : PySem.W.Frag} {tg : Expr} (it : Addr) (lo : Int) (n : Nat) : zsb P w K tg (Itr lo n) [it] it (fun i h => IsRangeIter h it (lo + (i : Nat) * 1) ((n : Int) - (i : Nat)) 1) where
 mem := by simp
 obj := fun i h st b hb => by
  have e : b = it := by simpa using hb
  subst e
  exact ⟨_, st, fun v z => by
   have z' : Data.fields _ = Data.cell v := z
   cases z'⟩
 keep := fun i h h' st k => k it (by simp) _ st
 item := by
  intro X hP hw hK hc i pins s σ H E I hf st hg
  subst hP hw hK
  obtain ⟨f0, f1, f2, f3, f4, f5⟩ := hf it (by simp)
  have W := Walks.range (prog := X.prog) (w := X.w) (I.ok.hd hc) it lo 1 n
  refine W.item i s _ _ hg st fun v h' tk hv st' kk => ?_
  obtain ⟨t, rfl⟩ := hv
  have I1 : Inv X pins σ H { s with heap := h', toks := tk } := I.turned (fun b o hb e => kk b o (by simpa using hb) e) f0 f1 f3 f4 f5
  refine ⟨_, rfl, zri (s := { s with heap := h', toks := tk }) (n := "range_iterator") st' rfl rfl (by decide) ⟨.int (lo + i), H, I1, ⟨t, ?_⟩, ⟨rfl, rfl⟩, st', fun b hb => (hf b hb).1⟩⟩
  rw [Int.mul_one]
 done := by
  intro X hP hw hK hc i pins s σ H E I hf st hg
  subst hP hw hK
  obtain ⟨f0, f1, f2, f3, f4, f5⟩ := hf it (by simp)
  exact wpAny_pyNext_range_end (I.ok.hd hc) st (by have : n ≤ i := hg; omega) fun h' eb => ⟨rfl, I.turned (t' := s.toks) (fun b o hb e => eb b o hb e) f0 f1 f3 f4 f5⟩
 self := fun _ _ _ _ _ st h => wpAny_pyIter_rangeiter st h
end L2
namespace L2
open PySem PySem.Spec PyProof.Rows
section
variable {X : Cx} {tg : Expr}
def zt1 (K : PySem.W.Frag) (tl : TE) : TI := fun σ H R => tl σ H fun x H1 => ∃ a, x = .ref a ∧ (∃ xs, SqL K H1 a xs) ∧ R (Itl K a) H1
def zvl (K : PySem.W.Frag) (tl : TE) : TI := fun σ H R => tl σ H fun x H1 => ∃ a, x = .ref a ∧ (∃ xs, SqT K H1 a xs) ∧ R (Itt K a) H1
theorem zsc {l : Expr} {tl : TE} (hl : PE X l tl) : PI X tg l (zt1 X.K tl) := by
 intro pins s σ H R I h
 refine thn (hl pins s σ H _ I h) fun v s1 ⟨x, H1, I1, r1, q1⟩ => ?_
 obtain ⟨a, e, ⟨xs, hq⟩, q⟩ := q1
 subst e
 cases r1
 obtain ⟨its, rv, p, hz⟩ := I1.list hq
 refine wpAny_pyIter_list p.isList ?_
 refine ⟨s1.heap.objs.size, [s1.heap.objs.size], _, _, H1, rfl, I1.kept (t' := s1.toks) fun b o e => Heap.get?_push_of_some _ e, zkk a _, ⟨_, Heap.get?_push_size _ rfl, rfl, rfl⟩, fun b hb => ?_, q⟩
 have e : b = s1.heap.objs.size := by simpa using hb
 subst e
 exact I1.fpOk (Nat.le_refl _) (I1.hok.fresh (Nat.le_refl _))
theorem zva {l : Expr} {tl : TE} (hl : PE X l tl) : PI X tg l (zvl X.K tl) := by
 intro pins s σ H R I h
 refine thn (hl pins s σ H _ I h) fun v s1 ⟨x, H1, I1, r1, q1⟩ => ?_
 obtain ⟨a, e, ⟨xs, hq⟩, q⟩ := q1
 subst e
 cases r1
 obtain ⟨its, rv, p, hz⟩ := I1.tuple hq
 refine wpAny_pyIter_tuple (show s1.heap.IsTuple a its.toArray from p) ?_
 refine ⟨s1.heap.objs.size, [s1.heap.objs.size], _, _, H1, rfl, I1.kept (t' := s1.toks) fun b o e => Heap.get?_push_of_some _ e, zix a _, ⟨_, Heap.get?_push_size _ rfl, rfl, rfl⟩, fun b hb => ?_, q⟩
 have e : b = s1.heap.objs.size := by simpa using hb
 subst e
 exact I1.fpOk (Nat.le_refl _) (I1.hok.fresh (Nat.le_refl _))
theorem zl9 {pins : List (Addr × Obj)} {σ : St} {H : Hp} {s : Shared} {R : It → Hp → Prop} {E : Value → Shared → Prop} {lo hi : Int} {t u v : Tok} {tk : Nat} (I : Inv X pins σ H s) (h1 : -(2 ^ 62) ≤ lo) (h2 : lo < 2 ^ 62) (h3 : -(2 ^ 62) ≤ hi) (h4 : hi < 2 ^ 62)
  (q : R (Itr lo (hi - lo).toNat) H) : wpAny (model X.prog X.w) X.A (pyIter (.ref s.heap.objs.size)) (PIE X pins σ tg R) E { s with heap := s.heap.push { cls := .type "range", data := .fields #[.int lo t, .int hi u, .int 1 v] }, toks := tk } := by
 refine wpAny_pyIter_range (IsRange.new ..) (small_one h1 h2 h3 h4) ?_
 have I1 : Inv X pins σ H { s with heap := s.heap.push { cls := .type "range", data := .fields #[.int lo t, .int hi u, .int 1 v] }, toks := tk } := I.kept fun b o e => Heap.get?_push_of_some _ e
 refine ⟨(s.heap.push { cls := .type "range", data := .fields #[.int lo t, .int hi u, .int 1 v] }).objs.size, [(s.heap.push { cls := .type "range", data := .fields #[.int lo t, .int hi u, .int 1 v] }).objs.size], _, _, H, rfl,
  I1.kept (t' := tk) fun b o e => Heap.get?_push_of_some _ e, znv _ lo (hi - lo).toNat, ?_, fun b hb => ?_, q⟩
 ·have e1 : lo + ((0 : Nat) : Int) * 1 = lo := by simp
  have e2 : (((hi - lo).toNat : Nat) : Int) - ((0 : Nat) : Int) = Builtin.Range.rangeSize lo hi 1 := by rw [rangeSize_one]; split <;> omega
  show IsRangeIter _ _ (lo + ((0 : Nat) : Int) * 1) ((((hi - lo).toNat : Nat) : Int) - ((0 : Nat) : Int)) 1
  rw [e1, e2]
  exact Heap.get?_push_size _ rfl
 ·have e : b = (s.heap.push { cls := .type "range", data := .fields #[.int lo t, .int hi u, .int 1 v] }).objs.size := by simpa using hb
  subst e
  exact I1.fpOk (Nat.le_refl _) (I1.hok.fresh (Nat.le_refl _))
def zvk (ta : TA) : TI := fun σ H R => ta σ H fun vs H1 => ∃ j : Int, vs = [.int j] ∧ -(2 ^ 62) ≤ j ∧ j < 2 ^ 62 ∧ R (Itr 0 j.toNat) H1
def zve (ta : TA) : TI := fun σ H R => ta σ H fun vs H1 => ∃ i j : Int, vs = [.int i, .int j] ∧ (-(2 ^ 62) ≤ i ∧ i < 2 ^ 62 ∧ -(2 ^ 62) ≤ j ∧ j < 2 ^ 62) ∧ R (Itr i (j - i).toNat) H1
theorem zbr {a : Expr} {ta : TA} {p pos : Pos} (hg : Gl X "range") (hm : X.mg "range" = none) (ha : PA X [a] ta) (hs : starEach [a] X.env = [(false, eval a X.env)] := by rfl) : PI X tg (.Call (.Name "range" p) [a] [] pos) (zvk ta) := by
 intro pins s σ H R I h
 refine Call_ (ze2 I hg hm boot_range (PyProof.Rows.callWith_type1 (thn (ha pos pins s σ H _ I h) fun us s1 ⟨vs, H1, I1, r1, q1⟩ => ?_) hs rfl))
 obtain ⟨j, e, q1, q2, q⟩ := q1
 subst e
 cases r1 with
 | cons r rr =>
  cases rr
  obtain ⟨t, rfl⟩ := r
  exact call_range_1 (zl9 I1 (by omega) (by omega) q1 q2 (by simpa using q))
theorem zpo {a b : Expr} {ta : TA} {p pos : Pos} (hg : Gl X "range") (hm : X.mg "range" = none) (ha : PA X [a, b] ta) (hs : starEach [a, b] X.env = [(false, eval a X.env), (false, eval b X.env)] := by rfl) (hs2 : starEach [b] X.env = [(false, eval b X.env)] := by rfl) :
  PI X tg (.Call (.Name "range" p) [a, b] [] pos) (zve ta) := by
 intro pins s σ H R I h
 refine Call_ (ze2 I hg hm boot_range (PyProof.Rows.callWith_type1 (thn (ha pos pins s σ H _ I h) fun us s1 ⟨vs, H1, I1, r1, q1⟩ => ?_) (by rw [hs, hs2]) (by rw [hs2]; rfl)))
 obtain ⟨i, j, e, ⟨q1, q2, q3, q4⟩, q⟩ := q1
 subst e
 cases r1 with
 | cons r rr =>
  cases rr with
  | cons r' rr =>
   cases rr
   obtain ⟨t, rfl⟩ := r
   obtain ⟨t', rfl⟩ := r'
   exact call_range_2 (zl9 I1 q1 q2 q3 q4 q)
def zv7 (wi : TI) (g : TG) (tb : TS) : TS := fun D σ H => wi σ H fun J H1 => ∃ W : Nat → Nat → St → Hp → Prop, (∃ m, W 0 m σ H1) ∧ ∀ i m σ H, W i m σ H →
 (J.stop i H ∧ D.nx σ H) ∨ (J.go i H ∧ ∃ N : St → Hp → Prop, (∀ σ' H', N σ' H' → ∃ m', m' < m ∧ W (i + 1) m' σ' H') ∧ ∀ x H', J.yld i H x H' → g x σ H' fun σ2 H2 => tb { D with nx := N, ct := N, bk := D.nx } σ2 H2)
def zg8 (fp : List Addr) (h : Heap) : List (Addr × Obj) := fp.filterMap fun b => (h.get? b).map fun o => (b, o)
theorem zek {fp : List Addr} {h : Heap} {b : Addr} {o : Obj} (hb : b ∈ fp) (e : h.get? b = some o) : (b, o) ∈ zg8 fp h := List.mem_filterMap.mpr ⟨b, hb, by rw [e]; rfl⟩
theorem zp6 {fp : List Addr} {h : Heap} {p : Addr × Obj} (hp : p ∈ zg8 fp h) : p.1 ∈ fp ∧ h.get? p.1 = some p.2 := by
 obtain ⟨b, hb, e⟩ := List.mem_filterMap.mp hp
 cases q : h.get? b with
 | none => rw [q] at e; cases e
 | some o =>
  rw [q] at e
  have e' : (b, o) = p := Option.some.inj e
  subst e'
  exact ⟨hb, q⟩
theorem Inv.pinned {pins : List (Addr × Obj)} {σ : St} {H : Hp} {s : Shared} {fp : List Addr} (I : Inv X pins σ H s) (hf : ∀ b ∈ fp, zhp X pins H b) (ho : ∀ b ∈ fp, ∃ o, s.heap.get? b = some o ∧ ∀ v, o.data ≠ .cell v) : Inv X (pins ++ zg8 fp s.heap) σ H s :=
 I.pins_of fun p hp => (List.mem_append.mp hp).elim (fun z => I.pin p (List.mem_append_right _ z)) fun z => by
  obtain ⟨hb, e⟩ := zp6 z
  obtain ⟨f0, f1, f2, _⟩ := hf p.1 hb
  obtain ⟨o, e', d⟩ := ho p.1 hb
  rw [e] at e'; cases e'
  exact ⟨e, f0, f1, f2, d⟩
theorem Inv.unpinned {pins pl : List (Addr × Obj)} {σ : St} {H : Hp} {s : Shared} (I : Inv X (pins ++ pl) σ H s) : Inv X pins σ H s := I.pins_of fun p hp => I.pin p (List.mem_append_right _ (List.mem_append_left _ hp))
theorem zgk {iter : Expr} {body : List Stmt} {wi : TI} {g : TG} {tb : TS} {pos : Pos} (hp : PassesOwn (model X.prog X.w) X.A X.env X.xe) (hc : X.calm = true) (hi : PI X tg iter wi) (hg : PG X tg g) (hb : PSs X body tb)
  (hs : ∀ x, foldedSetIterable iter X.env x = pure x := by intro _; rfl) : PS X (.For tg iter body [] pos) (zv7 wi g tb) := by
 intro pins s σ H D I h
 refine wpAny_For (thn (hi pins s σ H _ I h) fun v s1 h1 => thn h1 fun itv s2 h2 => ?_) hs
 obtain ⟨it, fp, tn, J, H2, e, I2, T, st2, f2, W, ⟨m0, w0⟩, turn⟩ := h2
 subst e
 have stat : ∀ {H' : Hp}, (∀ b ∈ fp, H' b = none) → ∀ b ∈ fp, zhp X pins H' b := fun hn b hb => ⟨hn b hb, (f2 b hb).2⟩
 refine codeAny_forLoop_any (fun n s' => ∃ i σ' H', Inv X pins σ' H' s' ∧ tn i s'.heap ∧ (∀ b ∈ fp, H' b = none) ∧ W i n σ' H') ?_ m0 ⟨0, σ, H2, I2, st2, fun b hb => (f2 b hb).1, w0⟩
 rintro n s3 ⟨i, σ3, H3, I3, st3, fr3, w3⟩
 rcases turn i n σ3 H3 w3 with ⟨stop, qn⟩ | ⟨go, N, hN, step⟩
 ·refine wpAny_passesOwn hp (thn (T.done X rfl rfl rfl hc i pins s3 σ3 H3 X.xe I3 (stat fr3) st3 stop) fun r s4 ⟨hr, I4⟩ => ?_)
  subst hr
  exact wpAny_execs_nil ⟨σ3, H3, I4, qn⟩
 ·refine wpAny_passesOwn hp (thn (T.item X rfl rfl rfl hc i pins s3 σ3 H3 X.xe I3 (stat fr3) st3 go) fun r s4 ⟨u, hr, h4⟩ => ?_)
  subst hr
  refine wpAny_passesOwn hp (thn h4 fun _ s5 ⟨x, H5, I5, r5, y5, st5, fr5⟩ => ?_)
  have I5' := I5.pinned (stat fr5) (T.obj _ _ st5)
  refine wpAny_passesOwn hp (thn (hg _ s5 σ3 H5 x u _ I5' r5 (step x H5 y5)) fun _ s6 ⟨σ6, H6, I6, q6⟩ => ?_)
  refine wpAny_passesOwn hp (thn (hb _ s6 σ6 H6 _ I6 q6) fun f s7 q7 => ?_)
  have again : ∀ {σ7 : St} {H7 : Hp}, Inv X (pins ++ zg8 fp s5.heap) σ7 H7 s7 → N σ7 H7 → ∃ m, m < n ∧ ∃ i σ' H', Inv X pins σ' H' s7 ∧ tn i s7.heap ∧ (∀ b ∈ fp, H' b = none) ∧ W i m σ' H' := fun {σ7 H7} I7 n7 => by
   obtain ⟨m', hm, w7⟩ := hN σ7 H7 n7
   refine ⟨m', hm, i + 1, σ7, H7, I7.unpinned, T.keep _ _ _ st5 fun b hb o e => (I7.pin (b, o) (List.mem_append_right _ (List.mem_append_right _ (zek hb e)))).1, fun b hb => ?_, w7⟩
   obtain ⟨o, e, d⟩ := T.obj _ _ st5 b hb
   exact (I7.pin (b, o) (List.mem_append_right _ (List.mem_append_right _ (zek hb e)))).2.1
  cases f with
  | next => obtain ⟨σ7, H7, I7, n7⟩ := q7; exact again I7 n7
  | cont => obtain ⟨σ7, H7, I7, n7⟩ := q7; exact again I7 n7
  | brk => obtain ⟨σ7, H7, I7, q7⟩ := q7; exact ⟨σ7, H7, I7.unpinned, q7⟩
  | ret v => obtain ⟨x7, σ7, H7, I7, r7, q7⟩ := q7; exact ⟨x7, σ7, H7, I7.unpinned, r7, q7⟩
end
theorem zm9 {K : PySem.W.Frag} {a : Addr} {xs : List V} {g : TG} {tb : TS} {D : zj7} {σ : St} {H : Hp} (Pv : Nat → St → Hp → Prop) (h0 : Pv 0 σ H) (hl : ∀ i σ H, i ≤ xs.length → Pv i σ H → SqL K H a xs)
  (hs : ∀ i x σ H, xs[i]? = some x → Pv i σ H → g x σ H fun σ2 H2 => tb { D with nx := Pv (i + 1), ct := Pv (i + 1), bk := D.nx } σ2 H2) (hd : ∀ σ H, Pv xs.length σ H → D.nx σ H) :
  ∃ W : Nat → Nat → St → Hp → Prop, (∃ m, W 0 m σ H) ∧ ∀ i m σ H, W i m σ H →
   ((Itl K a).stop i H ∧ D.nx σ H) ∨ ((Itl K a).go i H ∧ ∃ N : St → Hp → Prop, (∀ σ' H', N σ' H' → ∃ m', m' < m ∧ W (i + 1) m' σ' H') ∧ ∀ x H', (Itl K a).yld i H x H' → g x σ H' fun σ2 H2 => tb { D with nx := N, ct := N, bk := D.nx } σ2 H2) := by
 refine ⟨fun i m σ H => m = xs.length - i ∧ i ≤ xs.length ∧ Pv i σ H, ⟨xs.length, by simp, Nat.zero_le _, h0⟩, ?_⟩
 rintro i m σ H ⟨rfl, hi, p⟩
 have q := hl i σ H hi p
 by_cases hlt : i < xs.length
 ·refine .inr ⟨⟨xs, xs[i], q, by simp [hlt]⟩, Pv (i + 1), fun σ' H' p' => ⟨xs.length - (i + 1), by omega, rfl, hlt, p'⟩, fun x H' y => ?_⟩
  obtain ⟨e, y⟩ := y
  subst e
  exact hs i x σ _ (y xs q) p
 ·have e : i = xs.length := by omega
  subst e
  exact .inl ⟨⟨xs, q, Nat.le_refl _⟩, hd σ H p⟩
theorem zki {lo : Int} {n : Nat} {g : TG} {tb : TS} {D : zj7} {σ : St} {H : Hp} (Pv : Nat → St → Hp → Prop) (h0 : Pv 0 σ H)
  (hs : ∀ i σ H, i < n → Pv i σ H → g (.int (lo + i)) σ H fun σ2 H2 => tb { D with nx := Pv (i + 1), ct := Pv (i + 1), bk := D.nx } σ2 H2) (hd : ∀ σ H, Pv n σ H → D.nx σ H) :
  ∃ W : Nat → Nat → St → Hp → Prop, (∃ m, W 0 m σ H) ∧ ∀ i m σ H, W i m σ H →
   ((Itr lo n).stop i H ∧ D.nx σ H) ∨ ((Itr lo n).go i H ∧ ∃ N : St → Hp → Prop, (∀ σ' H', N σ' H' → ∃ m', m' < m ∧ W (i + 1) m' σ' H') ∧ ∀ x H', (Itr lo n).yld i H x H' → g x σ H' fun σ2 H2 => tb { D with nx := N, ct := N, bk := D.nx } σ2 H2) := by
 refine ⟨fun i m σ H => m = n - i ∧ i ≤ n ∧ Pv i σ H, ⟨n, by simp, Nat.zero_le _, h0⟩, ?_⟩
 rintro i m σ H ⟨rfl, hi, p⟩
 by_cases hlt : i < n
 ·refine .inr ⟨hlt, Pv (i + 1), fun σ' H' p' => ⟨n - (i + 1), by omega, rfl, hlt, p'⟩, fun x H' y => ?_⟩
  obtain ⟨e, y⟩ := y
  subst e y
  exact hs i σ _ hlt p
 ·have e : i = n := by omega
  subst e
  exact .inl ⟨Nat.le_refl _, hd σ H p⟩
end L2
namespace L2
open PySem PySem.Spec PyProof.Rows
abbrev R2 := V → V → Hp → VK → Prop
def OpR (X : Cx) (f : Value → Value → Sem Value) (r : R2) : Prop :=
 ∀ (pins : List (Addr × Obj)) (s : Shared) (σ : St) (H : Hp) (x y : V) (v u : Value) (Q : VK), Inv X pins σ H s → RelV x v → RelV y u → r x y H Q →
  wpAny (model X.prog X.w) X.A (f v u) (EP X pins σ Q) X.xe s
def UnR (X : Cx) (f : Value → Sem Value) (r : V → Hp → VK → Prop) : Prop :=
 ∀ (pins : List (Addr × Obj)) (s : Shared) (σ : St) (H : Hp) (x : V) (v : Value) (Q : VK), Inv X pins σ H s → RelV x v → r x H Q →
  wpAny (model X.prog X.w) X.A (f v) (EP X pins σ Q) X.xe s
def zc6 (X : Cx) (f : Value) (r : List V → Hp → VK → Prop) : Prop :=
 ∀ (pins : List (Addr × Obj)) (s : Shared) (σ : St) (H : Hp) (xs : List V) (us : List Value) (Q : VK), Inv X pins σ H s → Vals xs us → r xs H Q →
  wpAny (model X.prog X.w) X.A (call f us) (EP X pins σ Q) X.xe s
def tOp (r : R2) (ta tb : TE) : TE := fun σ H Q => ta σ H fun x H1 => tb σ H1 fun y H2 => r x y H2 Q
def tUn (r : V → Hp → VK → Prop) (ta : TE) : TE := fun σ H Q => ta σ H fun x H1 => r x H1 Q
def rI (C : Int → Int → Prop) (g : Int → Int → V) : R2 := fun x y H Q => ∃ i j, x = .int i ∧ y = .int j ∧ C i j ∧ Q (g i j) H
def rI0 (g : Int → Int → V) : R2 := fun x y H Q => ∃ i j, x = .int i ∧ y = .int j ∧ Q (g i j) H
def rU (g : Int → V) : V → Hp → VK → Prop := fun x H Q => ∃ i, x = .int i ∧ Q (g i) H
section
variable {X : Cx} {a b c : Expr} {ta tb tc : TE} {pos : Pos}
theorem zuh (ha : PE X a ta) (hb : PE X b tb) {pins : List (Addr × Obj)} {s : Shared} {σ : St} {H : Hp} {R : V → V → Hp → Prop} (I : Inv X pins σ H s)
  (h : ta σ H fun x H1 => tb σ H1 fun y H2 => R x y H2) {Q : Value → Shared → Prop} {f : Value → Value → Sem Value}
  (hf : ∀ v u s2 x y H2, Inv X pins σ H2 s2 → RelV x v → RelV y u → R x y H2 → wpAny (model X.prog X.w) X.A (f v u) Q X.xe s2) :
  wpAny (model X.prog X.w) X.A (eval a X.env) (fun v s₁ => wpAny (model X.prog X.w) X.A (eval b X.env) (fun u s₂ => wpAny (model X.prog X.w) X.A (f v u) Q X.xe s₂) X.xe s₁) X.xe s := by
 refine thn (ha pins s σ H _ I h) fun v s1 ⟨x, H1, I1, r1, q1⟩ => ?_
 refine thn (hb pins s1 σ H1 _ I1 q1) fun u s2 ⟨y, H2, I2, r2, q2⟩ => ?_
 exact hf v u s2 x y H2 I2 r1 r2 q2
theorem zau {op : Operator} {r : R2} (ho : OpR X (binaryOp op) r) (ha : PE X a ta) (hb : PE X b tb) : PE X (.BinOp a op b pos) (tOp r ta tb) := by
 intro pins s σ H Q I h
 exact wpAny_BinOp (zuh ha hb I h fun v u s2 x y H2 I2 rx ry q => ho pins s2 σ H2 x y v u Q I2 rx ry q)
theorem ztq {op : UnaryOp} {r : V → Hp → VK → Prop} (ho : UnR X (unaryOp op) r) (ha : PE X a ta) : PE X (.UnaryOp op a pos) (tUn r ta) := by
 intro pins s σ H Q I h
 exact UnaryOp_ (thn (ha pins s σ H _ I h) fun v s1 ⟨x, H1, I1, r1, q1⟩ => ho pins s1 σ H1 x v Q I1 r1 q1)
theorem opI {f : Value → Value → Sem Value} {C : Int → Int → Prop} {g : Int → Int → Int}
  (rule : ∀ (i j : Int) (t u : Tok) (s : Shared) (Q : Value → Shared → Prop) (E : Value → Shared → Prop), C i j → Q (.int (g i j) s.toks) { s with toks := s.toks + 1 } → wpAny (model X.prog X.w) X.A (f (.int i t) (.int j u)) Q E s) :
  OpR X f (rI C fun i j => .int (g i j)) := by
 intro pins s σ H x y v u Q I rx ry h
 obtain ⟨i, j, rfl, rfl, hc, q⟩ := h
 obtain ⟨t, rfl⟩ := rx
 obtain ⟨t', rfl⟩ := ry
 exact rule i j t t' s _ _ hc ⟨.int (g i j), H, I.tok _, ⟨_, rfl⟩, q⟩
theorem zsy {f : Value → Value → Sem Value} {g : Int → Int → Int}
  (rule : ∀ (i j : Int) (t u : Tok) (s : Shared) (Q : Value → Shared → Prop) (E : Value → Shared → Prop), Q (.int (g i j) s.toks) { s with toks := s.toks + 1 } → wpAny (model X.prog X.w) X.A (f (.int i t) (.int j u)) Q E s) :
  OpR X f (rI0 fun i j => .int (g i j)) := by
 intro pins s σ H x y v u Q I rx ry h
 obtain ⟨i, j, rfl, rfl, q⟩ := h
 obtain ⟨t, rfl⟩ := rx
 obtain ⟨t', rfl⟩ := ry
 exact rule i j t t' s _ _ ⟨.int (g i j), H, I.tok _, ⟨_, rfl⟩, q⟩
theorem zsd {f : Value → Value → Sem Value} {g : Int → Int → Bool}
  (rule : ∀ (i j : Int) (t u : Tok) (s : Shared) (Q : Value → Shared → Prop) (E : Value → Shared → Prop), Q (.bool (g i j)) s → wpAny (model X.prog X.w) X.A (f (.int i t) (.int j u)) Q E s) :
  OpR X f (rI0 fun i j => .bl (g i j)) := by
 intro pins s σ H x y v u Q I rx ry h
 obtain ⟨i, j, rfl, rfl, q⟩ := h
 obtain ⟨t, rfl⟩ := rx
 obtain ⟨t', rfl⟩ := ry
 exact rule i j t t' s _ _ ⟨.bl (g i j), H, I, rfl, q⟩
def zuw (i j : Int) : Prop := 0 < j ∧ j < 1073741824
def zvy (i j : Int) : Prop := 0 ≤ j ∧ j ≤ 1000000 ∧ i.natAbs < 2 ^ 64
def CMul (i j : Int) : Prop := (-(2 ^ 64) < i ∧ i < 2 ^ 64) ∨ (-(2 ^ 64) < j ∧ j < 2 ^ 64)
theorem CMul.ok {i j : Int} (h : CMul i j) : IntMulOk i j := by
 rcases h with ⟨h1, h2⟩ | ⟨h1, h2⟩
 ·exact .of_left (intBits_le_64 h1 h2)
 ·exact .of_right (intBits_le_64 h1 h2)
theorem two_pow_nn (k : Nat) : (0 : Int) ≤ 2 ^ k := by
 rw [two_pow_cast]
 exact Int.natCast_nonneg _
theorem zbv : OpR X (binaryOp .Add) (rI0 fun i j => .int (i + j)) := zsy fun _ _ _ _ _ _ _ q => add_int q
theorem zbw : OpR X (binaryOp .Sub) (rI0 fun i j => .int (i - j)) := zsy fun _ _ _ _ _ _ _ q => sub_int q
theorem zdw : OpR X (binaryOp .Mult) (rI CMul fun i j => .int (i * j)) := opI fun _ _ _ _ _ _ _ hc q => mul_int q hc.ok
theorem zsx : OpR X (binaryOp .FloorDiv) (rI zuw fun i j => .int (i / j)) := opI fun i j _ _ _ _ _ hc q => by
 have h1 : (0 : Int) < j := hc.1
 have h2 : j < 1073741824 := hc.2
 exact floordiv_int (by omega) (by rw [Int.fdiv_eq_ediv_of_nonneg i (by omega)]; exact q) (.inl (PyProof.noPylong_small (by omega)))
theorem ze5 : OpR X (binaryOp .Mod) (rI (fun _ j => 0 < j) fun i j => .int (i % j)) := opI fun i j _ _ _ _ _ hc q => by
 have h1 : (0 : Int) < j := hc
 exact mod_int' (by omega) (by rw [Int.fmod_eq_emod_of_nonneg i (by omega)]; exact q)
theorem zr2 : OpR X (binaryOp .Pow) (rI zvy fun i j => .int (i ^ j.toNat)) := opI fun _ _ _ _ _ _ _ hc q => pow_int_small hc.1 hc.2.1 hc.2.2 q
theorem zji : OpR X (binaryOp .LShift) (rI zvy fun i j => .int (i * 2 ^ j.toNat)) := opI fun _ _ _ _ _ _ _ hc q => lshift_int_small hc.1 hc.2.1 hc.2.2 q
theorem zup : OpR X (binaryOp .RShift) (rI (fun _ j => 0 ≤ j) fun i j => .int (i / 2 ^ j.toNat)) := opI fun i j _ _ _ _ _ hc q =>
 rshift_int hc (by rw [Int.fdiv_eq_ediv_of_nonneg i (two_pow_nn _)]; exact q)
theorem zuo : OpR X (binaryOp .BitAnd) (rI0 fun i j => .int (Builtin.bitAnd i j)) := zsy fun _ _ _ _ _ _ _ q => and_int q
theorem zh1 : OpR X (binaryOp .BitOr) (rI0 fun i j => .int (Builtin.bitOr i j)) := zsy fun _ _ _ _ _ _ _ q => or_int q
theorem unI {f : Value → Sem Value} {g : Int → Int}
  (rule : ∀ (i : Int) (t : Tok) (s : Shared) (Q : Value → Shared → Prop) (E : Value → Shared → Prop), Q (.int (g i) s.toks) { s with toks := s.toks + 1 } → wpAny (model X.prog X.w) X.A (f (.int i t)) Q E s) :
  UnR X f (rU fun i => .int (g i)) := by
 intro pins s σ H x v Q I rx h
 obtain ⟨i, rfl, q⟩ := h
 obtain ⟨t, rfl⟩ := rx
 exact rule i t s _ _ ⟨.int (g i), H, I.tok _, ⟨_, rfl⟩, q⟩
theorem zqn : UnR X (unaryOp .USub) (rU fun i => .int (-i)) := unI fun _ _ _ _ _ q => neg_int q
end
def zvr : V → V → Bool
 | .non, .non => true | .non, .int _ => true | .int _, .non => true | .non, .bl _ => true | .bl _, .non => true | .non, .str _ => true | .str _, .non => true
 | .int _, .int _ => true | .bl _, .bl _ => true | .str _, .str _ => true | .byt _, .byt _ => true
 | .int _, .str _ => true | .str _, .int _ => true | .bl _, .str _ => true | .str _, .bl _ => true
 | _, _ => false
def rEq : R2 := fun x y H Q => zvr x y = true ∧ Q (.bl (decide (x = y))) H
def rNe : R2 := fun x y H Q => zvr x y = true ∧ Q (.bl (!decide (x = y))) H
theorem zg6 {i j : Int} : decide (V.int i = V.int j) = (i == j) := by
 rw [Bool.eq_iff_iff]
 simp
theorem zr5 {i j : Bool} : decide (V.bl i = V.bl j) = (i == j) := by
 rw [Bool.eq_iff_iff]
 simp
theorem zox {i j : Str} : decide (V.str i = V.str j) = (i == j) := by
 rw [Bool.eq_iff_iff]
 simp
theorem zog {i j : Array UInt8} : decide (V.byt i = V.byt j) = (i.toList == j.toList) := by
 rw [Bool.eq_iff_iff]
 cases i
 cases j
 simp
section
variable {X : Cx} {a b c : Expr} {ta tb tc : TE} {pos : Pos}
theorem zbb {pins : List (Addr × Obj)} {σ : St} {H : Hp} {s : Shared} {Q : VK} {k k' : Bool} (I : Inv X pins σ H s) (q : Q (.bl k) H) (e : k = k') : EP X pins σ Q (.bool k') s := by
 subst e
 exact ⟨.bl k, H, I, rfl, q⟩
theorem za4 : OpR X (compareOp .Eq) rEq := by
 intro pins s σ H x y v u Q I rx ry h
 obtain ⟨hs, q⟩ := h
 cases x with
 | non =>
  cases rx
  cases y with
  | non => cases ry; exact PySem.EqNone.eq_none_none (zbb I q (by simp))
  | bl j => cases ry; exact PySem.EqNone.eq_none_bool (zbb I q (by simp))
  | int j => obtain ⟨t', rfl⟩ := ry; exact PySem.EqNone.eq_none_int (zbb I q (by simp))
  | str j => obtain ⟨t', rfl⟩ := ry; exact PySem.EqNone.eq_none_str (zbb I q (by simp))
  | _ => exact absurd (show false = true from hs) Bool.false_ne_true
 | bl i =>
  cases rx
  cases y with
  | non => cases ry; exact PySem.EqNone.eq_bool_none (zbb I q (by simp))
  | bl j => cases ry; exact eq_bool (zbb I q zr5)
  | str j => obtain ⟨t', rfl⟩ := ry; exact PySem.EqMixed.eq_bool_str (zbb I q (by simp))
  | _ => exact absurd (show false = true from hs) Bool.false_ne_true
 | int i =>
  obtain ⟨t, rfl⟩ := rx
  cases y with
  | non => cases ry; exact PySem.EqNone.eq_int_none (zbb I q (by simp))
  | int j => obtain ⟨t', rfl⟩ := ry; exact eq_int (zbb I q zg6)
  | str j => obtain ⟨t', rfl⟩ := ry; exact PySem.EqMixed.eq_int_str (zbb I q (by simp))
  | _ => exact absurd (show false = true from hs) Bool.false_ne_true
 | str i =>
  obtain ⟨t, rfl⟩ := rx
  cases y with
  | non => cases ry; exact PySem.EqNone.eq_str_none (zbb I q (by simp))
  | bl j => cases ry; exact PySem.EqMixed.eq_str_bool (zbb I q (by simp))
  | int j => obtain ⟨t', rfl⟩ := ry; exact PySem.EqMixed.eq_str_int (zbb I q (by simp))
  | str j => obtain ⟨t', rfl⟩ := ry; exact eq_str (zbb I q zox)
  | _ => exact absurd (show false = true from hs) Bool.false_ne_true
 | byt i =>
  obtain ⟨t, rfl⟩ := rx
  cases y with
  | byt j => obtain ⟨t', rfl⟩ := ry; exact PySem.W.eq_bytes (zbb I q zog)
  | _ => exact absurd (show false = true from hs) Bool.false_ne_true
 | _ => cases y <;> exact absurd (show false = true from hs) Bool.false_ne_true
theorem zoo : OpR X (compareOp .NotEq) rNe := by
 intro pins s σ H x y v u Q I rx ry h
 obtain ⟨hs, q⟩ := h
 cases x with
 | non =>
  cases rx
  cases y with
  | non => cases ry; exact PySem.EqNone.ne_none_none (zbb I q (by simp))
  | bl j => cases ry; exact PySem.EqNone.ne_none_bool (zbb I q (by simp))
  | int j => obtain ⟨t', rfl⟩ := ry; exact PySem.EqNone.ne_none_int (zbb I q (by simp))
  | str j => obtain ⟨t', rfl⟩ := ry; exact PySem.EqNone.ne_none_str (zbb I q (by simp))
  | _ => exact absurd (show false = true from hs) Bool.false_ne_true
 | bl i =>
  cases rx
  cases y with
  | non => cases ry; exact PySem.EqNone.ne_bool_none (zbb I q (by simp))
  | bl j => cases ry; exact ne_bool (zbb I q (congrArg not zr5))
  | str j => obtain ⟨t', rfl⟩ := ry; exact PySem.EqMixed.ne_bool_str (zbb I q (by simp))
  | _ => exact absurd (show false = true from hs) Bool.false_ne_true
 | int i =>
  obtain ⟨t, rfl⟩ := rx
  cases y with
  | non => cases ry; exact PySem.EqNone.ne_int_none (zbb I q (by simp))
  | int j => obtain ⟨t', rfl⟩ := ry; exact ne_int (zbb I q (congrArg not zg6))
  | str j => obtain ⟨t', rfl⟩ := ry; exact PySem.EqMixed.ne_int_str (zbb I q (by simp))
  | _ => exact absurd (show false = true from hs) Bool.false_ne_true
 | str i =>
  obtain ⟨t, rfl⟩ := rx
  cases y with
  | non => cases ry; exact PySem.EqNone.ne_str_none (zbb I q (by simp))
  | bl j => cases ry; exact PySem.EqMixed.ne_str_bool (zbb I q (by simp))
  | int j => obtain ⟨t', rfl⟩ := ry; exact PySem.EqMixed.ne_str_int (zbb I q (by simp))
  | str j => obtain ⟨t', rfl⟩ := ry; exact ne_str (zbb I q (congrArg not zox))
  | _ => exact absurd (show false = true from hs) Bool.false_ne_true
 | byt i =>
  obtain ⟨t, rfl⟩ := rx
  cases y with
  | byt j => obtain ⟨t', rfl⟩ := ry; exact PySem.W.ne_bytes (zbb I q (congrArg not zog))
  | _ => exact absurd (show false = true from hs) Bool.false_ne_true
 | _ => cases y <;> exact absurd (show false = true from hs) Bool.false_ne_true
theorem zf9 : OpR X (compareOp .Lt) (rI0 fun i j => .bl (decide (i < j))) := zsd fun _ _ _ _ _ _ _ q => lt_int q
theorem zkc : OpR X (compareOp .LtE) (rI0 fun i j => .bl (decide (i ≤ j))) := zsd fun _ _ _ _ _ _ _ q => le_int q
theorem zg1 : OpR X (compareOp .Gt) (rI0 fun i j => .bl (decide (j < i))) := zsd fun _ _ _ _ _ _ _ q => gt_int q
theorem ziw : OpR X (compareOp .GtE) (rI0 fun i j => .bl (decide (j ≤ i))) := zsd fun _ _ _ _ _ _ _ q => ge_int q
theorem zui : OpR X (compareOp .Is) (fun x y H Q => y = .non ∧ Q (.bl (decide (x = .non))) H) := by
 intro pins s σ H x y v u Q I rx ry h
 obtain ⟨rfl, q⟩ := h
 cases ry
 refine is_none_gen (zbb I q ?_)
 cases x <;> first
  | (cases rx; rfl)
  | (obtain ⟨t, rfl⟩ := rx; rfl)
theorem zom : OpR X (compareOp .IsNot) (fun x y H Q => y = .non ∧ Q (.bl (!decide (x = .non))) H) := by
 intro pins s σ H x y v u Q I rx ry h
 obtain ⟨rfl, q⟩ := h
 cases ry
 refine isnot_none_gen (zbb I q ?_)
 cases x <;> first
  | (cases rx; rfl)
  | (obtain ⟨t, rfl⟩ := rx; rfl)
theorem zak (b : Expr) {op : CmpOp} (h : op ≠ .In := by decide) (h2 : op ≠ .NotIn := by decide) : behindInMarks op b = false := by
 have e1 : (op == CmpOp.In) = false := by cases op <;> first | rfl | exact absurd rfl h
 have e2 : (op == CmpOp.NotIn) = false := by cases op <;> first | rfl | exact absurd rfl h2
 cases b <;> simp [behindInMarks, e1, e2]
theorem zbf {op : CmpOp} {r : R2} (ho : OpR X (compareOp op) r) (ha : PE X a ta) (hb : PE X b tb) (hm : behindInMarks op b = false) : PE X (.Compare a [op] [b] pos) (tOp r ta tb) := by
 intro pins s σ H Q I h
 exact wpAny_Compare1 (zuh ha hb I h fun v u s2 x y H2 I2 rx ry q => ho pins s2 σ H2 x y v u Q I2 rx ry q) hm
def zvv (t : TE) : TT := fun σ H Q => t σ H fun x H' => ∃ k, x = .bl k ∧ Q k H'
theorem zal {op : CmpOp} {r : R2} (ho : OpR X (compareOp op) r) (ha : PE X a ta) (hb : PE X b tb) (hm : behindInMarks op b = false) : PT X (.Compare a [op] [b] pos) (zvv (tOp r ta tb)) := by
 intro pins s σ H Q I h
 refine wpAny_isTrue_Compare1 (thn (ha pins s σ H _ I h) fun v s1 ⟨x, H1, I1, r1, q1⟩ => thn (hb pins s1 σ H1 _ I1 q1) fun u s2 ⟨y, H2, I2, r2, q2⟩ =>
  thn (ho pins s2 σ H2 x y v u _ I2 r1 r2 q2) fun c s3 ⟨z, H3, I3, r3, k, e, q3⟩ => ?_) hm
 subst e
 cases r3
 exact wpAny_truthy_bool ⟨H3, I3, q3⟩
def zux (r r' : R2) (ta tb tc : TE) : TE := fun σ H Q => ta σ H fun x H1 => tb σ H1 fun y H2 => r x y H2 fun z H3 => ∃ k, z = .bl k ∧
 (if k = true then tc σ H3 fun w' H4 => r' y w' H4 Q else Q (.bl false) H3)
theorem zmn {op op' : CmpOp} {r r' : R2} (ho : OpR X (compareOp op) r) (ho' : OpR X (compareOp op') r') (ha : PE X a ta) (hb : PE X b tb) (hc : PE X c tc)
  (hm : lastMarks [op, op'] [b, c] = false := by with_unfolding_all rfl) : PE X (.Compare a [op, op'] [b, c] pos) (zux r r' ta tb tc) := by
 intro pins s σ H Q I h
 refine Compare_chain (thn (ha pins s σ H _ I h) fun v s1 ⟨x, H1, I1, r1, q1⟩ => chain_link (thn (hb pins s1 σ H1 _ I1 q1) fun u s2 ⟨y, H2, I2, r2, q2⟩ =>
  thn (ho pins s2 σ H2 x y v u _ I2 r1 r2 q2) fun d s3 ⟨z, H3, I3, r3, k, e, q3⟩ => ?_)) hm
 subst e
 cases r3
 refine wpAny_truthy_bool ?_
 cases k with
 | false => exact ite_ff ⟨.bl false, H3, I3, rfl, q3⟩
 | true => exact ite_tt (chain_last (thn (hc pins s3 σ H3 _ I3 q3) fun w' s4 ⟨z', H4, I4, r4, q4⟩ => ho' pins s4 σ H4 y z' u w' Q I4 r2 r4 q4))
theorem ziv : (sizeLine : Nat) < 2 ^ 63 := by rw [sizeLine_eq]; decide
theorem zd7 {x : V} {us : List Value} (r : Vals [x] us) : ∃ u, us = [u] ∧ RelV x u := by
 cases r with
 | cons r1 r2 => cases r2; exact ⟨_, rfl, r1⟩
theorem ztz {x y : V} {us : List Value} (r : Vals [x, y] us) : ∃ u w', us = [u, w'] ∧ RelV x u ∧ RelV y w' := by
 cases r with
 | cons r1 r2 =>
  cases r2 with
  | cons r3 r4 => cases r4; exact ⟨_, _, rfl, r1, r3⟩
theorem zp9 (hc : X.calm = true) : zc6 X (.builtin "min") (fun xs H Q => ∃ i j, xs = [.int i, .int j] ∧ Q (.int (if j < i then j else i)) H) := by
 intro pins s σ H xs us Q I r h
 obtain ⟨i, j, rfl, q⟩ := h
 obtain ⟨u, w', rfl, ⟨t, rfl⟩, ⟨t', rfl⟩⟩ := ztz r
 refine min_two_ints (I.ok.hd hc) fun h' tk k => ⟨_, H, I.kept k, ?_, q⟩
 by_cases hj : j < i
 ·rw [if_pos hj, if_pos hj]; exact ⟨_, rfl⟩
 ·rw [if_neg hj, if_neg hj]; exact ⟨_, rfl⟩
theorem zhn : zc6 X (.type "int") (fun xs H Q => (∃ i, xs = [.int i] ∧ Q (.int i) H) ∨ ∃ k, xs = [.bl k] ∧ Q (.int (if k then 1 else 0)) H) := by
 intro pins s σ H xs us Q I r h
 rcases h with ⟨i, rfl, q⟩ | ⟨k, rfl, q⟩
 ·obtain ⟨u, rfl, t, rfl⟩ := zd7 r
  exact call_int_int ⟨.int i, H, I, ⟨_, rfl⟩, q⟩
 ·obtain ⟨u, rfl, r1⟩ := zd7 r
  cases r1
  exact call_int_bool ⟨.int (if k then 1 else 0), H, I.tok _, ⟨_, rfl⟩, q⟩
end
end L2
namespace L2
open PySem PySem.Spec PyProof.Rows
structure ObjM (h : Heap) (x dx C : Addr) (mA : Str → Option Value) : Prop where
 obj : h.get? x = some (PySem.W.instObj C dx)
 ns : h.Ns1 dx mA
 ne : dx ≠ x
theorem zp3 {h : Heap} {dx : Addr} {mA : Str → Option Value} (n : h.Ns1 dx mA) : ∃ od, h.get? dx = some od ∧ ∀ name, PySem.W.lookIn name od = some (mA name) := by
 obtain ⟨o, es, ep, ho, hd, hk, _, hm⟩ := n
 refine ⟨o, ho, fun name => ?_⟩
 have e := hm name
 unfold nsFind findBy at e
 rw [← Array.find?_toList] at e
 unfold PySem.W.lookIn
 rw [hd]
 dsimp only
 split
 ·rename_i y q
  rw [q] at e
  exact congrArg some e
 ·rename_i q
  rw [q] at e
  have a : es.toList.any (·.refKey) = false := by
   rw [List.any_eq_false]
   intro y hy
   obtain ⟨z, t, hkey⟩ := hk y (Array.mem_toList_iff.mp hy)
   simp [DictEntry.refKey, hkey]
  have a' : ¬ es.toList.any (·.refKey) = true := by rw [a]; exact Bool.false_ne_true
  rw [if_neg a']
  exact congrArg some e
theorem ObjM.look {h : Heap} {x dx C : Addr} {mA : Str → Option Value} (I : ObjM h x dx C mA) : ∃ od, PySem.W.InstAt h x (PySem.W.instObj C dx) C (some od) ∧ ∀ name, PySem.W.lookIn name od = some (mA name) :=
 let ⟨od, ho, hl⟩ := zp3 I.ns
 ⟨od, ⟨I.obj, rfl, rfl, ho⟩, hl⟩
section
variable {prog : Program} {w : World} {A : Around} {E : Value → Shared → Prop} {s : Shared} {K : PySem.W.Frag} {x dx C f : Addr} {mA : Str → Option Value} {name : Str} {v : Value}
end
section
variable {P : Program} {w : World} {H H' : Hp} {h h' : Heap} {a C dx : Addr} {fs fs' : List (Str × V)}
theorem zta (hok : HOk P w H h) (e : H a = some (.ins C dx fs)) : ∃ mA, ObjM h a dx C mA ∧ (∀ f, zu7 (fs.lookup f) (mA f)) ∧ PySem.Within mA (fs.map (·.1)) ∧ fs.length ≤ 1000 ∧ H dx = some (.own a) := by
 obtain ⟨d, z, ne, ob, mA, n, r, q⟩ := (show ObjOk P w H h a (.ins C dx fs) from hok a _ e)
 exact ⟨mA, ⟨ob, n, ne⟩, r, q, z, d⟩
end
structure Cls (K : PySem.W.Frag) (C : Addr) : Prop where
 pg : PySem.W.plainGet K C Str.empty = true
 hd : PySem.W.hasDictIn K C = true
 po : PySem.W.plainOver K C = true
 sa : PySem.W.findIn K (.ref C) "__setattr__" = some (some (.builtin "object.__setattr__"))
theorem Cls.get {K : PySem.W.Frag} {C : Addr} (c : Cls K C) (f : Str) : PySem.W.plainGet K C f = true := c.pg
section
variable {X : Cx} {pins : List (Addr × Obj)} {σ : St} {H : Hp} {s : Shared} {a C dx : Addr} {fs : List (Str × V)} {f : Str} {v : V} {A : Around} {E : Value → Shared → Prop}
end
section
variable {X : Cx} {o e value : Expr} {f : Str} {pos pos' tpos : Pos} {ta tv : TE}
end
section
variable {X : Cx} {pins : List (Addr × Obj)} {σ : St} {H : Hp} {s : Shared} {A : Around} {E : Value → Shared → Prop} {Q : Value → Shared → Prop} {c : Value} {b : Bool}
inductive zg0 (K : PySem.W.Frag) (H : Hp) : V → Value → Prop where
 | non : zg0 K H .non (.type "NoneType")
 | bl (x : Bool) : zg0 K H (.bl x) (.type "bool")
 | int (i : Int) : zg0 K H (.int i) (.type "int")
 | str (x : Str) : zg0 K H (.str x) (.type "str")
 | flt (x : UInt64) : zg0 K H (.flt x) (.type "float")
 | lst {a : Addr} {xs : List V} (e : H a = some (.lst xs)) : zg0 K H (.ref a) (.type "list")
 | frz {a : Addr} {o : Obj} {xs : List V} (e : H a = some (.frz o (.lst xs))) : zg0 K H (.ref a) (.type "list")
 | tup {a : Addr} {xs : List V} (e : H a = some (.tup xs)) : zg0 K H (.ref a) (.type "tuple")
 | dK {a : Addr} {kvs : List (Key × V)} (e : H a = some (.dK kvs)) : zg0 K H (.ref a) (.type "dict")
 | dT {a : Addr} {kvs : List (List Key × V)} (e : H a = some (.dT kvs)) : zg0 K H (.ref a) (.type "dict")
 | ins {a C dx : Addr} {fs : List (Str × V)} (e : H a = some (.ins C dx fs)) (cl : Cls K C) (ha : PySem.W.findIn K (.ref C) "__class__" = some (some (.builtin "object.__class__")))
   (hn : PySem.W.specialIn K (.builtin "object.__class__") "__get__" = some (some (.builtin "getset_descriptor.__get__"))) (htk : PySem.W.takesIn K (.builtin "object.__class__") = some true)
   (hm : PySem.W.mroIn K C (.type "object") = some true) : zg0 K H (.ref a) (.ref C)
theorem zpm {x : V} {u t : Value} (I : Inv X pins σ H s) (rx : RelV x u) (ty : zg0 X.K H x t) (e : PySem.W.kitOne X.K t c = some b) (h : ∀ tk, Q (.bool b) { s with toks := tk }) :
  wpAny (model X.prog X.w) A (call (.builtin "isinstance") [u, c]) Q E s := by
 cases ty with
 | non => cases (show u = Value.none from rx); exact PySem.W.kia_one PySem.W.kitx_none I.kIn True.intro e (fun z => nomatch z) h
 | bl y => cases (show u = Value.bool y from rx); exact PySem.W.kia_one PySem.W.kitx_bool I.kIn True.intro e (fun z => nomatch z) h
 | int i => obtain ⟨t, q⟩ := (show ∃ t, u = Value.int i t from rx); cases q; exact PySem.W.kia_one PySem.W.kitx_int I.kIn True.intro e (fun z => nomatch z) h
 | str y => obtain ⟨t, q⟩ := (show ∃ t, u = Value.str y t from rx); cases q; exact PySem.W.kia_one PySem.W.kitx_str I.kIn True.intro e (fun z => nomatch z) h
 | flt y => obtain ⟨t, q⟩ := (show ∃ t, u = Value.float y t from rx); cases q; exact PySem.W.kia_one PySem.W.kitx_float I.kIn True.intro e (fun z => nomatch z) h
 | @lst a xs ea =>
  cases (show u = Value.ref a from rx)
  obtain ⟨_, _, n, _, h1⟩ := (show ObjOk X.prog X.w H s.heap a (.lst xs) from I.hok a _ ea)
  exact PySem.W.kia_one PySem.W.kitx_list I.kIn ⟨_, h1, rfl⟩ e (fun z => nomatch z) h
 | @frz a ob xs ea =>
  cases (show u = Value.ref a from rx)
  obtain ⟨_, _, _, n, _, h1⟩ := (show ObjOk X.prog X.w H s.heap a (.frz ob (.lst xs)) from I.hok a _ ea)
  exact PySem.W.kia_one PySem.W.kitx_list I.kIn ⟨_, h1, rfl⟩ e (fun z => nomatch z) h
 | @tup a xs ea =>
  cases (show u = Value.ref a from rx)
  obtain ⟨_, _, _, p⟩ := (show ObjOk X.prog X.w H s.heap a (.tup xs) from I.hok a _ ea)
  obtain ⟨o, h1, h2, _⟩ := p
  exact PySem.W.kia_one PySem.W.kitx_tuple I.kIn ⟨o, h1, h2⟩ e (fun z => nomatch z) h
 | @dK a kvs ea =>
  cases (show u = Value.ref a from rx)
  obtain ⟨_, _, vs, _, p⟩ := (show ObjOk X.prog X.w H s.heap a (.dK kvs) from I.hok a _ ea)
  obtain ⟨o, es, ep, h1, h2, _⟩ := p
  exact PySem.W.kia_one PySem.W.kitx_dict I.kIn ⟨o, h1, h2.1⟩ e (fun z => nomatch z) h
 | @dT a kvs ea =>
  cases (show u = Value.ref a from rx)
  obtain ⟨_, _, xs, _, o, es, ep, h1, h2, _⟩ := (show ObjOk X.prog X.w H s.heap a (.dT kvs) from I.hok a _ ea)
  exact PySem.W.kia_one PySem.W.kitx_dict I.kIn ⟨o, h1, h2.1⟩ e (fun z => nomatch z) h
 | @ins a C dx fs ea cl ha hn htk hm =>
  cases (show u = Value.ref a from rx)
  obtain ⟨mA, O, _⟩ := zta I.hok ea
  obtain ⟨od, J, _⟩ := O.look
  exact PySem.W.kia_one (PySem.W.kitx_own (cl.get _) cl.hd ha hn htk hm) I.kIn J e (fun z => nomatch z) h
end
end L2
namespace L2
open PySem PySem.Spec PyProof.Rows
structure Room (k : Nat) (A : Around) : Prop where
 hd : A.handled = none
 dp : A.depth + 3 * k + 5 < recursionLimit
 un : A.units + 16 * k + 200 < cLine
theorem Room.mono {j k : Nat} {A : Around} (r : Room k A) (h : j ≤ k) : Room j A := ⟨r.hd, by have := r.dp; omega, by have := r.un; omega⟩
theorem Room.deeper {k : Nat} {A : Around} (r : Room (k + 1) A) (env : Env) : Room k (A.deeper env) :=
 ⟨r.hd, by have := r.dp; show A.depth + 1 + 3 * k + 5 < _; omega, by have := r.un; show A.units + 3 + 16 * k + 200 < _; omega⟩
theorem Room.in1 {k : Nat} {A : Around} (r : Room (k + 1) A) : Room k A.in1 :=
 ⟨r.hd, by have := r.dp; show A.depth + 3 * k + 5 < _; omega, by have := r.un; show A.units + 1 + 16 * k + 200 < _; omega⟩
theorem Room.depth {k : Nat} {A : Around} (r : Room k A) : A.depth < recursionLimit := by have := r.dp; omega
def zu2 : TA := fun _ H Q => Q [] H
def zou (ta : TE) (tr : TA) : TA := fun σ H Q => ta σ H fun x H1 => tr σ H1 fun xs H2 => Q (x :: xs) H2
section
variable {X : Cx} {e : Expr} {es : List Expr} {te : TE} {t : TA} {pos : Pos}
theorem zab : PA X [] zu2 := fun _ _ _ _ H Q I h => Calls.spliced_nil ⟨[], H, I, .nil, h⟩
theorem zaa (ha : PE X e te) (hr : PA X es t) (hs : starEach (e :: es) X.env = (false, eval e X.env) :: starEach es X.env := by rfl) : PA X (e :: es) (zou te t) := by
 intro pos pins s σ H Q I h
 rw [hs]
 show wpAny _ _ (spliced ((false, eval e X.env) :: backTo pos (starEach es X.env))) _ _ s
 refine Calls.spliced_cons (thn (ha pins s σ H _ I h) fun u s1 ⟨x, H1, I1, r1, q1⟩ => ?_)
 exact thn (hr pos pins s1 σ H1 _ I1 q1) fun us s2 ⟨xs, H2, I2, r2, q2⟩ => ⟨x :: xs, H2, I2, .cons r1 r2, q2⟩
def zwi (t : TA) : TE := fun σ H Q => t σ H fun xs H1 => xs.length ≤ sizeLine ∧ ∀ p, H1 p = none → Q (.ref p) (upd H1 p (.tup xs))
def zwn (t : TA) : TE := fun σ H Q => t σ H fun xs H1 => xs.length ≤ sizeLine ∧ ∀ p, H1 p = none → Q (.ref p) (upd H1 p (.lst xs))
theorem za8 {x1} (h : PA X es t) : PE X (.Tuple es x1 pos) (zwi t) := by
 intro pins s σ H Q I hq
 refine wpAny_Tuple_spliced (thn (h pos pins s σ H _ I hq) fun us s1 ⟨xs, H1, I1, r, z, q⟩ => ⟨by rw [← r.length]; exact z, ?_⟩)
 have hf : H1 s1.heap.objs.size = none := I1.hok.fresh (Nat.le_refl _)
 refine ⟨.ref s1.heap.objs.size, upd H1 s1.heap.objs.size (.tup xs), I1.laid (t' := s1.toks) (fun b u e => Heap.get?_push_of_some _ e) (Nat.le_refl _) ?_, rfl, q _ hf⟩
 exact ⟨z, us, r, ⟨_, Heap.get?_push_size _ rfl, rfl, _, rfl⟩⟩
theorem zbz (h : PA X es t) : PE X (.List es pos) (zwn t) := by
 intro pins s σ H Q I hq
 refine wpAny_List_spliced (thn (h pos pins s σ H _ I hq) fun us s1 ⟨xs, H1, I1, r, z, q⟩ => ⟨by rw [← r.length]; exact z, ?_⟩)
 have hf : H1 s1.heap.objs.size = none := I1.hok.fresh (Nat.le_refl _)
 refine ⟨.ref s1.heap.objs.size, upd H1 s1.heap.objs.size (.lst xs), I1.laid (t' := s1.toks) (fun b u e => Heap.get?_push_of_some _ e) (Nat.le_refl _) ?_, rfl, q _ hf⟩
 exact ⟨z, us, 0, r, Heap.get?_push_size _ rfl⟩
end
abbrev Sp := List V → Hp → VK → XK → Prop
abbrev CXT := List Env → Hp → Shared → XK → Value → Shared → Prop
structure zpc (P : Program) (w : World) (K : PySem.W.Frag) (mg : Str → Option Value) (base : Heap) (A : Around) (outer : List Env) (s : Shared) (H : Hp) : Prop where
 frames : A.frames = some outer
 mod : Mod K mg base
 bs : ∀ b o, base.get? b = some o → s.heap.get? b = some o ∧ H b = none
 bsz : base.objs.size ≤ s.heap.objs.size
 funs : s.heap.FunFrames base outer
 frf : ∀ b ∈ frs outer, H b = none
 hok : HOk P w H s.heap
 bare : AllBare s.gens
def CE (outer : List Env) (P : Program) (w : World) (H : Hp) (s : Shared) (Q : VK) (u : Value) (s' : Shared) : Prop :=
 ∃ v H', s'.os = s.os ∧ AllBare s'.gens ∧ Un (frs outer) [] H H' s.heap s'.heap ∧ HOk P w H' s'.heap ∧ RelV v u ∧ Q v H'
def CR (CX : CXT) (outer : List Env) (P : Program) (w : World) (H : Hp) (s : Shared) (Q : VK) (E : XK) (r : Result) (s' : Shared) : Prop :=
 match r with
 | .ok (.ret u) => CE outer P w H s Q u s'
 | .ok _ => False
 | .error e => CX outer H s E e s'
structure FnOk (P : Program) (w : World) (K : PySem.W.Frag) (mg : Str → Option Value) (base : Heap) (CX : CXT) (k : Nat) (f : Addr) (fd : FuncData) (ps : List Str) (sp : Sp) : Prop where
 len : ∀ vs H Q E, sp vs H Q E → vs.length = ps.length
 run : ∀ (A : Around) (outer : List Env) (s : Shared) (H : Hp) (args : Args) (us : List Value) (vs : List V) (Q : VK) (E : XK), Room k A → zpc P w K mg base A outer s H → BindsTo s fd args (ps.zip us) → Vals vs us → sp vs H Q E →
  codeAny (model P w) A (.call (.ref f) args) (CR CX outer P w H s Q E) s
theorem FnOk.imp {P : Program} {w : World} {K : PySem.W.Frag} {mg : Str → Option Value} {base : Heap} {CX : CXT} {k : Nat} {f : Addr} {fd : FuncData} {ps : List Str} {sp sp' : Sp} (F : FnOk P w K mg base CX k f fd ps sp)
  (h : ∀ vs H Q E, sp' vs H Q E → sp vs H Q E) : FnOk P w K mg base CX k f fd ps sp' :=
 ⟨fun vs H Q E q => F.len vs H Q E (h _ _ _ _ q), fun A outer s H args us vs Q E hr he hb hv hs => F.run A outer s H args us vs Q E hr he hb hv (h _ _ _ _ hs)⟩
section
variable {X : Cx} {pins : List (Addr × Obj)} {σ : St} {H : Hp} {s s' : Shared}
theorem Inv.env0 (I : Inv X pins σ H s) : zpc X.prog X.w X.K X.mg X.base X.A X.stack s H :=
 ⟨I.ok.frames, I.ok.mod, I.bs, Nat.le_trans I.ok.bsz I.sz, I.stack, I.stkFree, I.hok, I.bare⟩
theorem Inv.after {Q : VK} {u : Value} (I : Inv X pins σ H s) (h : CE X.stack X.prog X.w H s Q u s') : EP X pins σ Q u s' := by
 obtain ⟨v, H', os, bare, un, hok, r, q⟩ := h
 obtain ⟨hh, g, d, t, os'⟩ := s'
 obtain rfl : os' = s.os := os
 exact ⟨v, H', I.call (h' := hh) (g' := g) (d' := d) (t' := t) (ch := []) un hok bare (fun b z => absurd z (by simp)), r, q⟩
end
def zr0 (sp : Sp) (dvs : List V) (E : XK) (t : TA) : TE := fun σ H Q => t σ H fun vs H1 => sp (vs ++ dvs) H1 Q E
def Binds (K : PySem.W.Frag) (fd : FuncData) (ps : List Str) (ds : List Value) : Prop :=
 ∀ (s : Shared) (us : List Value), K.In s.heap → (us ++ ds).length = ps.length → BindsTo s fd ⟨us, []⟩ (ps.zip (us ++ ds))
theorem Binds.all {K : PySem.W.Frag} {fd : FuncData} {ps : List Str} (h : ∀ us : List Value, us.length = ps.length → bindArgs fd ⟨us, []⟩ = pure (ps.zip us)) : Binds K fd ps [] := fun s us _ hl => by
 rw [List.append_nil] at hl ⊢
 exact .of_eq (h us hl)
def zn3 (CX : CXT) (X : Cx) (E : XK) : Prop := ∀ (pins : List (Addr × Obj)) (σ : St) (H : Hp) (s : Shared) (e : Value) (s' : Shared), Inv X pins σ H s → CX X.stack H s E e s' → X.xe e s'
section
variable {X : Cx} {CX : CXT} {k : Nat} {f C : Addr} {fd : FuncData} {ps : List Str} {sp : Sp} {dvs : List V} {ds : List Value} {E : XK} {x m : Str} {p pos apos : Pos} {e o : Expr} {es : List Expr} {ta : TE} {t : TA}
theorem zrn {pins : List (Addr × Obj)} {σ : St} {H : Hp} {s : Shared} {Q : VK} {us : List Value} {vs : List V} (F : FnOk X.prog X.w X.K X.mg X.base CX k f fd ps sp) (hr : Room k X.A) (hb : Binds X.K fd ps ds) (hd : Vals dvs ds) (hx : zn3 CX X E)
  (I : Inv X pins σ H s) (r : Vals vs us) (h : sp (vs ++ dvs) H Q E) : wpAny (model X.prog X.w) X.A (call (.ref f) us) (EP X pins σ Q) X.xe s := by
 have r2 : Vals (vs ++ dvs) (us ++ ds) := r.append hd
 have hl : (us ++ ds).length = ps.length := by rw [← r2.length]; exact F.len _ _ _ _ h
 refine wpAny_call (codeAny_mono (F.run X.A X.stack s H ⟨us, []⟩ (us ++ ds) (vs ++ dvs) Q E hr I.env0 (hb s us I.kIn hl) r2 h) fun r s' hq => ?_)
 cases r with
 | error e => exact hx pins σ H s e s' I hq
 | ok fl =>
  cases fl with
  | ret u => exact I.after hq
  | next => exact False.elim hq
  | brk => exact False.elim hq
  | cont => exact False.elim hq
theorem zow (F : FnOk X.prog X.w X.K X.mg X.base CX k f fd ps sp) (hr : Room k X.A) (hg : Gl X x) (hm : X.mg x = some (.ref f)) (hk : PySem.W.keepIn X.K (.ref f) = true) (hb : Binds X.K fd ps ds) (hd : Vals dvs ds) (hx : zn3 CX X E)
  (ha : PA X (e :: es) t) (hdb : (x == ("__debug__" : Str)) = false := by decide) (he : starEach (e :: es) X.env = (false, eval e X.env) :: starEach es X.env := by rfl) (hpl : (backTo pos (starEach es X.env)).any (·.1) = false := by rfl) :
  PE X (.Call (.Name x p) (e :: es) [] pos) (zr0 sp dvs E t) := by
 intro pins s σ H Q I h
 refine wpAny_Call_Name_kw (zok I hg hm ?_ hdb)
 refine PySem.W.callWith_K (h₀ := X.base) I.ok.mod.kin hk (thn (ha pos pins s σ H _ I h) fun us s1 ⟨vs, H1, I1, r, q⟩ => ⟨I1.kIn, ?_⟩) he hpl
 exact zrn F hr hb hd hx I1 r q
end
def PK (X : Cx) (kws : List Keyword) (t : TA) : Prop :=
 ∀ (pos : Pos) (pins : List (Addr × Obj)) (s : Shared) (σ : St) (H : Hp) (Q : List V → Hp → Prop), Inv X pins σ H s → t σ H Q → wpAny (model X.prog X.w) X.A (evalAll ((backToKw pos (keywordEach kws X.env)).map (·.2))) (AP X pins σ Q) X.xe s
section
variable {X : Cx} {CX : CXT} {k : Nat} {f C : Addr} {fd : FuncData} {ps ks : List Str} {sp : Sp} {E : XK} {x m : Str} {p pos apos kpos : Pos} {e o : Expr} {es : List Expr} {kws : List Keyword} {te ta : TE} {t tk : TA} {nm : Option Str}
theorem zt4 : PK X [] zu2 := fun _ _ _ _ H Q I h => wpAny_evalAll_nil ⟨[], H, I, .nil, h⟩
theorem zte (ha : PE X e te) (hr : PK X kws t) : PK X (⟨nm, e, kpos⟩ :: kws) (zou te t) := by
 intro pos pins s σ H Q I h
 show wpAny _ _ (evalAll ((do let v ← eval e X.env; standAt pos; pure v) :: (backToKw pos (keywordEach kws X.env)).map (·.2))) _ _ s
 refine wpAny_evalAll_cons (wpAny_bind (thn (ha pins s σ H _ I h) fun u s1 ⟨x, H1, I1, r1, q1⟩ => wpAny_bind (wpAny_standAt (wpAny_pure ?_))))
 exact thn (hr pos pins s1 σ H1 _ I1 q1) fun us s2 ⟨xs, H2, I2, r2, q2⟩ => ⟨x :: xs, H2, I2, .cons r1 r2, q2⟩
variable {g : List Value → List Value → List Value} {gV : List V → List V → List V}
end
structure zas (N P : List Str) (sc : Scope) : Prop where
 kind : sc.kind = .function
 co : sc.isCoroutine = false
 gen : sc.isGenerator = false
 nd : N.Nodup
 pre : N.take P.length = P
 par : ∀ x ∈ P, sc.names.lookup x = some .local ∨ sc.names.lookup x = some .cell
 nofree : ∀ y ∈ sc.names, y.2 ≠ .free
theorem zkn {kindOf : Str → Option NameKind} {x : Str} : ∀ {binds : List (Str × Value)} {m : Str → Option Value}, (∀ v, (x, v) ∉ binds) → bindL kindOf binds m x = m x
 | [], _, _ => rfl
 | (n, v) :: r, m, h => by
  unfold bindL
  rw [zkn fun w hw => h w (List.mem_cons_of_mem _ hw)]
  split
  ·have : x ≠ n := by rintro rfl; exact h v List.mem_cons_self
   simp [this]
  ·rfl
theorem zkl {kindOf : Str → Option NameKind} {x : Str} : ∀ {binds : List (Str × Value)} {m : Str → Option Value}, (∀ v, (x, v) ∉ binds) → bindC kindOf binds m x = m x
 | [], _, _ => rfl
 | (n, v) :: r, m, h => by
  unfold bindC
  rw [zkl fun w hw => h w (List.mem_cons_of_mem _ hw)]
  split
  ·rfl
  ·have : x ≠ n := by rintro rfl; exact h v List.mem_cons_self
   simp [this]
theorem zke {kindOf : Str → Option NameKind} {x : Str} {v : Value} : ∀ {P : List Str} {vs : List Value} {i : Nat} {m : Str → Option Value}, P.Nodup → P[i]? = some x → vs[i]? = some v → kindOf x = some .local →
  bindL kindOf (P.zip vs) m x = some v
 | [], _, _, _, _, h, _, _ => by simp at h
 | _ :: _, [], _, _, _, _, h, _ => by simp at h
 | p :: P, w :: vs, 0, m, nd, h1, h2, hk => by
  simp at h1 h2; subst h1; subst h2
  show bindL kindOf ((p, w) :: P.zip vs) m p = _
  unfold bindL
  rw [zkn fun v hv => (List.nodup_cons.mp nd).1 (List.of_mem_zip hv).1, if_pos hk]
  simp
 | p :: P, w :: vs, i + 1, m, nd, h1, h2, hk => by
  show bindL kindOf ((p, w) :: P.zip vs) m x = _
  unfold bindL
  exact zke (i := i) (List.nodup_cons.mp nd).2 (by simpa using h1) (by simpa using h2) hk
theorem zks {kindOf : Str → Option NameKind} {x : Str} {v : Value} : ∀ {P : List Str} {vs : List Value} {i : Nat} {m : Str → Option Value}, P.Nodup → P[i]? = some x → vs[i]? = some v → kindOf x ≠ some .local →
  bindC kindOf (P.zip vs) m x = some v
 | [], _, _, _, _, h, _, _ => by simp at h
 | _ :: _, [], _, _, _, _, h, _ => by simp at h
 | p :: P, w :: vs, 0, m, nd, h1, h2, hk => by
  simp at h1 h2; subst h1; subst h2
  show bindC kindOf ((p, w) :: P.zip vs) m p = _
  unfold bindC
  rw [zkl fun v hv => (List.nodup_cons.mp nd).1 (List.of_mem_zip hv).1, if_neg hk]
  simp
 | p :: P, w :: vs, i + 1, m, nd, h1, h2, hk => by
  show bindC kindOf ((p, w) :: P.zip vs) m x = _
  unfold bindC
  exact zks (i := i) (List.nodup_cons.mp nd).2 (by simpa using h1) (by simpa using h2) hk
def zg5 (N : List Str) (vs : List V) : St := vs.map some ++ List.replicate (N.length - vs.length) none
def zcj (CX : CXT) (P : Program) (w : World) (K : PySem.W.Frag) (mg : Str → Option Value) (base : Heap) (N : List Str) (qual : Str) (scope : Scope) (f : Addr) (cd : Value) (A : Around) (outer : List Env) (s : Shared) (H : Hp) (E : XK) : Cx where
 prog := P
 w := w
 K := K
 mg := mg
 base := base
 A := A.deeper (envOfC qual scope s.heap.objs.size f cd)
 N := N
 s₀ := s
 H₀ := H
 env := envOfC qual scope s.heap.objs.size f cd
 outer := outer
 stack := envOfC qual scope s.heap.objs.size f cd :: outer
 ex := []
 calm := true
 fn := fun _ => true
 pn := []
 xe := fun e s' => wpAny (model P w) (A.deeper (envOfC qual scope s.heap.objs.size f cd)) (leaving (envOfC qual scope s.heap.objs.size f cd) e) (fun _ s'' => CX outer H s E e s'') (fun e' s'' => CX outer H s E e' s'') s'
theorem zm4 {sc : Scope} {n : Nat} {x : Str} (h : sc.names.lookup x = some .cell) : ∃ c, (cellsFrom n sc.names []).lookup x = some c := by
 have q := PySem.W.cellsFrom_some sc.names n [] (.inl h)
 exact Option.isSome_iff_exists.mp q
theorem zpq {CX : CXT} {P : Program} {w : World} {K : PySem.W.Frag} {mg : Str → Option Value} {base : Heap} {N ps : List Str} {qual : Str} {scope : Scope} {f : Addr} {cd : Value} {A : Around} {outer : List Env} {s s1 : Shared} {H : Hp} {E : XK} {us : List Value} {vs : List V}
  (S : zas N ps scope) (hd : A.handled = none) (e0 : zpc P w K mg base A outer s H) (hl : vs.length = ps.length) (r : Vals vs us)
  (x : InCallC s s.heap.objs.size (bindL (envOfC qual scope s.heap.objs.size f cd).kindOf (ps.zip us) fun _ => none) (cellsFrom (s.heap.objs.size + 1) scope.names []) (bindC (envOfC qual scope s.heap.objs.size f cd).kindOf (ps.zip us) fun _ => none) s1) :
  Inv (zcj CX P w K mg base N qual scope f cd A outer s H E) [] (zg5 N vs) H s1 := by
 have hpl : ps.length ≤ N.length := by have := congrArg List.length S.pre; rw [List.length_take] at this; omega
 obtain ⟨h1, tk, rfl, hk⟩ := x.done
 have noA : ∀ b : Addr, b ∉ (zcj CX P w K mg base N qual scope f cd A outer s H E).ex := fun b z => absurd (show b ∈ ([] : List Addr) from z) (by simp)
 refine ⟨⟨e0.mod, S.kind, rfl, rfl, Nat.le_refl _, fun y z c h1 h2 => ?_, fun y hy => ?_, fun y c _ h => ?_, fun _ => hd, Around.frames_deeper e0.frames, .inr ⟨rfl, rfl⟩, fun b z => absurd z (noA b), e0.bs, e0.bsz, fun b _ _ => noA b, fun b z => absurd z (noA b), e0.funs, e0.frf⟩,
  rfl, e0.bare, Un.kept hk, ⟨_, x.toInCall.ns, fun i y v h1 h2 h3 => ?_⟩, fun y c h => ⟨_, x.cell y c h⟩, e0.hok.fresh (Nat.le_refl _), fun y c h => ?_, fun p hp => absurd (show p ∈ ([] : List (Addr × Obj)) from hp) (by simp), e0.hok.kept hk, ?_⟩
 ·exact name_of_addr x.apart (PySem.mem_of_lookup h1) (PySem.mem_of_lookup h2)
 ·have hy : scope.names.lookup y = some .cell ∨ scope.names.lookup y = some .free := hy
  rcases hy with hy | hy
  ·exact zm4 hy
  ·exact absurd rfl (S.nofree _ (PySem.mem_of_lookup hy))
 ·exact Nat.le_of_lt (x.above y c (PySem.mem_of_lookup h))
 ·have hi : i < vs.length := by
   unfold zg5 at h2
   by_cases hi : i < vs.length
   ·exact hi
   ·rw [List.getElem?_append_right (by simpa using hi)] at h2
    rw [List.getElem?_replicate] at h2
    split at h2 <;> cases h2
  have ha : vs[i]? = some v := by
   unfold zg5 at h2
   rw [List.getElem?_append_left (by simpa using hi), List.getElem?_map] at h2
   cases e : vs[i]? with
   | none => rw [e] at h2; cases h2
   | some a => rw [e] at h2; cases h2; rfl
  obtain ⟨u, hu, rv⟩ := r.get ha
  have hp : ps[i]? = some y := by
   rw [← S.pre, List.getElem?_take_of_lt (by omega)]; exact h1
  have ndP : ps.Nodup := by rw [← S.pre]; exact S.nd.sublist (List.take_sublist _ _)
  refine ⟨u, rv, ?_⟩
  rcases S.par y (List.mem_of_getElem? hp) with k | k
  ·exact .inl ⟨k, zke ndP hp hu k⟩
  ·obtain ⟨c, e⟩ := zm4 (n := s.heap.objs.size + 1) k
   refine .inr ⟨.inl k, c, e, ?_⟩
   have q := x.cell y c e
   rw [zks ndP hp hu (by show scope.names.lookup y ≠ _; rw [k]; decide)] at q
   exact q
 ·exact e0.hok.fresh (Nat.le_of_lt (x.above y c (PySem.mem_of_lookup h)))
 ·unfold zg5
  show _ = N.length
  rw [List.length_append, List.length_map, List.length_replicate]
  omega
theorem zty {CX : CXT} {P : Program} {w : World} {K : PySem.W.Frag} {mg : Str → Option Value} {base : Heap} {k : Nat} {f : Addr} {name qual : Str} {params : Arguments} {body : List Stmt} {scope : Scope} {dV kV doc pm cdv ct oc : Value} {an od : Option Addr}
  {osl : Array (Option Value)} {N ps : List Str} {sp : Sp} (lk : K.lookup f = some ⟨oc, od, .func (PySem.W.fnOf name qual params body scope dV kV doc pm an cdv ct), osl⟩) (hcd : PySem.W.codeIn K cdv qual = true) (S : zas N ps scope)
  (len : ∀ vs H Q E, sp vs H Q E → vs.length = ps.length)
  (hbody : ∀ (A : Around) (outer : List Env) (s : Shared) (H : Hp) (vs : List V) (Q : VK) (E : XK), Room k (A.deeper (envOfC qual scope s.heap.objs.size f cdv)) → sp vs H Q E →
   ∃ t, PSs (zcj CX P w K mg base N qual scope f cdv A outer s H E) body t ∧ t { nx := fun _ H' => Q .non H', rt := Q } (zg5 N vs) H) :
  FnOk P w K mg base CX (k + 1) f (PySem.W.fnOf name qual params body scope dV kV doc pm an cdv ct) ps sp := by
 refine ⟨len, fun A outer s H args us vs Q E hr e0 hb r hsp => ?_⟩
 have hl := len _ _ _ _ hsp
 have KX : K.In s.heap := e0.mod.kin.keeps fun b o e => (e0.bs b o e).1
 have lim : s.heap.NoLimit := e0.mod.nolimit.keeps fun b o e => (e0.bs b o e).1
 have hkind : ∀ y ∈ ps.zip us, scope.names.lookup y.1 = some .local ∨ (scope.names.lookup y.1 = some .cell ∧ ((cellsFrom (s.heap.objs.size + 1) scope.names []).lookup y.1).isSome = true) := fun ⟨n, v⟩ hy => by
  rcases S.par n (List.of_mem_zip hy).1 with q | q
  ·exact .inl q
  ·exact .inr ⟨q, PySem.W.cellsFrom_some _ _ _ (.inl q)⟩
 refine codeAny_call_function hr.depth (KX _ _ lk) rfl S.co S.gen rfl (PySem.W.codeRec_of KX hcd) (hb _ _ _ _ ?_)
 refine wpAny_newFunctionEnv_cells S.kind hkind fun env he s1 x => ?_
 subst he
 refine ⟨lim.keeps x.toInCall.keep, codeAny_func ?_⟩
 obtain ⟨t, ht, hq⟩ := hbody A outer s H vs Q E (hr.deeper _) hsp
 have I : Inv (zcj CX P w K mg base N qual scope f cdv A outer s H E) [] (zg5 N vs) H s1 := zpq S hr.hd e0 hl r x
 refine wpAny_mono (ht [] s1 (zg5 N vs) H _ I hq) (fun fl s' hs => ?_) fun e s' hs => hs
 have fin : ∀ {σ' : St} {H' : Hp} {v : V} {u : Value}, Inv (zcj CX P w K mg base N qual scope f cdv A outer s H E) [] σ' H' s' → RelV v u → Q v H' → CE outer P w H s Q u s' :=
  fun {σ' H' v u} J rv q => ⟨v, H', J.os, J.bare, J.base, J.hok, rv, q⟩
 cases fl with
 | ret u =>
  obtain ⟨v, σ', H', J, rv, q⟩ := hs
  exact fin J rv q
 | next =>
  obtain ⟨σ', H', J, q⟩ := hs
  exact fin (v := V.non) (u := Value.none) J rfl q
 | brk =>
  obtain ⟨_, _, _, q⟩ := hs
  exact False.elim q
 | cont =>
  obtain ⟨_, _, _, q⟩ := hs
  exact False.elim q
end L2
namespace L2
open PySem PySem.Spec PyProof.Rows
section
variable {X : Cx} {x : Str} {p pos : Pos} {e : Expr} {es : List Expr} {t : TA} {id T : String} {r : List V → Hp → VK → Prop}
def tCB (r : List V → Hp → VK → Prop) (t : TA) : TE := fun σ H Q => t σ H fun vs H1 => r vs H1 Q
theorem zaw (hc : zc6 X (.builtin id) r) (hg : Gl X x) (hm : X.mg x = none) (hv : bootBuiltins x = some (.builtin id)) (ha : PA X (e :: es) t) (hn : x ≠ "__name__" := by decide) (hdb : (x == ("__debug__" : Str)) = false := by decide)
  (he : starEach (e :: es) X.env = (false, eval e X.env) :: starEach es X.env := by rfl) (hpl : (backTo pos (starEach es X.env)).any (·.1) = false := by rfl) : PE X (.Call (.Name x p) (e :: es) [] pos) (tCB r t) := by
 intro pins s σ H Q I h
 refine wpAny_Call_Name_kw (ze2 I hg hm hv ?_ hn hdb)
 exact PyProof.Rows.callWith_builtin1 (thn (ha pos pins s σ H _ I h) fun us s1 ⟨vs, H1, I1, r1, q1⟩ => hc pins s1 σ H1 vs us Q I1 r1 q1) he hpl
theorem zbj (hc : zc6 X (.type T) r) (hg : Gl X x) (hm : X.mg x = none) (hv : bootBuiltins x = some (.type T)) (ha : PA X (e :: es) t) (hn : x ≠ "__name__" := by decide) (hdb : (x == ("__debug__" : Str)) = false := by decide)
  (he : starEach (e :: es) X.env = (false, eval e X.env) :: starEach es X.env := by rfl) (hpl : (backTo pos (starEach es X.env)).any (·.1) = false := by rfl) : PE X (.Call (.Name x p) (e :: es) [] pos) (tCB r t) := by
 intro pins s σ H Q I h
 refine wpAny_Call_Name_kw (ze2 I hg hm hv ?_ hn hdb)
 exact PyProof.Rows.callWith_type1 (thn (ha pos pins s σ H _ I h) fun us s1 ⟨vs, H1, I1, r1, q1⟩ => hc pins s1 σ H1 vs us Q I1 r1 q1) he hpl
end
end L2
namespace HT
open PySem PyProof.Rows
section
open PySem.SeqAt
open PySem.AutoSeq1 (wpAny_loadPart')
open PySem.MeetsSeq PySem.MeetsSeq2 PySem.MeetsSeq3
end
section
variable {prog : Program} {w : World} {A : Around} {E : Value → Shared → Prop} {s : Shared}
end
end HT
namespace L2
open PySem PySem.Spec PyProof.Rows
theorem zi0 {ns : List Int} : ∀ {us : List Value}, Vals (ns.map V.int) us → IntsAre us ns := by
 induction ns with
 | nil => intro us r; rw [List.map_nil] at r; cases r; exact .nil
 | cons n ns ih =>
  intro us r
  rw [List.map_cons] at r
  cases r with
  | cons r1 r2 =>
   obtain ⟨t, e⟩ := r1
   subst e
   exact .cons n t (ih r2)
section
variable {X : Cx} {e : Expr} {te : TE} {lo hi : Option Expr} {tl th : TO} {pos p2 : Pos}
end
end L2
namespace L2
open PySem PySem.Spec PyProof.Rows
def ixN (n : Nat) (i : Int) : Option Nat := if 0 ≤ i then (if i < n then some i.toNat else none) else if -(n : Int) ≤ i then some (i + n).toNat else none
def atI {α : Type} (xs : List α) (i : Int) : Option α := (ixN xs.length i).bind fun j => xs[j]?
theorem zoi {n : Nat} {i : Int} {j : Nat} (h : ixN n i = some j) : seqIndex? i n = some j ∧ j < n ∧ -(n : Int) ≤ i ∧ i < n := by
 unfold ixN at h
 by_cases h0 : 0 ≤ i
 ·rw [if_pos h0] at h
  by_cases h1 : i < n
  ·rw [if_pos h1] at h
   have e : i.toNat = j := Option.some.inj h
   exact ⟨by rw [seqIndex_of h0 h1, e], by omega, by omega, h1⟩
  ·rw [if_neg h1] at h; cases h
 ·rw [if_neg h0] at h
  by_cases h1 : -(n : Int) ≤ i
  ·rw [if_pos h1] at h
   have e : (i + n).toNat = j := Option.some.inj h
   exact ⟨by rw [seqIndex_neg (by omega) h1, e], by omega, h1, by omega⟩
  ·rw [if_neg h1] at h; cases h
theorem zoh {α : Type} {xs : List α} {i : Int} {v : α} (h : atI xs i = some v) : ∃ j, seqIndex? i xs.length = some j ∧ xs[j]? = some v ∧ j < xs.length ∧ -(xs.length : Int) ≤ i ∧ i < xs.length := by
 unfold atI at h
 cases e : ixN xs.length i with
 | none => rw [e] at h; cases h
 | some j =>
  rw [e] at h
  obtain ⟨h1, h2, h3, h4⟩ := zoi e
  exact ⟨j, h1, h, h2, h3, h4⟩
theorem zb9 {α : Type} {xs : List α} {j : Nat} {v : α} (h : xs[j]? = some v) : atI xs (j : Int) = some v := by
 have hj : j < xs.length := (List.getElem?_eq_some_iff.mp h).1
 have e : ixN xs.length (j : Int) = some j := by
  unfold ixN
  rw [if_pos (by omega), if_pos (by omega)]; simp
 unfold atI; rw [e]; exact h
def zsr (b : Expr) : Prop := ∀ o i, subscripted b false o i = operate [o, i] (getItem o i)
def IxR (X : Cx) (r : R2) : Prop :=
 ∀ (value slice : Expr) (pins : List (Addr × Obj)) (s : Shared) (σ : St) (H : Hp) (x y : V) (v u : Value) (Q : VK), Inv X pins σ H s → RelV x v → RelV y u → r x y H Q →
  subscripted slice false v u = operate [v, u] (getItem v u) → wpAny (model X.prog X.w) X.A (subscriptTail value slice v u) (EP X pins σ Q) X.xe s
def MtR (X : Cx) (id : String) (r : V → List V → Hp → VK → Prop) : Prop :=
 ∀ (pins : List (Addr × Obj)) (s : Shared) (σ : St) (H : Hp) (x : V) (xs : List V) (v : Value) (us : List Value) (Q : VK), Inv X pins σ H s → RelV x v → Vals xs us → r x xs H Q →
  wpAny (model X.prog X.w) X.A (call (.builtin id) (v :: us)) (EP X pins σ Q) X.xe s
section
variable {X : Cx} {a b : Expr} {ta tb : TE} {pos : Pos}
theorem zan {r : R2} (hr : IxR X r) (ha : PE X a ta) (hb : PE X b tb) (hs : zsr b) : PE X (.Subscript a b pos) (tOp r ta tb) := by
 intro pins s σ H Q I h
 exact Subscript_ (zuh ha hb I h fun v u s2 x y H2 I2 rx ry q => hr a b pins s2 σ H2 x y v u Q I2 rx ry q (hs _ _))
def zvg (K : PySem.W.Frag) : R2 := fun x y H Q => ∃ p xs i v, x = .ref p ∧ y = .int i ∧ SqL K H p xs ∧ atI xs i = some v ∧ Q v H
def zvn (K : PySem.W.Frag) : R2 := fun x y H Q => ∃ p xs i v, x = .ref p ∧ y = .int i ∧ SqT K H p xs ∧ atI xs i = some v ∧ Q v H
theorem zs8 : IxR X (zvg X.K) := by
 intro value slice pins s σ H x y v u Q I rx ry h hs
 obtain ⟨p, xs, i, z, rfl, rfl, hq, he, q⟩ := h
 cases rx
 obtain ⟨t, rfl⟩ := ry
 obtain ⟨its, r, pl, hz⟩ := I.list hq
 obtain ⟨j, h1, h2, h3, h4, h5⟩ := zoh he
 obtain ⟨w, ew, rw'⟩ := r.get h2
 have hl := r.length
 have hn := ziv
 have fin : EP X pins σ Q w s := ⟨z, H, I, rw', q⟩
 by_cases h0 : 0 ≤ i
 ·have hj : i.toNat = j := by
   rw [seqIndex_of h0 h5] at h1
   exact Option.some.inj h1
  exact item_listR pl.isList h0 (by omega) (by rw [hj]; simpa using ew) fin hs
 ·have hj : (i + (its.toArray.size : Int)).toNat = j := by
   rw [seqIndex_neg (by omega) h4] at h1
   rw [List.size_toArray, ← hl]
   exact Option.some.inj h1
  exact subscriptTail_builtinR (x := w) pl.isList.typeIs slot_list_getitem.lookup
   (wpAny_getItem_list_neg (Q := fun r s' => r = w ∧ EP X pins σ Q r s') pl.isList (by omega) (by rw [List.size_toArray] <;> omega) (by omega) (by rw [hj]; simpa using ew) ⟨rfl, fin⟩) hs
theorem zld : IxR X (zvn X.K) := by
 intro value slice pins s σ H x y v u Q I rx ry h hs
 obtain ⟨p, xs, i, z, rfl, rfl, hq, he, q⟩ := h
 cases rx
 obtain ⟨t, rfl⟩ := ry
 obtain ⟨its, r, pl, hz⟩ := I.tuple hq
 obtain ⟨j, h1, h2, h3, h4, h5⟩ := zoh he
 obtain ⟨w, ew, rw'⟩ := r.get h2
 have hl := r.length
 have hn := ziv
 have fin : EP X pins σ Q w s := ⟨z, H, I, rw', q⟩
 exact subscriptTail_builtinR (x := w) pl.typeIs slot_tuple_getitem.lookup
  (getItem_tuple (j := j) (Q := fun r s' => r = w ∧ EP X pins σ Q r s') pl (by omega) (by omega) (by rw [List.size_toArray, ← hl]; exact h1) (by simpa using ew) ⟨rfl, fin⟩) hs
theorem znk (its : List Value) (n j : Nat) (u : Value) : Obj.mapSeq (·.setIfInBounds j u) { cls := .type "list", data := .seq its.toArray n } = { cls := .type "list", data := .seq (its.set j u).toArray n } := by
 simp [Obj.mapSeq]
theorem Inv.lst {pins : List (Addr × Obj)} {σ : St} {H : Hp} {s : Shared} {p : Addr} {xs : List V} (I : Inv X pins σ H s) (h : H p = some (.lst xs)) :
  ∃ (its : List Value) (n : Nat), Vals xs its ∧ s.heap.get? p = some { cls := .type "list", data := .seq its.toArray n } ∧ xs.length ≤ sizeLine := by
 obtain ⟨z, its, n, r, e⟩ := I.hok p _ h
 exact ⟨its, n, r, e, z⟩
theorem Inv.lstUpd {pins : List (Addr × Obj)} {σ : St} {H : Hp} {s : Shared} {p : Addr} {xs ys : List V} {its its' : List Value} {n n' : Nat} {f : Obj → Obj} (I : Inv X pins σ H s) (h : H p = some (.lst xs))
  (ho : s.heap.get? p = some { cls := .type "list", data := .seq its.toArray n }) (hf : f { cls := .type "list", data := .seq its.toArray n } = { cls := .type "list", data := .seq its'.toArray n' }) (r : Vals ys its') (hz : ys.length ≤ sizeLine) (t : Nat) :
  Inv X pins σ (upd H p (.lst ys)) { s with heap := s.heap.update p f, toks := t } := by
 have e : (s.heap.update p f).get? p = some { cls := .type "list", data := .seq its'.toArray n' } := by
  rw [Heap.get?_update_self f ho (by rw [hf] <;> rfl), hf]
 refine I.write (x := p) (e := p) (by rw [h]; trivial) (.inl rfl) (fun b u hb q => (Heap.get?_update_other _ _ (Ne.symm hb)).trans q) ⟨_, e⟩ ?_
 exact ⟨hz, its', n', r, e⟩
def zvw : V → V → V → Hp → (Hp → Prop) → Prop := fun o i v H Q => ∃ p xs k j, o = .ref p ∧ i = .int k ∧ H p = some (.lst xs) ∧ ixN xs.length k = some j ∧ Q (upd H p (.lst (xs.set j v)))
theorem zqv : zvu X zvw := by
 intro pins s σ H o i v ov iv u Q I ro ri rv h
 obtain ⟨p, xs, k, j, rfl, rfl, hp, hj, q⟩ := h
 cases ro
 obtain ⟨t, rfl⟩ := ri
 obtain ⟨its, n, r, ho, hz⟩ := I.lst hp
 obtain ⟨h1, h2, h3, h4⟩ := zoi hj
 have hl := r.length
 have hn := ziv
 have I' : Inv X pins σ (upd H p (.lst (xs.set j v))) { s with heap := s.heap.update p (Obj.mapSeq (·.setIfInBounds j u)) } :=
  I.lstUpd hp ho (znk its n j u) (r.set rv j) (by rw [List.length_set]; exact hz) s.toks
 by_cases h0 : 0 ≤ k
 ·have hk : k.toNat = j := by
   rw [seqIndex_of h0 h4] at h1
   exact Option.some.inj h1
  exact PySem.W.ki_setAt ho h0 (by omega) (by rw [List.size_toArray, ← hl]; exact h4) (by rw [hk]; exact ⟨_, I', q⟩)
 ·have hk : (k + (its.toArray.size : Int)).toNat = j := by
   rw [seqIndex_neg (by omega) h3] at h1
   rw [List.size_toArray, ← hl]
   exact Option.some.inj h1
  exact PySem.W.ki_setBack ho (by omega) (by rw [List.size_toArray, ← hl]; exact h3) (by omega) (by rw [hk]; exact ⟨_, I', q⟩)
def zgs : V → Bool
 | .non => true
 | .bl _ => true
 | .int _ => true
 | .str _ => true
 | _ => false
def eqV : V → V → Bool
 | .non, .non => true
 | .bl a, .bl b => a == b
 | .bl a, .int b => (if a then 1 else 0) == b
 | .int a, .bl b => a == (if b then 1 else 0)
 | .int a, .int b => a == b
 | .str a, .str b => a == b
 | _, _ => false
theorem zuk {A : Around} {s : Shared} {y x : V} {u v : Value} (ry : RelV y u) (rx : RelV x v) (fy : zgs y = true) (fx : zgs x = true) : SeqAt.EqAt A s u v (eqV y x) := by
 cases y with
 | non =>
  cases ry
  cases x with
  | non => cases rx; exact SeqAt.EqAt.same _
  | bl b => cases rx; exact SeqAt.EqAt.none_bool b
  | int b => obtain ⟨t, rfl⟩ := rx; exact SeqAt.EqAt.none_int b t
  | str b => obtain ⟨t, rfl⟩ := rx; exact SeqAt.EqAt.none_str b t
  | _ => exact absurd (show false = true from fx) Bool.false_ne_true
 | bl a =>
  cases ry
  cases x with
  | non => cases rx; exact SeqAt.EqAt.bool_none a
  | bl b => cases rx; exact SeqAt.EqAt.bool_bool a b
  | int b => obtain ⟨t, rfl⟩ := rx; exact SeqAt.EqAt.bool_int a b t
  | str b => obtain ⟨t, rfl⟩ := rx; exact SeqAt.EqAt.bool_str a b t
  | _ => exact absurd (show false = true from fx) Bool.false_ne_true
 | int a =>
  obtain ⟨t', rfl⟩ := ry
  cases x with
  | non => cases rx; exact SeqAt.EqAt.int_none a t'
  | bl b => cases rx; exact SeqAt.EqAt.int_bool a t' b
  | int b => obtain ⟨t, rfl⟩ := rx; exact SeqAt.EqAt.int_int a t' b t
  | str b => obtain ⟨t, rfl⟩ := rx; exact SeqAt.EqAt.int_str a t' b t
  | _ => exact absurd (show false = true from fx) Bool.false_ne_true
 | str a =>
  obtain ⟨t', rfl⟩ := ry
  cases x with
  | non => cases rx; exact SeqAt.EqAt.str_none a t'
  | bl b => cases rx; exact SeqAt.EqAt.str_bool a t' b
  | int b => obtain ⟨t, rfl⟩ := rx; exact SeqAt.EqAt.str_int a t' b t
  | str b => obtain ⟨t, rfl⟩ := rx; exact SeqAt.EqAt.str_str a t' b t
  | _ => exact absurd (show false = true from fx) Bool.false_ne_true
 | _ => exact absurd (show false = true from fy) Bool.false_ne_true
def eqU (x : V) (u : Value) : Bool := match u with
 | .none => eqV .non x
 | .bool b => eqV (.bl b) x
 | .int i _ => eqV (.int i) x
 | .str z _ => eqV (.str z) x
 | _ => false
theorem zq1 {x y : V} {u : Value} (r : RelV y u) (f : zgs y = true) : eqU x u = eqV y x := by
 cases y with
 | non => cases r; rfl
 | bl b => cases r; rfl
 | int i => obtain ⟨t, rfl⟩ := r; rfl
 | str z => obtain ⟨t, rfl⟩ := r; rfl
 | _ => exact absurd (show false = true from f) Bool.false_ne_true
theorem zk3 {x : V} : ∀ {xs : List V} {us : List Value}, Vals xs us → xs.all zgs = true → us.any (eqU x) = xs.any fun y => eqV y x
 | _, _, .nil, _ => rfl
 | y :: xs, u :: us, .cons r t, f => by
  rw [List.all_cons, Bool.and_eq_true] at f
  rw [List.any_cons, List.any_cons, zq1 r f.1, zk3 t f.2]
theorem zjk {A : Around} {s : Shared} {x : V} {v : Value} (rx : RelV x v) (fx : zgs x = true) : ∀ {xs : List V} {us : List Value}, Vals xs us → xs.all zgs = true → ∀ u ∈ us, SeqAt.EqAt A s u v (eqU x u)
 | _, _, .nil, _ => fun u hu => by cases hu
 | y :: xs, u :: us, .cons r t, f => fun u' hu => by
  rw [List.all_cons, Bool.and_eq_true] at f
  rcases List.mem_cons.mp hu with rfl | hu
  ·rw [zq1 r f.1]; exact zuk r rx f.1 fx
  ·exact zjk rx fx t f.2 u' hu
def inV (x : V) (xs : List V) : Bool := xs.any fun y => eqV y x
def rIn (K : PySem.W.Frag) (neg : Bool) : R2 := fun x y H Q => ∃ p xs, y = .ref p ∧ (SqL K H p xs ∨ SqT K H p xs) ∧ zgs x = true ∧ xs.all zgs = true ∧ Q (.bl (if neg then !inV x xs else inV x xs)) H
theorem zku : OpR X (compareOp .NotIn) (rIn X.K true) := by
 intro pins s σ H x y v u Q I rx ry h
 obtain ⟨p, xs, rfl, hq, fx, fs, q⟩ := h
 cases ry
 rcases hq with hq | hq
 ·obtain ⟨its, r, pl, hz⟩ := I.list hq
  refine SeqAt.notIn_listAt (eqU x) pl.isList (fun w hw => zjk rx fx r fs w (by simpa using hw)) ⟨.bl _, H, I, rfl, ?_⟩
  rw [show its.toArray.any (eqU x) = its.any (eqU x) by simp, zk3 r fs]
  exact q
 ·obtain ⟨its, r, pl, hz⟩ := I.tuple hq
  refine SeqAt.notIn_tupleAt (eqU x) pl (fun w hw => zjk rx fx r fs w (by simpa using hw)) ⟨.bl _, H, I, rfl, ?_⟩
  rw [show its.toArray.any (eqU x) = its.any (eqU x) by simp, zk3 r fs]
  exact q
theorem zk4 : zc6 X (.builtin "len") (fun xs H Q => ∃ p ys, xs = [.ref p] ∧ (SqL X.K H p ys ∨ SqT X.K H p ys) ∧ Q (.int ys.length) H) := by
 intro pins s σ H xs us Q I r h
 obtain ⟨p, ys, rfl, hq, q⟩ := h
 obtain ⟨u, rfl, rx⟩ := zd7 r
 cases rx
 have hn := ziv
 rcases hq with hq | hq
 ·obtain ⟨its, r', pl, hz⟩ := I.list hq
  have hlen := r'.length
  exact Calls.call_len_list pl.isList (by simp only [List.size_toArray] <;> omega) ⟨.int ys.length, H, I.tok _, ⟨s.toks + 1, by rw [List.size_toArray, hlen]⟩, q⟩
 ·obtain ⟨its, r', pl, hz⟩ := I.tuple hq
  have hlen := r'.length
  exact len_tuple pl (by simp only [List.size_toArray] <;> omega) ⟨.int ys.length, H, I.tok _, ⟨s.toks + 1, by rw [List.size_toArray, hlen]⟩, q⟩
theorem zch : zc6 X (.type "list") (fun xs H Q => ∃ p ys, xs = [.ref p] ∧ (SqL X.K H p ys ∨ SqT X.K H p ys) ∧ ∀ l, H l = none → Q (.ref l) (upd H l (.lst ys))) := by
 intro pins s σ H xs us Q I r h
 obtain ⟨p, ys, rfl, hq, q⟩ := h
 obtain ⟨u, rfl, rx⟩ := zd7 r
 cases rx
 have fin : ∀ (its : List Value), Vals ys its → ys.length ≤ sizeLine → ∀ (h' : Heap) (c' : Nat), (∀ b o', s.heap.get? b = some o' → h'.get? b = some o') →
   h'.get? s.heap.objs.size = some { cls := .type "list", dict := none, data := .seq its.toArray c', slots := #[] } → EP X pins σ Q (.ref s.heap.objs.size) { s with heap := h' } := fun its r' hz h' c' kp e =>
  ⟨.ref s.heap.objs.size, _, I.laid (t' := s.toks) kp (Nat.le_refl _) (show ObjOk X.prog X.w _ h' _ (.lst ys) from ⟨hz, its, c', r', e⟩), rfl, q _ (I.hok.fresh (Nat.le_refl _))⟩
 rcases hq with hq | hq
 ·obtain ⟨its, r', pl, hz⟩ := I.list hq
  have hlen := r'.length
  obtain ⟨o, ho, hc, n, hd⟩ := pl.isList
  exact call_list_seq p (.inl rfl) ho hc hd (fun h' c' kp e => fin its r' hz h' c' kp e) (by simp only [List.size_toArray] <;> omega)
 ·obtain ⟨its, r', pl, hz⟩ := I.tuple hq
  have hlen := r'.length
  obtain ⟨o, ho, hc, n, hd⟩ := pl
  exact call_list_seq p (.inr rfl) ho hc hd (fun h' c' kp e => fin its r' hz h' c' kp e) (by simp only [List.size_toArray] <;> omega)
theorem zcw : zc6 X (.type "tuple") (fun xs H Q => ∃ p ys, xs = [.ref p] ∧ ((SqL X.K H p ys ∧ ∀ l, H l = none → Q (.ref l) (upd H l (.tup ys))) ∨ (SqT X.K H p ys ∧ Q (.ref p) H))) := by
 intro pins s σ H xs us Q I r h
 obtain ⟨p, ys, rfl, h⟩ := h
 obtain ⟨u, rfl, rx⟩ := zd7 r
 cases rx
 rcases h with ⟨hq, q⟩ | ⟨hq, q⟩
 ·obtain ⟨its, r', pl, hz⟩ := I.list hq
  have hlen := r'.length
  refine call_tuple_list pl.isList (fun h' kp => ?_) (by simp only [List.size_toArray] <;> omega)
  have I1 : Inv X pins σ H { s with heap := h' } := I.kept (t' := s.toks) kp
  have I2 : Inv X pins σ (upd H h'.objs.size (.tup ys)) { s with heap := h'.push { cls := .type "tuple", data := .seq its.toArray } } :=
   I1.laid (t' := s.toks) (fun b o e => Heap.get?_push_of_some _ e) (Nat.le_refl _) (show ObjOk X.prog X.w _ _ _ (.tup ys) from ⟨hz, its, r', IsTup.new _ _⟩)
  exact ⟨.ref h'.objs.size, _, I2, rfl, q _ (I1.hok.fresh (Nat.le_refl _))⟩
 ·obtain ⟨its, r', pl, hz⟩ := I.tuple hq
  exact call_tuple_same pl ⟨.ref p, H, I, rfl, q⟩
def tyV (K : PySem.W.Frag) (T : String) (x : V) (H : Hp) : Prop := match x with
 | .str _ => T = "str"
 | .int _ => T = "int"
 | .ref p => (T = "list" ∧ ∃ xs, SqL K H p xs) ∨ (T = "tuple" ∧ ∃ o, K.lookup p = some o ∧ o.cls = .type "tuple" ∧ o.dict = none) ∨
   (T = "dict" ∧ ((∃ kvs, H p = some (.dK kvs)) ∨ ∃ kvs, H p = some (.dT kvs))) ∨ (T = "set" ∧ ∃ S n, H p = some (.set S n))
 | _ => False
theorem zrv {pins : List (Addr × Obj)} {σ : St} {H : Hp} {s : Shared} {T : String} {x : V} {v : Value} (I : Inv X pins σ H s) (r : RelV x v) (ty : tyV X.K T x H) :
  s.TypeIs v T ∧ ∀ a, v = .ref a → ∃ ob, s.heap.get? a = some ob ∧ ob.dict = none := by
 cases x with
 | str z =>
  obtain ⟨t, rfl⟩ := r
  cases (show T = "str" from ty)
  exact ⟨typeIs_str s z t, fun _ e => nomatch e⟩
 | int i =>
  obtain ⟨t, rfl⟩ := r
  cases (show T = "int" from ty)
  exact ⟨typeIs_int s i t, fun _ e => nomatch e⟩
 | ref p =>
  cases r
  rcases ty with ⟨rfl, xs, hq⟩ | ⟨rfl, o, hk, hc, hd⟩ | ⟨rfl, hk⟩ | ⟨rfl, S, n, hk⟩
  ·obtain ⟨its, _, pl, _⟩ := I.list hq
   refine ⟨pl.isList.typeIs, fun a e => ?_⟩
   cases e
   obtain ⟨o, n, e, c, hd, _⟩ := pl
   exact ⟨o, e, hd⟩
  ·refine ⟨⟨o, I.kIn p o hk, hc⟩, fun a e => ?_⟩
   cases e
   exact ⟨o, I.kIn _ o hk, hd⟩
  ·have z : ∃ o, s.heap.get? p = some o ∧ o.ExactDict := by
    rcases hk with ⟨kvs, hk⟩ | ⟨kvs, hk⟩
    ·obtain ⟨_, _, _, _, o, _, _, e, ex, _⟩ := I.hok p _ hk
     exact ⟨o, e, ex⟩
    ·obtain ⟨_, _, _, _, o, _, _, e, ex, _⟩ := I.hok p _ hk
     exact ⟨o, e, ex⟩
   obtain ⟨o, e, ex⟩ := z
   refine ⟨⟨o, e, ex.1⟩, fun a e2 => ?_⟩
   cases e2
   exact ⟨o, e, ex.2.1⟩
  ·obtain ⟨o, _, _, _, e, ex, _⟩ := I.hok p _ hk
   refine ⟨⟨o, e, ex.1⟩, fun a e2 => ?_⟩
   cases e2
   exact ⟨o, e, ex.2.1⟩
 | _ => exact False.elim ty
def zvo (K : PySem.W.Frag) (T : String) (r : V → List V → Hp → VK → Prop) (to : TE) : TE := fun σ H Q => to σ H fun x H1 => tyV K T x H1 ∧ r x [] H1 Q
def tBM (K : PySem.W.Frag) (T : String) (r : V → List V → Hp → VK → Prop) (to : TE) (t : TA) : TE := fun σ H Q => to σ H fun x H1 => tyV K T x H1 ∧ t σ H1 fun xs H2 => r x xs H2 Q
variable {o e : Expr} {es : List Expr} {to : TE} {t : TA} {name : Str} {apos cpos : Pos} {T id : String} {r : V → List V → Hp → VK → Prop}
theorem zuc (pa : PlainAttrs T) (slot : Slot T name id) (hty : typeOf (.builtin id) = pure (.type "method_descriptor")) (hm : MtR X id r) (ho : PE X o to)
  (hbase : attributeBase o name X.env (eval o X.env) = eval o X.env := by rfl) (hline : (apos.endLine == cpos.line) = true := by rfl) : PE X (.Call (.Attribute o name apos) [] [] cpos) (zvo X.K T r to) := by
 intro pins s σ H Q I h
 refine wpAny_Call_method0_late hbase hline (thn (ho pins s σ H _ I h) fun v s1 ⟨x, H1, I1, r1, ty, q1⟩ => ?_)
 obtain ⟨h1, h2⟩ := zrv I1 r1 ty
 exact ⟨T, id, pa, slot, hty, h1, h2, Calls.callWith_builtin rfl (PySem.evalArgs_none (hm pins s1 σ H1 x [] v [] Q I1 r1 .nil q1))⟩
theorem zvx (pa : PlainAttrs T) (slot : Slot T name id) (hty : typeOf (.builtin id) = pure (.type "method_descriptor")) (hm : MtR X id r) (ho : PE X o to) (ha : PA X (e :: es) t)
  (hbase : attributeBase o name X.env (eval o X.env) = eval o X.env := by rfl)
  (hfew : ((backTo cpos (starEach (e :: es) X.env)).all (fun x => !x.1) && (backToKw cpos (keywordEach [] X.env)).all (fun x => x.1.isSome)
   && decide ((e :: es).length + ([] : List Keyword).length + (if ([] : List Keyword).isEmpty then 0 else 1) < 30)) = true := by rfl)
  (hline : (apos.endLine == cpos.line) = true := by rfl) (hs : starEach (e :: es) X.env = (false, eval e X.env) :: starEach es X.env := by rfl) (hplain : (backTo cpos (starEach es X.env)).any (·.1) = false := by rfl) :
  PE X (.Call (.Attribute o name apos) (e :: es) [] cpos) (tBM X.K T r to t) := by
 intro pins s σ H Q I h
 refine wpAny_Call_method_late hbase hfew hline rfl (thn (ho pins s σ H _ I h) fun v s1 ⟨x, H1, I1, r1, ty, q1⟩ => ?_)
 obtain ⟨h1, h2⟩ := zrv I1 r1 ty
 refine ⟨T, id, pa, slot, hty, h1, h2, ?_⟩
 have hA := ha cpos pins s1 σ H1 _ I1 q1
 rw [hs] at hA ⊢
 refine Calls.callWith_builtin (by show (false || (backTo cpos (starEach es X.env)).any (·.1)) = false; rw [hplain] <;> rfl) (Calls.evalArgs_plain ?_)
 exact thn hA fun us s2 ⟨vs, H2, I2, r2, q2⟩ => hm pins s2 σ H2 x vs v us Q I2 r1 r2 q2
end
end L2
namespace L2
open PySem PySem.Spec PyProof.Rows
def MtM (X : Cx) (id : String) (r : V → List V → Hp → VK → Prop) : Prop :=
 ∀ (pins : List (Addr × Obj)) (s : Shared) (σ : St) (H : Hp) (x : V) (xs : List V) (v : Value) (us : List Value) (Q : VK), Inv X pins σ H s → RelV x v → Vals xs us → r x xs H Q →
  wpAny (model X.prog X.w) X.A (call (.builtin id) (v :: us)) (EP X pins σ Q) X.xe s
theorem Vals.one : ∀ {x : V} {us : List Value}, Vals [x] us → ∃ u, us = [u] ∧ RelV x u
 | _, _, .cons r .nil => ⟨_, rfl, r⟩
theorem Vals.zero : ∀ {us : List Value}, Vals [] us → us = []
 | _, .nil => rfl
theorem Vals.dropLast {xs : List V} {us : List Value} (h : Vals xs us) : Vals xs.dropLast us.dropLast := by
 induction h with
 | nil => exact .nil
 | cons r t ih =>
  cases t with
  | nil => exact .nil
  | cons q t' => exact .cons r ih
theorem zng {α : Type} (l : List α) : l.eraseIdx (l.length - 1) = l.dropLast := by
 induction l with
 | nil => rfl
 | cons a r ih =>
  cases r with
  | nil => rfl
  | cons b r =>
   have e : (a :: b :: r).length - 1 = ((b :: r).length - 1) + 1 := by
    have h1 : (a :: b :: r).length = r.length + 2 := rfl
    have h2 : (b :: r).length = r.length + 1 := rfl
    omega
   rw [e, List.eraseIdx_cons_succ, ih]
   all_goals rfl
section
variable {X : Cx} {pins : List (Addr × Obj)} {σ : St} {H : Hp} {s : Shared} {l b : Addr} {xs ys zs : List V}
theorem Inv.lset {its its' : List Value} {n : Nat} {f : Array Value → Array Value} {t' : Nat} (I : Inv X pins σ H s) (hH : H l = some (.lst xs))
  (e : s.heap.get? l = some { cls := .type "list", data := .seq its.toArray n }) (hf : f its.toArray = its'.toArray) (hv : Vals ys its') (hz : ys.length ≤ sizeLine) :
  Inv X pins σ (upd H l (.lst ys)) { s with heap := s.heap.update l (Obj.mapSeq f), toks := t' } := by
 have q := PySem.IsL.update e f
 rw [hf] at q
 refine I.write (x := l) (e := l) (by rw [hH]; exact trivial) (.inl rfl) (fun b' u hb hu => (Heap.get?_update_other s.heap (Obj.mapSeq f) (Ne.symm hb)).trans hu) ⟨_, q⟩ ?_
 exact ⟨hz, its', _, hv, q⟩
theorem Inv.lnew {its : List Value} {t' : Nat} (I : Inv X pins σ H s) (hv : Vals ys its) (hz : ys.length ≤ sizeLine) :
  Inv X pins σ (upd H s.heap.objs.size (.lst ys)) { s with heap := s.heap.push { cls := .type "list", data := .seq its.toArray }, toks := t' } :=
 I.laid (fun _ _ q => Heap.get?_push_of_some _ q) (Nat.le_refl _) ⟨hz, its, 0, hv, Heap.get?_push_size _ rfl⟩
theorem Inv.fresh (I : Inv X pins σ H s) : H s.heap.objs.size = none := I.hok.fresh (Nat.le_refl _)
theorem Inv.lstM (I : Inv X pins σ H s) (hH : H l = some (.lst xs)) : xs.length ≤ sizeLine ∧ ∃ (its : List Value) (n : Nat), Vals xs its ∧ xs.length = its.length ∧ s.heap.get? l = some { cls := .type "list", data := .seq its.toArray n } := by
 obtain ⟨z, its, n, r, e⟩ := I.hok l _ hH
 exact ⟨z, its, n, r, r.length, e⟩
end
section
variable {X : Cx}
def zr8 : V → List V → Hp → VK → Prop := fun x vs H Q => ∃ l xs y, x = .ref l ∧ vs = [y] ∧ H l = some (.lst xs) ∧ xs.length < sizeLine ∧ Q .non (upd H l (.lst (xs ++ [y])))
theorem zd0 : MtM X "list.append" zr8 := by
 intro pins s σ H x vs v us Q I rx rv h
 obtain ⟨l, xs, y, rfl, rfl, hH, hz, q⟩ := h
 cases rx
 obtain ⟨u, rfl, ru⟩ := rv.one
 obtain ⟨z, its, n, r, hl, e⟩ := I.lstM hH
 refine call_meets F.slot_list_append ⟨_, e, rfl⟩ F.entry_list_append (F.args_list_append_2 _ _) (PySem.list_append l its.toArray n u (by rw [List.size_toArray]; omega)) ⟨e, ?_⟩
 refine ⟨.non, _, I.lset (its' := its ++ [u]) hH e (by simp) (r.append (.cons ru .nil)) ?_, rfl, q⟩
 rw [List.length_append, List.length_singleton]
 omega
def zv6 : V → List V → Hp → VK → Prop := fun x vs H Q => ∃ l xs y, x = .ref l ∧ vs = [] ∧ H l = some (.lst xs) ∧ xs[xs.length - 1]? = some y ∧ Q y (upd H l (.lst xs.dropLast))
theorem zuu : MtM X "list.pop" zv6 := by
 intro pins s σ H x vs v us Q I rx rv h
 obtain ⟨l, xs, y, rfl, rfl, hH, hy, q⟩ := h
 cases rx
 have hus := rv.zero
 subst hus
 obtain ⟨z, its, n, r, hl, e⟩ := I.lstM hH
 obtain ⟨u, hu, ru⟩ := r.get hy
 have hy' : its.toArray[its.toArray.size - 1]? = some u := by
  show its.toArray[its.length - 1]? = some u
  rw [← Array.getElem?_toList, ← hl]
  exact hu
 refine call_meets F.slot_list_pop ⟨_, e, rfl⟩ F.entry_list_pop (F.args_list_pop_1 _) (MeetsSeq.list_pop_last l its.toArray n u hy' (by rw [List.size_toArray]; omega)) ⟨e, ?_⟩
 refine ⟨y, _, I.lset (its' := its.dropLast) hH e ?_ r.dropLast ?_, ru, q⟩
 ·show its.toArray.eraseIdxIfInBounds (its.toArray.size - 1) = its.dropLast.toArray
  rw [List.size_toArray, List.eraseIdxIfInBounds_toArray, zng]
 ·rw [List.length_dropLast]
  omega
def zwk : R2 := fun x y H Q => ∃ l b xs zs, x = .ref l ∧ y = .ref b ∧ H l = some (.lst xs) ∧ H b = some (.lst zs) ∧ xs.length + zs.length ≤ sizeLine ∧ ∀ p, H p = none → Q (.ref p) (upd H p (.lst (xs ++ zs)))
theorem zn7 : OpR X (binaryOp .Add) zwk := by
 intro pins s σ H x y v u Q I rx ry h
 obtain ⟨l, b, xs, zs, rfl, rfl, hH, hB, hz, q⟩ := h
 cases rx
 cases ry
 obtain ⟨z, its, n, r, hl, e⟩ := I.lstM hH
 obtain ⟨z2, its2, n2, r2, hl2, e2⟩ := I.lstM hB
 refine PySem.P.add_list e e2 ?_ (by rw [List.size_toArray, List.size_toArray]; omega)
 have ea : its.toArray ++ its2.toArray = (its ++ its2).toArray := by simp
 rw [ea]
 exact ⟨.ref _, _, I.lnew (t' := s.toks) (r.append r2) (by rw [List.length_append]; omega), rfl, q _ I.fresh⟩
end
section
variable {prog : Program} {w : World} {A : Around} {E : Value → Shared → Prop} {s : Shared}
set_option maxRecDepth 100000 in
end
section
variable {X : Cx}
end
end L2
namespace Att
open PySem PySem.W PySem.Calls PyProof.Rows
theorem zic {P : Params} {h : Heap} : ∀ (ns : List Int) (vs : List Value), WellAll P h vs (ns.map WData.int) → IntsAre vs ns := by
 intro ns
 induction ns with
 | nil =>
  intro vs w
  rw [List.map_nil] at w
  cases w
  exact .nil
 | cons n ns ih =>
  intro vs w
  rw [List.map_cons] at w
  cases w with
  | cons a b =>
   cases a
   exact .cons _ _ (ih _ b)
theorem zpk {l : OpenLaw} {n : Nat} (hn : l.most = some n) {P : Params} {h : Heap} {args : List WData} {vals : List Value}
  (hpre : l.row.toRowW.claim.pre args = true) (hwl : WellAll P h vals args) :
  ∃ a vs ns, vals = [Value.ref a] ∧ args = [WData.list (ns.map WData.int)] ∧ h.get? a = some { cls := .type "list", data := .seq vs.toArray } ∧ IntsAre vs ns ∧ ns.length ≤ n := by
 have hsh : WShape.hasAll [] args [.list .int] = true := (pre_splitW hpre).1
 have hc : l.pre.holds [] { args := args } = true := (pre_splitW hpre).2
 obtain ⟨d, r, rfl, h1, h2⟩ := hasAllW_cons hsh
 obtain rfl := hasAllW_nil h2
 obtain ⟨xs, rfl, h3⟩ := hasW_list h1
 obtain ⟨ns, rfl⟩ := items_int h3
 have hlen : ns.length ≤ n := by
  unfold OpenLaw.pre at hc
  have h4 : (WTm.not (.lt (.lit (.int (n : Int))) (.len (.arg 0)))).holds [] { args := [.list (ns.map .int)] } = true := by
   have h4 := (holds_andW hc).1
   rw [hn] at h4
   exact h4
  have h5 := condW_of h4 (w_not (w_lt w_lit (w_len_list (w_arg rfl))))
  rw [List.length_map] at h5
  refine Nat.le_of_not_lt fun q => ?_
  have q' : (n : Int) < ((ns.length : Nat) : Int) := by omega
  first
   | (rw [decide_eq_true q'] at h5; exact absurd h5 (by decide))
   | (simp at h5; omega)
 cases hwl with
 | cons w1 w2 =>
  cases w2
  cases w1 with
  | list ho hall => exact ⟨_, _, ns, rfl, rfl, ho, zic ns _ hall, hlen⟩
theorem zpa (l : OpenLaw) (args : List WData) : l.row.toRowW.claim.post args (.bool true) args = true :=
 postW_of (r := l.row.toRowW) (X := (true == true))
  (show WShape.has [] (.bool true) .bool = true by first | rfl | decide | simp [WShape.has, WShape.arms, WShape.armsAll])
  (show (WTm.eq .res (.lit (.bool true))).value [] { args := args, res := some (.bool true), after := args } = some (.bool (true == true)) from w_eq_bool (w_res rfl) w_lit) rfl
theorem attach_call {l : OpenLaw} {n : Nat} {q : Program} {loose : List Str} {XP : (Str → Option Value) → Heap → Prop} {YP : World → Heap → Prop} {d : DefRec}
  (hn : l.most = some n) (hdf : d.params.defaults = [])
  (call : ∀ (w : World) (s₀ s₁ : Shared) (mg mb : Str → Option Value) (fa : Addr) (o : Obj) (pm cd doc : Value) (a : Addr) (vs : List Value) (ns : List Int),
   Ground q loose [] XP w s₀ mg mb s₁.heap → YP w s₁.heap →
   s₁.heap.get? fa = some o → o.data = .func (docDef d.name d.params d.body d.scope pm cd doc) → s₁.heap.CodeRec cd d.name → mg d.name = some (.ref fa) →
   s₁.heap.get? a = some { cls := .type "list", data := .seq vs.toArray } → IntsAre vs ns → ns.length ≤ n → s₁.gens = #[] →
   codeAny (model l.prog w) callerA (.call (.ref fa) ⟨[.ref a], []⟩) (fun r s' => r = .ok (.ret (.bool true)) ∧ OldK s₁.heap s'.heap ∧ s'.os = s₁.os ∧ AllBare s'.gens) s₁) :
  WalkO q loose XP YP l.row.toRowW d [] (fun f vs => PySem.call f vs) := by
 intro w s₀ s₁ mg mb G Y fa o pm cd doc dV kV ho hd hcd hD hmg hg args vals as hpre hlay hrd hwl hlo
 obtain rfl : dV = .none := Dflts.none hD hdf
 obtain rfl : kV = .none := Dflts.noKw hD
 obtain ⟨a, vs, ns, rfl, rfl, hobj, hints, hlen⟩ := zpk hn hpre hwl
 refine enter_call (codeAny_mono (call w s₀ s₁ mg mb fa o pm cd doc a vs ns G Y ho (fd_plain hd) hcd hmg hobj hints hlen hg) fun r s' hq => ?_)
 obtain ⟨rfl, h2, h3, h4⟩ := hq
 exact ⟨.inl ⟨.bool true, .bool true, [], rfl, fun _ => rfl, .bool true, zpa l _, fun _ => ⟨List.Pairwise.nil, fun _ hm => (nomatch hm)⟩⟩, h2, h3, h4⟩
section
variable {prog : Program} {w : World} {A : Around} {E : Value → Shared → Prop} {s : Shared} {K : Frag}
end
end Att
namespace L2
open PySem PySem.Spec PyProof.Rows
theorem zhs : ∀ {vs : List Value} {ns : List Int}, IntsAre vs ns → Vals (ns.map V.int) vs
 | _, _, .nil => .nil
 | _, _, .cons n t h => .cons ⟨t, rfl⟩ (zhs h)
end L2
namespace L2
open PySem PySem.Spec PyProof.Rows
end L2
namespace L2
open PySem PySem.Spec PyProof.Rows
def zee (s : Stmt) : Arguments := match s with
 | .FunctionDef _ a _ _ _ _ _ _ _ _ => a
 | _ => { posonlyargs := [], args := [], vararg := none, kwonlyargs := [], kw_defaults := [], kwarg := none, defaults := [] }
def za3 (s : Stmt) : List Stmt := match s with
 | .FunctionDef _ _ b _ _ _ _ _ _ _ => b
 | _ => []
def zag (s : Stmt) : Scope := match s with
 | .FunctionDef _ _ _ _ _ _ sc _ _ _ => sc
 | _ => { kind := .function, names := [], isGenerator := false, isCoroutine := false }
abbrev CX0 : CXT := fun _ _ _ _ _ _ => False
abbrev E0 : XK := fun _ _ _ => False
theorem zrt {X : Cx} : zn3 CX0 X E0 := fun _ _ _ _ _ _ _ h => h.elim
structure Fun (K : PySem.W.Frag) (x qual : Str) (st : Stmt) (f : Addr) (fd : FuncData) : Prop where
 ex : ∃ (oc : Value) (od : Option Addr) (kV doc pm : Value) (an : Option Addr) (cdv ct : Value) (osl : Array (Option Value)),
  fd = PySem.W.fnOf x qual (zee st) (za3 st) (zag st) .none kV doc pm an cdv ct ∧ K.lookup f = some ⟨oc, od, .func fd, osl⟩ ∧ PySem.W.codeIn K cdv qual = true
 kp : PySem.W.keepIn K (.ref f) = true
section
variable {P : Program} {w : World} {K : PySem.W.Frag} {mg : Str → Option Value} {base : Heap}
theorem Fun.ok {x qual : Str} {st : Stmt} {f : Addr} {fd : FuncData} {N ps : List Str} {k : Nat} {sp : Sp} (F : Fun K x qual st f fd) (S : zas N ps (zag st)) (len : ∀ vs H Q E, sp vs H Q E → vs.length = ps.length)
  (hbody : ∀ (cdv : Value) (A : Around) (outer : List Env) (s : Shared) (H : Hp) (vs : List V) (Q : VK) (E : XK), Room k (A.deeper (envOfC qual (zag st) s.heap.objs.size f cdv)) → sp vs H Q E →
   ∃ t, PSs (zcj CX0 P w K mg base N qual (zag st) f cdv A outer s H E).nox (za3 st) t ∧ t { nx := fun _ H' => Q .non H', rt := Q } (zg5 N vs) H) : FnOk P w K mg base CX0 (k + 1) f fd ps sp := by
 obtain ⟨oc, od, kV, doc, pm, an, cdv, ct, osl, rfl, lk, hcd⟩ := F.ex
 refine zty lk hcd S len fun A outer s H vs Q E hr hsp => ?_
 obtain ⟨t, h, q⟩ := hbody cdv A outer s H vs Q E hr hsp
 exact ⟨t, h.nox, q⟩
theorem Fun.binds {x qual : Str} {st : Stmt} {f : Addr} {fd : FuncData} {ps : List Str} (F : Fun K x qual st f fd)
  (h : ∀ (kV doc pm : Value) (an : Option Addr) (cdv ct : Value) (us : List Value), us.length = ps.length → bindArgs (PySem.W.fnOf x qual (zee st) (za3 st) (zag st) .none kV doc pm an cdv ct) ⟨us, []⟩ = pure (ps.zip us)) : Binds K fd ps [] := by
 obtain ⟨oc, od, kV, doc, pm, an, cdv, ct, osl, rfl, lk, hcd⟩ := F.ex
 exact .all (h kV doc pm an cdv ct)
theorem zun {x qual : Str} {st : Stmt} {f : Addr} {oc : Value} {od an : Option Addr} {osl : Array (Option Value)} {kV doc pm cdv ct : Value} (l : K.lookup f = some ⟨oc, od, .func (PySem.W.fnOf x qual (zee st) (za3 st) (zag st) .none kV doc pm an cdv ct), osl⟩)
  (c : PySem.W.codeIn K cdv qual = true) (k : PySem.W.keepIn K (.ref f) = true) : Fun K x qual st f (PySem.W.fnOf x qual (zee st) (za3 st) (zag st) .none kV doc pm an cdv ct) := ⟨⟨oc, od, kV, doc, pm, an, cdv, ct, osl, rfl, l, c⟩, k⟩
end
theorem zct {n : Nat} (h : n ≤ 1000) : n < sizeLine := Nat.lt_of_le_of_lt h (by decide)
section
variable {X : Cx}
theorem pv (i : Nat) {x : Str} {pos : Pos} (hN : X.N[i]? = some x := by rfl) (hv : Vis X.env.scope x := by first | exact Or.inl rfl | exact Or.inr (Or.inl rfl) | exact Or.inr (Or.inr rfl)) (hd : (x == ("__debug__" : Str)) = false := by decide)
  (hcd : (x == ("__classdict__" : Str)) = false := by decide) : PE X (.Name x pos) (zo4 i) := zrl hN hv hd hcd
end
theorem zib {A B : Prop} (h : B) : if false = true then A else B := by
 rw [if_neg Bool.false_ne_true]
 exact h
theorem zqb {A B : Prop} (h : A) : if true = true then A else B := by
 rw [if_pos rfl]
 exact h
theorem zbl {c A B : Prop} [Decidable c] (h1 : c → A) (h2 : ¬ c → B) : if c then A else B := by
 by_cases h : c
 ·rw [if_pos h]
  exact h1 h
 ·rw [if_neg h]
  exact h2 h
theorem zmf {c A B : Prop} [Decidable c] (hc : c) (h : B) : if (!decide c) = true then A else B := by
 rw [decide_eq_true hc]
 exact zib h
end L2
set_option maxRecDepth 100000
set_option maxHeartbeats 4000000
namespace L2
open PySem PySem.Spec PyProof.Rows
def zft (c : Addr) : Heap → Prop := fun h => ∃ (o : Obj) (vs : Array Value) (q : Str) (t : Nat), h.get? c = some o ∧ o.data = .fields vs ∧ vs[1]? = some (.str q t)
def zc3 (H : Hp) (P : Addr) : Prop := ∃ ps : Array Value, H P = some (.tbl ps) ∧ TriplesOk ps.toList ∧ ∀ pos : Pos, codeAmong pos ps.toList = none ∨ ∃ c : Addr, codeAmong pos ps.toList = some (.ref c) ∧ H c = some (.ext (zft c))
def Kp (H H' : Hp) (b : Addr) : HO → Prop
 | .tbl _ => (∃ ps, H' b = some (.tbl ps)) ∧ (zc3 H b → zc3 H' b)
 | o => H' b = some o
def Same (H H' : Hp) : Prop := ∀ b o, H b = some o → Kp H H' b o
theorem Kp.of {H H' : Hp} {b : Addr} {o : HO} (h : H b = some o) (e : H' b = some o) (hc : ∀ c, H c = some (.ext (zft c)) → H' c = some (.ext (zft c))) : Kp H H' b o := by
 cases o
 case tbl ps =>
  refine ⟨⟨ps, e⟩, fun ⟨qs, hq, tr, hp⟩ => ?_⟩
  rw [h] at hq
  cases hq
  exact ⟨_, e, tr, fun pos => (hp pos).imp id fun ⟨c, z1, z2⟩ => ⟨c, z1, hc c z2⟩⟩
 all_goals exact e
theorem zik {H H' : Hp} (h : ∀ b o, H b = some o → H' b = some o) : Same H H' := fun b o e => Kp.of e (h b o e) fun c z => h c _ z
theorem Same.refl (H : Hp) : Same H H := zik fun _ _ h => h
theorem Same.trans {H H1 H2 : Hp} (a : Same H H1) (b : Same H1 H2) : Same H H2 := fun c o h => by
 have z := a c o h
 cases o
 case tbl ps =>
  obtain ⟨⟨qs, hq⟩, k⟩ := z
  obtain ⟨q2, k2⟩ := b c _ hq
  exact ⟨q2, fun t => k2 (k t)⟩
 all_goals exact b c _ z
theorem Kp.some {H H' : Hp} {b : Addr} {o : HO} (k : Kp H H' b o) : ∃ u, H' b = some u := by
 cases o
 case tbl ps => exact ⟨_, k.1.choose_spec⟩
 all_goals exact ⟨_, k⟩
theorem Same.free {H H' : Hp} (e : Same H H') {l : Addr} (h : H' l = Option.none) : H l = Option.none := by
 cases q : H l with
 | none => rfl
 | some o =>
  obtain ⟨u, z⟩ := (e l o q).some
  rw [z] at h
  cases h
theorem Same.tab {H H' : Hp} {P : Addr} (e : Same H H') (t : zc3 H P) : zc3 H' P := by
 obtain ⟨ps, h, _⟩ := id t
 exact (e _ _ h).2 t
theorem zjd {pos pos' : Pos} {c : Value} (l : List Value) (h : TriplesOk l) : codeAmong pos (l ++ [rawInt pos'.line, rawInt pos'.col, c]) = codeAmong pos l ∨ codeAmong pos (l ++ [rawInt pos'.line, rawInt pos'.col, c]) = some c := by
 fun_induction TriplesOk l with
 | case1 =>
  by_cases hc : ((pos'.line : Int) == (pos.line : Int) && (pos'.col : Int) == (pos.col : Int)) = true
  ·exact .inr (by simp only [List.nil_append, codeAmong, rawInt]; rw [if_pos hc])
  ·exact .inl (by simp only [List.nil_append, codeAmong, rawInt]; rw [if_neg hc])
 | case2 a t b u x rest ih =>
  simp only [List.cons_append, codeAmong]
  split
  ·exact .inl rfl
  ·exact ih h
 | case3 => exact h.elim
end L2
set_option maxRecDepth 100000
set_option maxHeartbeats 4000000
namespace L2
open PySem PySem.Spec PyProof.Rows
theorem zko {α β : Type} (g : α → β → β) {f : α → β → Sem (ForInStep β)} : ∀ (l : List α) (b : β), (∀ x ∈ l, ∀ c, f x c = pure (ForInStep.yield (g x c))) →
  forIn l b f = (pure (l.foldl (fun c x => g x c) b) : Sem β)
 | [], b, _ => by simp only [List.forIn_nil, List.foldl_nil]
 | x :: r, b, h => by
  rw [List.forIn_cons, h x List.mem_cons_self b, pure_bind]
  exact zko g r (g x b) fun y hy c => h y (List.mem_cons_of_mem _ hy) c
def zd8 (sc : Scope) (env : Env) : List (Str × Addr) :=
 sc.names.foldl (fun cs y => if (y.2 == NameKind.free) = true then (y.1, (env.cells.lookup y.1).getD 0) :: cs else cs) []
theorem zor {sc : Scope} {env : Env} (h : ∀ y ∈ sc.names, y.2 = .free → ∃ c, env.cells.lookup y.1 = some c) : closureFor sc env = pure (zd8 sc env) := by
 simp only [closureFor]
 rw [zko (fun (y : Str × NameKind) (cs : List (Str × Addr)) => if (y.2 == NameKind.free) = true then (y.1, (env.cells.lookup y.1).getD 0) :: cs else cs) sc.names [] (fun y hy c => by
  obtain ⟨n, k⟩ := y
  by_cases hk : k = .free
  ·obtain ⟨a, ha⟩ := h _ hy hk
   subst hk
   simp only [cellOf, ha, beq_self_eq_true, if_true, pure_bind, Option.getD_some]
  ·have z : (k == NameKind.free) = false := by simpa using hk
   simp only [z, Bool.false_eq_true, if_false])]
 rfl
theorem zkd {α β : Type} {P : β → Prop} {g : α → List β → List β} : ∀ (l : List α) (b : List β), (∀ p ∈ b, P p) → (∀ x ∈ l, ∀ c, (∀ p ∈ c, P p) → ∀ p ∈ g x c, P p) → ∀ p ∈ l.foldl (fun c x => g x c) b, P p
 | [], b, hb, _ => hb
 | x :: r, b, hb, h => zkd r (g x b) (h x List.mem_cons_self b hb) fun y hy => h y (List.mem_cons_of_mem _ hy)
theorem zry {sc : Scope} {env : Env} (h : ∀ y ∈ sc.names, y.2 = .free → ∃ c, env.cells.lookup y.1 = some c) : ∀ p ∈ zd8 sc env, env.cells.lookup p.1 = some p.2 := by
 refine zkd (P := fun p : Str × Addr => env.cells.lookup p.1 = some p.2) sc.names [] (fun _ z => nomatch z) fun y hy c hc p hp => ?_
 by_cases hk : y.2 = .free
 ·have z : (y.2 == NameKind.free) = true := by simpa using hk
  rw [if_pos z] at hp
  rcases List.mem_cons.mp hp with e | hp
  ·obtain ⟨a, ha⟩ := h y hy hk
   rw [e]
   show env.cells.lookup y.1 = some ((env.cells.lookup y.1).getD 0)
   rw [ha]
   rfl
  ·exact hc p hp
 ·have z : ¬ (y.2 == NameKind.free) = true := by simpa using hk
  rw [if_neg z] at hp
  exact hc p hp
theorem zje {α β : Type} {q : β} {g : α → List β → List β} (hg : ∀ x c, q ∈ c → q ∈ g x c) : ∀ (l : List α) (b : List β), q ∈ b → q ∈ l.foldl (fun c x => g x c) b
 | [], _, hb => hb
 | x :: r, b, hb => zje hg r (g x b) (hg x b hb)
theorem zq2 {sc : Scope} {env : Env} {x : Str} {c : Addr} (hx : (x, NameKind.free) ∈ sc.names) (hc : env.cells.lookup x = some c) : (x, c) ∈ zd8 sc env := by
 have kp : ∀ (y : Str × NameKind) (cs : List (Str × Addr)), (x, c) ∈ cs → (x, c) ∈ (if (y.2 == NameKind.free) = true then (y.1, (env.cells.lookup y.1).getD 0) :: cs else cs) := fun y cs h => by
  by_cases z : (y.2 == NameKind.free) = true
  ·rw [if_pos z]
   exact List.mem_cons_of_mem _ h
  ·rw [if_neg z]
   exact h
 unfold zd8
 obtain ⟨l1, l2, e⟩ := List.append_of_mem hx
 rw [e, List.foldl_append, List.foldl_cons]
 refine zje (g := fun (y : Str × NameKind) (cs : List (Str × Addr)) => if (y.2 == NameKind.free) = true then (y.1, (env.cells.lookup y.1).getD 0) :: cs else cs) kp l2 _ ?_
 rw [if_pos (by simp)]
 rw [hc]
 exact List.mem_cons_self
theorem ze1 {β : Type} {x : Str} {b : β} : ∀ {l : List (Str × β)}, (x, b) ∈ l → ∃ c, l.lookup x = some c
 | [], h => nomatch h
 | (y, d) :: r, h => by
  by_cases e : x = y
  ·subst e
   exact ⟨d, by rw [List.lookup_cons_self]⟩
  ·have z : (x == y) = false := by simpa using e
   rcases List.mem_cons.mp h with q | q
   ·cases q
    exact absurd rfl e
   ·obtain ⟨c, hc⟩ := ze1 q
    exact ⟨c, by rw [List.lookup_cons, z]; exact hc⟩
theorem zbp {sc : Scope} {env : Env} (h : ∀ y ∈ sc.names, y.2 = .free → ∃ c, env.cells.lookup y.1 = some c) {x : Str} {c : Addr} (e : (zd8 sc env).lookup x = some c) : env.cells.lookup x = some c :=
 zry h _ (PySem.mem_of_lookup e)
theorem zfu {sc : Scope} {env : Env} (h : ∀ y ∈ sc.names, y.2 = .free → ∃ c, env.cells.lookup y.1 = some c) {x : Str} {c : Addr} (hx : (x, NameKind.free) ∈ sc.names) (hc : env.cells.lookup x = some c) : (zd8 sc env).lookup x = some c := by
 obtain ⟨d, hd⟩ := ze1 (zq2 hx hc)
 have := zbp h hd
 rw [hc] at this
 cases this
 exact hd
def znl (sc sc0 : Scope) : Scope :=
 { sc with names := sc.names.map fun (n, k) => if (k == .free && sc0.kind == .function && sc0.names.lookup n == some .cell) then (n, .cell) else (n, k) }
def zpd (sc0 sc : Scope) (XN N' : List Str) (n : Nat) (kp : List Nat) : Bool :=
 decide (sc.kind = .function) && sc.names.all (fun y => decide (y.2 ≠ .cell)) && sc.names.all (fun y => decide (y.2 = .local → sc.names.lookup y.1 = some .local)) &&
 sc.names.all (fun y => decide (y.2 = .free → sc0.names.lookup y.1 = some .cell)) && decide (N'.length = n + kp.length) &&
 (List.range kp.length).all (fun i => match N'[n + i]?, kp[i]? with
  | some x, some j => decide (XN[j]? = some x ∧ (x, NameKind.free) ∈ sc.names ∧ ((znl sc sc0).names.lookup x = some .cell ∨ (znl sc sc0).names.lookup x = some .free))
  | _, _ => false)
theorem zjq {sc0 sc : Scope} {XN N' : List Str} {n : Nat} {kp : List Nat} (h : zpd sc0 sc XN N' n kp = true) :
  sc.kind = .function ∧ (∀ y ∈ sc.names, y.2 ≠ .cell) ∧ (∀ y ∈ sc.names, y.2 = .local → sc.names.lookup y.1 = some .local) ∧ (∀ y ∈ sc.names, y.2 = .free → sc0.names.lookup y.1 = some .cell) ∧ N'.length = n + kp.length ∧
  ∀ (i : Nat) (x : Str), N'[n + i]? = some x → ∃ j, kp[i]? = some j ∧ XN[j]? = some x ∧ (x, NameKind.free) ∈ sc.names ∧ ((znl sc sc0).names.lookup x = some .cell ∨ (znl sc sc0).names.lookup x = some .free) := by
 unfold zpd at h
 simp only [Bool.and_eq_true, List.all_eq_true, decide_eq_true_eq] at h
 obtain ⟨⟨⟨⟨⟨h1, h2⟩, h3⟩, h4⟩, h5⟩, h6⟩ := h
 refine ⟨h1, h2, h3, h4, h5, fun i x hx => ?_⟩
 have hi : i < kp.length := by
  have := (List.getElem?_eq_some_iff.mp hx).1
  omega
 have q := h6 i (List.mem_range.mpr hi)
 rw [hx, List.getElem?_eq_getElem hi] at q
 exact ⟨kp[i], List.getElem?_eq_getElem hi, of_decide_eq_true q⟩
abbrev NoX : Value → Shared → Prop := fun _ _ => False
def blk (X : Cx) (N' : List Str) (sc : Scope) (C : Addr) (fp : List Addr) (pins : List (Addr × Obj)) (s : Shared) (H : Hp) : Cx :=
 { X with N := N', s₀ := s, H₀ := H, env := compEnvC sc (zd8 sc X.env) C X.env, outer := X.stack, stack := X.stack, ex := fp, fn := fun _ => false, pn := X.pn ++ pins, xe := NoX }
abbrev ztv (cs : List Expr) (env : Env) : Sem Bool := forIn cs true fun c r => if r = true then do let ok ← isTrue c env (eval c env); pure (ForInStep.yield ok) else pure (ForInStep.yield r)
def PTs (X : Cx) (cs : List Expr) (t : TT) : Prop :=
 ∀ (pins : List (Addr × Obj)) (s : Shared) (σ : St) (H : Hp) (Q : Bool → Hp → Prop), Inv X pins σ H s → t σ H Q → wpAny (model X.prog X.w) X.A (ztv cs X.env) (TP X pins σ Q) X.xe s
def zv9 : TT := fun _ H Q => Q true H
theorem zdl {X : Cx} : PTs X [] zv9 := fun _ _ _ H _ I h => wpAny_tests_nil ⟨H, I, h⟩
theorem zcx {X : Cx} {c : Expr} {t : TT} (hc : PT X c t) : PTs X [c] t := fun pins s σ H Q I h => wpAny_tests_one (hc pins s σ H Q I h)
theorem zsp {prog : Program} {w : World} {A : Around} {R : Result → Shared → Prop} {elt tg iter : Expr} {cs : List Expr} {sc : Scope} {pos : Pos} {it acc : Value} {env : Env} (J : Nat → Shared → Prop)
  (turn : ∀ n s, J n s → wpAny (model prog w) A (pyNext it) (fun r s1 => match r with
   | none => R (.ok .next) s1
   | some v => wpAny (model prog w) A (letOwnedTupleGo tg it v) (fun _ s2 => wpAny (model prog w) A (assign tg env v) (fun _ s3 => wpAny (model prog w) A (ztv cs env) (fun ok s4 =>
     if ok = true then wpAny (model prog w) A (eval elt env) (fun x s5 => wpAny (model prog w) A (call (.builtin "list.append") [acc, x]) (fun _ s6 => ∃ m, m < n ∧ J m s6) NoX s5) NoX s4
     else ∃ m, m < n ∧ J m s4) NoX s3) NoX s2) NoX s1) NoX s)
  (n : Nat) (s : Shared) (h : J n s) : codeAny (model prog w) A (.compLoop (.ListComp elt [⟨tg, iter, cs, 0⟩] sc pos) 0 it acc env) R s := by
 refine codeAny_loop rfl J (fun n s hJ => ?_) n h
 show wpAny _ A ((compTurn (.ListComp elt [⟨tg, iter, cs, 0⟩] sc pos) 0 it acc env).onRaise (fun x => do noteFrame x env; theTreesLotGoes x)) _ _ s
 refine wpAny_noted ?_
 rw [compTurn_list]
 have no : ∀ {E : Value → Shared → Prop} (e : Value) (z : Shared), NoX e z → E e z := fun _ _ f => f.elim
 refine wpAny_bind (wpAny_standAt (wpAny_bind (wpAny_mono (turn n s hJ) (fun r s1 h1 => ?_) no)))
 cases r with
 | none => exact wpAny_pure h1
 | some v =>
  refine wpAny_bind (wpAny_mono h1 (fun _ s2 h2 => ?_) no)
  refine wpAny_bind (wpAny_mono h2 (fun _ s3 h3 => ?_) no)
  refine wpAny_bind (wpAny_mono h3 (fun ok s4 h4 => ?_) no)
  cases ok with
  | false => exact wpAny_pure ⟨rfl, h4⟩
  | true =>
   exact wpAny_bind (wpAny_bind (wpAny_mono h4 (fun x s5 h5 => wpAny_bind (wpAny_mono h5 (fun _ s6 h6 => wpAny_pure (wpAny_pure ⟨rfl, h6⟩)) no)) no))
def zj1 (J : It) (g : TG) (tc : TT) (te : TE) (σ0 : St) (H1 : Hp) (Q : VK) : Prop := ∃ W : Nat → Nat → List V → St → Hp → Prop,
  (∃ m, W 0 m [] σ0 H1) ∧ ∀ i m ys σ' H', W i m ys σ' H' → ys.length ≤ sizeLine ∧
    ((J.stop i H' ∧ ∀ p, H' p = none → Q (.ref p) (upd H' p (.lst ys))) ∨
     (J.go i H' ∧ ∃ N : List V → St → Hp → Prop, (∀ ys' σ2 H2, N ys' σ2 H2 → ∃ m', m' < m ∧ W (i + 1) m' ys' σ2 H2) ∧ ∀ x H2, J.yld i H' x H2 → g x σ' H2 fun σ3 H3 => tc σ3 H3 fun b H4 =>
       if b = true then te σ3 H4 fun v H5 => N (ys ++ [v]) σ3 H5 else N ys σ3 H4))
def tLc (n : Nat) (kp : List Nat) (wi : TI) (g : TG) (tc : TT) (te : TE) : TE := fun σ H Q => wi σ H fun J H1 => zj1 J g tc te (List.replicate n none ++ kp.map fun j => (σ[j]?).join) H1 Q
theorem zqg {lo : Int} {k : Nat} {σ0 : St} {H : Hp} {g : TG} {tc : TT} {te : TE} {Q : VK} (Pv : Nat → List V → St → Hp → Prop) (h0 : Pv 0 [] σ0 H) (hz : ∀ i ys σ H, i ≤ k → Pv i ys σ H → ys.length ≤ sizeLine)
  (hs : ∀ i ys σ H, i < k → Pv i ys σ H → g (.int (lo + i)) σ H fun σ3 H3 => tc σ3 H3 fun b H4 => if b = true then te σ3 H4 fun v H5 => Pv (i + 1) (ys ++ [v]) σ3 H5 else Pv (i + 1) ys σ3 H4)
  (hd : ∀ ys σ H, Pv k ys σ H → ∀ p, H p = none → Q (.ref p) (upd H p (.lst ys))) :
  zj1 (Itr lo k) g tc te σ0 H Q := by
 refine ⟨fun i m ys σ H => m = k - i ∧ i ≤ k ∧ Pv i ys σ H, ⟨k, by simp, Nat.zero_le _, h0⟩, ?_⟩
 rintro i m ys σ H ⟨rfl, hi, p⟩
 refine ⟨hz i ys σ H hi p, ?_⟩
 by_cases hlt : i < k
 ·refine .inr ⟨hlt, Pv (i + 1), fun ys' σ' H' p' => ⟨k - (i + 1), by omega, rfl, hlt, p'⟩, fun x H' y => ?_⟩
  obtain ⟨e1, e2⟩ := y
  subst e1
  subst e2
  exact hs i ys σ _ hlt p
 ·have e : i = k := by omega
  subst e
  exact .inl ⟨Nat.le_refl _, hd ys σ H p⟩
theorem zdp {K : PySem.W.Frag} {a : Addr} {xs : List V} {σ0 : St} {H : Hp} {g : TG} {tc : TT} {te : TE} {Q : VK} (Pv : Nat → List V → St → Hp → Prop) (h0 : Pv 0 [] σ0 H) (hz : ∀ i ys σ H, i ≤ xs.length → Pv i ys σ H → ys.length ≤ sizeLine)
  (hl : ∀ i ys σ H, i ≤ xs.length → Pv i ys σ H → SqL K H a xs)
  (hs : ∀ i x ys σ H, xs[i]? = some x → Pv i ys σ H → g x σ H fun σ3 H3 => tc σ3 H3 fun b H4 => if b = true then te σ3 H4 fun v H5 => Pv (i + 1) (ys ++ [v]) σ3 H5 else Pv (i + 1) ys σ3 H4)
  (hd : ∀ ys σ H, Pv xs.length ys σ H → ∀ p, H p = none → Q (.ref p) (upd H p (.lst ys))) :
  zj1 (Itl K a) g tc te σ0 H Q := by
 refine ⟨fun i m ys σ H => m = xs.length - i ∧ i ≤ xs.length ∧ Pv i ys σ H, ⟨xs.length, by simp, Nat.zero_le _, h0⟩, ?_⟩
 rintro i m ys σ H ⟨rfl, hi, p⟩
 refine ⟨hz i ys σ H hi p, ?_⟩
 have q := hl i ys σ H hi p
 by_cases hlt : i < xs.length
 ·refine .inr ⟨⟨xs, xs[i], q, by simp [hlt]⟩, Pv (i + 1), fun ys' σ' H' p' => ⟨xs.length - (i + 1), by omega, rfl, hlt, p'⟩, fun x H' y => ?_⟩
  obtain ⟨e, y⟩ := y
  subst e
  exact hs i x ys σ _ (y xs q) p
 ·have e : i = xs.length := by omega
  subst e
  exact .inl ⟨⟨xs, q, Nat.le_refl _⟩, hd ys σ H p⟩
theorem zn1 {K : PySem.W.Frag} {a : Addr} {xs : List V} {σ0 : St} {H : Hp} {g : TG} {tc : TT} {te : TE} {Q : VK} (Pv : Nat → List V → St → Hp → Prop) (h0 : Pv 0 [] σ0 H) (hz : ∀ i ys σ H, i ≤ xs.length → Pv i ys σ H → ys.length ≤ sizeLine)
  (hl : ∀ i ys σ H, i ≤ xs.length → Pv i ys σ H → SqT K H a xs)
  (hs : ∀ i x ys σ H, xs[i]? = some x → Pv i ys σ H → g x σ H fun σ3 H3 => tc σ3 H3 fun b H4 => if b = true then te σ3 H4 fun v H5 => Pv (i + 1) (ys ++ [v]) σ3 H5 else Pv (i + 1) ys σ3 H4)
  (hd : ∀ ys σ H, Pv xs.length ys σ H → ∀ p, H p = none → Q (.ref p) (upd H p (.lst ys))) :
  zj1 (Itt K a) g tc te σ0 H Q := by
 refine ⟨fun i m ys σ H => m = xs.length - i ∧ i ≤ xs.length ∧ Pv i ys σ H, ⟨xs.length, by simp, Nat.zero_le _, h0⟩, ?_⟩
 rintro i m ys σ H ⟨rfl, hi, p⟩
 refine ⟨hz i ys σ H hi p, ?_⟩
 have q := hl i ys σ H hi p
 by_cases hlt : i < xs.length
 ·refine .inr ⟨⟨xs, xs[i], q, by simp [hlt]⟩, Pv (i + 1), fun ys' σ' H' p' => ⟨xs.length - (i + 1), by omega, rfl, hlt, p'⟩, fun x H' y => ?_⟩
  obtain ⟨e, y⟩ := y
  subst e
  exact hs i x ys σ _ (y xs q) p
 ·have e : i = xs.length := by omega
  subst e
  exact .inl ⟨⟨xs, q, Nat.le_refl _⟩, hd ys σ H p⟩
section
variable {X : Cx} {tg iter elt : Expr} {cs : List Expr} {sc sc0 : Scope} {pos : Pos} {wi : TI} {g : TG} {tc : TT} {te : TE} {XN N' : List Str} {n : Nat} {kp : List Nat}
theorem zu1 {pins : List (Addr × Obj)} {σ : St} {H : Hp} {s : Shared} {fp : List Addr} {C : Addr} (I : Inv X pins σ H s) (hk : sc.kind = .function) (hcell : ∀ y ∈ sc.names, y.2 ≠ .cell)
  (hfr : ∀ y ∈ sc.names, y.2 = .free → ∃ c, X.env.cells.lookup y.1 = some c) (hf : ∀ b ∈ fp, zhp X pins H b) (hl : ∀ b ∈ fp, b < s.heap.objs.size) (hC : s.heap.objs.size ≤ C) : (blk X N' sc C fp pins s H).Ok where
 mod := I.ok.mod
 kind := hk
 glob := I.ok.glob
 blt := I.ok.blt
 above := hC
 inj := fun x y c h1 h2 => I.ok.inj x y c (zbp hfr h1) (zbp hfr h2)
 has := fun x hx => by
  have q : ∃ k, (x, k) ∈ sc.names ∧ k = .free := by
   have hx' : (znl sc X.env.scope).names.lookup x = some .cell ∨ (znl sc X.env.scope).names.lookup x = some .free := hx
   have go : ∀ k, (znl sc X.env.scope).names.lookup x = some k → (k = .cell ∨ k = .free) → (x, NameKind.free) ∈ sc.names := fun k e hk' => by
    have hm := PySem.mem_of_lookup e
    obtain ⟨⟨y, ky⟩, hy, ey⟩ := List.mem_map.mp hm
    dsimp only at ey
    split at ey
    ·rename_i hc
     cases ey
     have z : ky = .free := by
      simp only [Bool.and_eq_true] at hc
      simpa using hc.1.1
     subst z
     exact hy
    ·cases ey
     rcases hk' with z | z
     ·exact absurd z (hcell _ hy)
     ·subst z
      exact hy
   rcases hx' with e | e
   ·exact ⟨_, go _ e (.inl rfl), rfl⟩
   ·exact ⟨_, go _ e (.inr rfl), rfl⟩
  obtain ⟨k, hm, rfl⟩ := q
  obtain ⟨c, hc⟩ := hfr _ hm rfl
  exact ⟨c, zfu hfr hm hc⟩
 cab := fun x c h => absurd h (by simp [blk])
 hd := I.ok.hd
 frames := I.ok.frames
 stk := .inl rfl
 exf := fun b hb => ⟨Nat.ne_of_lt (Nat.lt_of_lt_of_le (hl b hb) hC), fun x c e => (hf b hb).2.2.2.2.1 x c (zbp hfr e)⟩
 bs := I.bs
 bsz := Nat.le_trans I.ok.bsz I.sz
 noex := fun b o e hb => by
  rcases (hf b hb).2.2.2.1 with z | z
  ·exact I.ok.noex b o e z
  ·exact absurd (Nat.lt_of_lt_of_le (Heap.lt_size e) (Nat.le_trans I.ok.bsz z)) (Nat.lt_irrefl _)
 exfs := fun b hb z => by
  rcases List.mem_cons.mp (I.stkSub b z) with q | q
  ·exact (hf b hb).2.1 q
  ·exact (hf b hb).2.2.1 q
 funs := I.stack
 frf := I.stkFree
end
end L2
set_option maxRecDepth 100000
set_option maxHeartbeats 4000000
namespace L2
open PySem PySem.Spec PyProof.Rows
section
variable {X : Cx} {tg iter elt : Expr} {cs : List Expr} {sc sc0 : Scope} {pos : Pos} {wi : TI} {g : TG} {tc : TT} {te : TE} {XN N' : List Str} {n : Nat} {kp : List Nat}
theorem zpp {pins : List (Addr × Obj)} {σ : St} {H : Hp} {s : Shared} {fp : List Addr} {C : Addr} {h1 : Heap} {tk : Nat} {m : Str → Option Value} (I : Inv X pins σ H s) (h0 : X.env.scope = sc0) (hN : X.N = XN) (ok : zpd sc0 sc XN N' n kp = true)
  (hf : ∀ b ∈ fp, zhp X pins H b) (hl : ∀ b ∈ fp, b < s.heap.objs.size) (hC : s.heap.objs.size ≤ C) (old : ∀ b o, s.heap.get? b = some o → h1.get? b = some o) (ns : h1.Ns C m) :
  Inv (blk X N' sc C fp pins s H) [] (List.replicate n none ++ kp.map fun j => (σ[j]?).join) H { s with heap := h1, toks := tk } := by
 obtain ⟨o1, o2, o3, o4, o5, o6⟩ := zjq ok
 subst h0
 subst hN
 have hfr : ∀ y ∈ sc.names, y.2 = .free → ∃ c, X.env.cells.lookup y.1 = some c := fun y hy e => I.ok.has y.1 (.inl (o4 y hy e))
 have below : ∀ b, b < s.heap.objs.size → b ≠ C := fun b hb => Nat.ne_of_lt (Nat.lt_of_lt_of_le hb hC)
 refine ⟨zu1 I o1 o2 hfr hf hl hC, rfl, I.bare, Un.kept old, ⟨m, ns, fun i x v e1 e2 e3 => ?_⟩, fun x c e => ?_, I.hok.fresh hC, fun x c e => ?_, fun p hp => ?_, I.hok.kept old, ?_⟩
 ·have hi : n ≤ i := by
   by_cases z : n ≤ i
   ·exact z
   ·rw [List.getElem?_append_left (by rw [List.length_replicate]; omega), List.getElem?_replicate] at e2
    split at e2 <;> cases e2
  obtain ⟨j, rfl⟩ : ∃ j, i = n + j := ⟨i - n, by omega⟩
  obtain ⟨q, hq, hx, hm, hkd⟩ := o6 j x e1
  rw [List.getElem?_append_right (by rw [List.length_replicate]; omega), List.length_replicate, Nat.add_sub_cancel_left, List.getElem?_map, hq] at e2
  have e4 : (σ[q]?).join = some v := Option.some.inj e2
  have e2' : σ[q]? = some (some v) := by
   cases z : σ[q]? with
   | none => rw [z] at e4; cases e4
   | some w => rw [z] at e4; cases e4; rfl
  obtain ⟨c, hc⟩ := hfr _ hm rfl
  have kx : X.env.kindOf x = some .cell := o4 _ hm rfl
  obtain ⟨m', hn', hl'⟩ := I.loc
  obtain ⟨u, r, lk⟩ := hl' q x v hx e2' (.inr (.inl kx))
  refine ⟨u, r, .inr ⟨hkd, c, zfu hfr hm hc, ?_⟩⟩
  rcases lk with ⟨k, _⟩ | ⟨_, c', hc', hv⟩
  ·rw [kx] at k
   cases k
  ·rw [hc] at hc'
   cases hc'
   exact hv.keeps old
 ·obtain ⟨v, hv⟩ := I.cell x c (zbp hfr e)
  exact ⟨v, hv.keeps old⟩
 ·exact I.freeC x c (zbp hfr e)
 ·have hp' : p ∈ X.pn ++ pins := by
   have : p ∈ (X.pn ++ pins) ++ ([] : List (Addr × Obj)) := hp
   rw [List.append_nil] at this
   exact this
  obtain ⟨q1, q2, q3, q4, q5⟩ := I.pin p hp'
  refine ⟨old _ _ q1, q2, below _ (Heap.lt_size q1), fun z => ?_, q5⟩
  rcases List.mem_cons.mp (I.stkSub _ z) with r | r
  ·exact q3 r
  ·exact q4 r
 ·show (List.replicate n none ++ kp.map fun j => (σ[j]?).join).length = N'.length
  rw [List.length_append, List.length_replicate, List.length_map, o5]
theorem zqu {pins : List (Addr × Obj)} {s : Shared} {σ : St} {H : Hp} {Q : VK} {use : Option (Value → Sem Unit)} {Qf : Value → Shared → Prop} (hc : X.calm = true) (hi : PI X tg iter wi) (h0 : X.env.scope = sc0) (hN : X.N = XN) (ok : zpd sc0 sc XN N' n kp = true)
  (hg : ∀ C fp pins s H, PG (blk X N' sc C fp pins s H) tg g) (ht : ∀ C fp pins s H, PTs (blk X N' sc C fp pins s H) cs tc) (he : ∀ C fp pins s H, PE (blk X N' sc C fp pins s H) elt te) (hs : ∀ x, foldedSetIterable iter X.env x = pure x)
  (I : Inv X pins σ H s) (h : tLc n kp wi g tc te σ H Q)
  (fin : ∀ D C ys H' s', Inv X pins σ (upd H' D (.lst ys)) s' → (∃ m, s'.heap.Ns C m) → zhp X pins (upd H' D (.lst ys)) C → Q (.ref D) (upd H' D (.lst ys)) → compPost (model X.prog X.w) X.A X.xe use Qf (.ref D) C (.ok .next) s') {pos' : Pos} :
  wpAny (model X.prog X.w) X.A (comprehension (.ListComp elt [⟨tg, iter, cs, 0⟩] sc pos) sc X.env pos' (newList []) false (firstIter [⟨tg, iter, cs, 0⟩] X.env) use) Qf X.xe s := by
 obtain ⟨o1, o2, o3, o4, o5, o6⟩ := zjq ok
 have hfr : ∀ y ∈ sc.names, y.2 = .free → ∃ c, X.env.cells.lookup y.1 = some c := fun y hy e => I.ok.has y.1 (.inl (by rw [Env.kindOf, h0]; exact o4 y hy e))
 refine wpAny_comprehension_free (use := use) rfl hs (zor hfr) o1 o3 (thn (hi pins s σ H _ I h) fun v s1 h1 => thn h1 fun itv s2 h2 => ?_)
 obtain ⟨it, fp, tn, J, H2, rfl, I2, T, st2, f2, W, ⟨m0, w0⟩, turn⟩ := h2
 have hl : ∀ b ∈ fp, b < s2.heap.objs.size := fun b hb => by
  obtain ⟨o, e, _⟩ := T.obj 0 _ st2 b hb
  exact Heap.lt_size e
 refine wpAny_newObj_type (wpAny_newFunctionEnv o2 (by intro y hy; simp at hy) (fun h1 ns1 sb1 => ?_) o1)
 dsimp only at ns1 sb1 ⊢
 generalize hG : s2.heap.push { cls := .type "list", dict := none, data := .seq ([] : List Value).toArray } = G at ns1 sb1 ⊢
 have hGs : G.objs.size = s2.heap.objs.size + 1 := by rw [← hG, Heap.size_push]
 have hCl : s2.heap.objs.size ≤ G.objs.size := by omega
 have hDC : s2.heap.objs.size ≠ G.objs.size := by omega
 have old : ∀ b o, s2.heap.get? b = some o → h1.get? b = some o := fun b o e => by
  have lt := Heap.lt_size e
  exact sb1.extBut b o (Nat.ne_of_lt (Nat.lt_of_lt_of_le lt hCl)) (Heap.get?_push_of_some _ (hG ▸ Heap.get?_push_of_some _ e))
 have hD1 : h1.get? s2.heap.objs.size = some { cls := .type "list", data := .seq ([] : List Value).toArray 0 } :=
  sb1.extBut _ _ hDC (Heap.get?_push_of_some _ (hG ▸ Heap.get?_push_size _ rfl))
 have nD2 : H2 s2.heap.objs.size = none := I2.hok.fresh (Nat.le_refl _)
 have nC2 : H2 G.objs.size = none := I2.hok.fresh hCl
 have loop : ∀ s3 : Shared, s3 = { s2 with heap := h1, toks := s2.toks + ([] : List (Str × Value)).length } →
   codeAny (model X.prog X.w) X.A (.compLoop (.ListComp elt [⟨tg, iter, cs, 0⟩] sc pos) 0 (.ref it) (.ref s2.heap.objs.size) (compEnvC sc (zd8 sc X.env) G.objs.size X.env))
    (compPost (model X.prog X.w) X.A X.xe use Qf (.ref s2.heap.objs.size) G.objs.size) s3 := by
  rintro s3 rfl
  have I3 := zpp (fp := fp) (C := G.objs.size) (h1 := h1) (tk := s2.toks + ([] : List (Str × Value)).length) I2 h0 hN ok f2 hl hCl old ns1
  have stat : ∀ {H' : Hp} {o : Obj}, (∀ b ∈ fp, H' b = none) → ∀ b ∈ fp, zhp (blk X N' sc G.objs.size fp pins s2 H2) [(s2.heap.objs.size, o)] H' b := fun hn b hb => by
   have lt := hl b hb
   refine ⟨hn b hb, Nat.ne_of_lt (Nat.lt_of_lt_of_le lt hCl), I3.ok.exfs b hb, .inl hb, (I3.ok.exf b hb).2, fun p hp => ?_⟩
   rcases List.mem_append.mp hp with z | z
   ·exact (f2 b hb).2.2.2.2.2 p z
   ·have e : p.1 = s2.heap.objs.size := by rw [List.mem_singleton.mp z]
    rw [e]
    exact Nat.ne_of_gt lt
  have pinD : ∀ {σ' : St} {H' : Hp} {s' : Shared} {o : Obj}, Inv (blk X N' sc G.objs.size fp pins s2 H2) [] σ' H' s' → s'.heap.get? s2.heap.objs.size = some o → (∀ v, o.data ≠ .cell v) → H' s2.heap.objs.size = none →
    Inv (blk X N' sc G.objs.size fp pins s2 H2) [(s2.heap.objs.size, o)] σ' H' s' := fun {σ' H' s' o} J' e hd hn => J'.pins_of fun p hp => by
   rw [List.mem_singleton.mp hp]
   exact ⟨e, hn, hDC, fun z => by
    rcases List.mem_cons.mp (I2.stkSub _ z) with r | r
    ·exact absurd I2.lt (by rw [← r]; exact Nat.lt_irrefl _)
    ·exact I2.nofs (Nat.le_refl _) r, hd⟩
  refine zsp (fun k s' => ∃ (i : Nat) (ys : List V) (its : List Value) (c : Nat) (σ' : St) (H' : Hp), Inv (blk X N' sc G.objs.size fp pins s2 H2) [] σ' H' s' ∧ tn i s'.heap ∧ (∀ b ∈ fp, H' b = none) ∧
   s'.heap.get? s2.heap.objs.size = some { cls := .type "list", data := .seq its.toArray c } ∧ Vals ys its ∧ H' s2.heap.objs.size = none ∧ W i k ys σ' H') ?_ m0 _
   ⟨0, [], [], 0, _, H2, I3, T.keep _ _ _ st2 fun b _ o e => old b o e, fun b hb => (f2 b hb).1, hD1, .nil, nD2, w0⟩
  rintro k s' ⟨i, ys, its, c, σ', H', I', st', fr', hD', hv, nD, w'⟩
  obtain ⟨hz, cases⟩ := turn i k ys σ' H' w'
  have I'' := pinD I' hD' (fun v => by intro z; cases z) nD
  rcases cases with ⟨stop, q⟩ | ⟨go, N, hN2, step⟩
  ·refine thn (T.done (blk X N' sc G.objs.size fp pins s2 H2) rfl rfl rfl hc i _ s' σ' H' NoX I'' (stat fr') st' stop) fun r s4 ⟨hr, I4⟩ => ?_
   subst hr
   obtain ⟨e4, n4, _⟩ := I4.pin (s2.heap.objs.size, { cls := .type "list", data := .seq its.toArray c }) (List.mem_append_right _ (List.mem_singleton.mpr rfl))
   have u4 : Un (frs X.stack) fp H2 H' s2.heap s4.heap := I4.base
   have nC4 : H' G.objs.size = none := I4.free
   obtain ⟨m4, ns4, _⟩ := I4.loc
   have neD : ∀ b o, s2.heap.get? b = some o → b ≠ s2.heap.objs.size := fun b o e => Nat.ne_of_lt (Heap.lt_size e)
   have u5 : Un (frs X.stack) fp H2 (upd H' s2.heap.objs.size (.lst ys)) s2.heap s4.heap :=
    ⟨u4.keep, u4.slot, fun b o e nb hx => by rw [zap (neD b o e)]; exact u4.free b o e nb hx, u4.there, fun b xs e => by rw [zap (zax e nD2)]; exact u4.tups b xs e,
     fun b o u e => by rw [zap (zax e nD2)]; exact u4.frzs b o u e, fun b ps e => by rw [zap (zax e nD2)]; exact u4.tbls b ps e⟩
   have hok5 : HOk X.prog X.w (upd H' s2.heap.objs.size (.lst ys)) s4.heap := fun a o e => by
    by_cases ea : a = s2.heap.objs.size
    ·subst ea
     rw [zae] at e
     cases e
     exact ⟨hz, its, c, hv, e4⟩
    ·rw [zap ea] at e
     exact (I4.hok a o e).stay (fun _ _ _ q => q) (fun b q => by rw [zap (zax q nD)]; exact q) fun b xs q => by rw [zap (zax q nD)]; exact q
   have I5 : Inv X pins σ (upd H' s2.heap.objs.size (.lst ys)) s4 := I2.call' I4.os u5 hok5 I4.bare fun b hb => ⟨(f2 b hb).2.2.2.1, (f2 b hb).2.1, (f2 b hb).2.2.2.2.1, (f2 b hb).2.2.2.2.2⟩
   refine fin _ _ ys H' s4 I5 ⟨m4, ns4⟩ (I2.fpOk hCl ?_) (q _ nD)
   rw [zap (Ne.symm hDC)]
   exact nC4
  ·refine thn (T.item (blk X N' sc G.objs.size fp pins s2 H2) rfl rfl rfl hc i _ s' σ' H' NoX I'' (stat fr') st' go) fun r s4 ⟨u, hr, h4⟩ => ?_
   subst hr
   refine thn h4 fun _ s5 ⟨x, H5, I5, r5, y5, st5, fr5⟩ => ?_
   have I5' := I5.pinned (stat fr5) (T.obj _ _ st5)
   refine thn (hg _ _ _ _ _ _ s5 σ' H5 x u _ I5' r5 (step x H5 y5)) fun _ s6 ⟨σ6, H6, I6, q6⟩ => ?_
   refine thn (ht _ _ _ _ _ _ s6 σ6 H6 _ I6 q6) fun b s7 ⟨H7, I7, q7⟩ => ?_
   have back : ∀ {s8 : Shared} {H8 : Hp} (m' : Nat), Inv (blk X N' sc G.objs.size fp pins s2 H2) ([(s2.heap.objs.size, { cls := .type "list", data := .seq its.toArray c })] ++ zg8 fp s5.heap) σ6 H8 s8 →
     tn (i + 1) s8.heap ∧ (∀ b ∈ fp, H8 b = none) ∧ s8.heap.get? s2.heap.objs.size = some { cls := .type "list", data := .seq its.toArray c } ∧ H8 s2.heap.objs.size = none := fun {s8 H8} m' I8 => by
    have pn : ∀ p ∈ [(s2.heap.objs.size, ({ cls := .type "list", data := .seq its.toArray c } : Obj))] ++ zg8 fp s5.heap, s8.heap.get? p.1 = some p.2 ∧ H8 p.1 = none := fun p hp =>
     let ⟨a, b, _⟩ := I8.pin p (List.mem_append_right _ hp); ⟨a, b⟩
    refine ⟨T.keep _ _ _ st5 fun b hb o e => (pn (b, o) (List.mem_append_right _ (zek hb e))).1, fun b hb => ?_, pn _ (List.mem_append_left _ (List.mem_singleton.mpr rfl))⟩
    obtain ⟨o, e, _⟩ := T.obj _ _ st5 b hb
    exact (pn (b, o) (List.mem_append_right _ (zek hb e))).2
   have bare : ∀ {s8 : Shared} {H8 : Hp} {pl : List (Addr × Obj)}, Inv (blk X N' sc G.objs.size fp pins s2 H2) pl σ6 H8 s8 → Inv (blk X N' sc G.objs.size fp pins s2 H2) [] σ6 H8 s8 := fun I8 => I8.pins_of fun p hp => nomatch hp
   cases b with
   | false =>
    rw [if_neg Bool.false_ne_true] at q7 ⊢
    obtain ⟨m', lt, w7⟩ := hN2 _ _ _ q7
    obtain ⟨b1, b2, b3, b4⟩ := back m' I7
    exact ⟨m', lt, i + 1, ys, its, c, σ6, H7, bare I7, b1, b2, b3, hv, b4, w7⟩
   | true =>
    rw [if_pos rfl] at q7 ⊢
    refine thn (he _ _ _ _ _ _ s7 σ6 H7 _ I7 q7) fun y s8 ⟨yv, H8, I8, r8, q8⟩ => ?_
    obtain ⟨m', lt, w8⟩ := hN2 _ _ _ q8
    obtain ⟨b1, b2, b3, b4⟩ := back m' I8
    have hlen := hv.length
    refine append_at (hsz := by rw [List.size_toArray, ← hlen]; exact hz) b3 fun h9 sb9 e9 => ?_
    have I9 : Inv (blk X N' sc G.objs.size fp pins s2 H2) [] σ6 H8 { s8 with heap := h9 } := (bare I8).turned (t' := s8.toks) (it := s2.heap.objs.size) (fun b o hb e => sb9.extBut b o hb e) b4 hDC (.inr (Nat.le_refl _))
     (fun x c e z => by
      obtain ⟨v, hv⟩ := I2.cell x c (zbp hfr e)
      exact absurd hv.lt (by rw [z]; exact Nat.lt_irrefl _))
     fun p hp z => by
      have hp' : p ∈ X.pn ++ pins := by
       have : p ∈ (X.pn ++ pins) ++ ([] : List (Addr × Obj)) := hp
       rw [List.append_nil] at this
       exact this
      exact absurd (Heap.lt_size (I2.pin p hp').1) (by rw [z]; exact Nat.lt_irrefl _)
    refine ⟨m', lt, i + 1, ys ++ [yv], its ++ [y], c + 1, σ6, H8, I9, T.keep _ _ _ b1 fun b hb o e => sb9.extBut b o (Nat.ne_of_lt (hl b hb)) e, b2, ?_, hv.append (.cons r8 .nil), b4, w8⟩
    rw [e9]
    simp
 exact codeAny_compStart_list (loop _ rfl) (T.self _ 0 _ _ _ (T.keep _ _ _ st2 fun b _ o e => old b o e) (loop _ rfl))
theorem zd1 (hc : X.calm = true) (hi : PI X tg iter wi) (h0 : X.env.scope = sc0) (hN : X.N = XN) (ok : zpd sc0 sc XN N' n kp = true)
  (hg : ∀ C fp pins s H, PG (blk X N' sc C fp pins s H) tg g) (ht : ∀ C fp pins s H, PTs (blk X N' sc C fp pins s H) cs tc) (he : ∀ C fp pins s H, PE (blk X N' sc C fp pins s H) elt te)
  (hs : ∀ x, foldedSetIterable iter X.env x = pure x := by intro _; rfl) : PE X (.ListComp elt [⟨tg, iter, cs, 0⟩] sc pos) (tLc n kp wi g tc te) := by
 intro pins s σ H Q I h
 rw [eval_ListComp]
 refine zqu hc hi h0 hN ok hg ht he hs I h fun D C ys H' s' I' ns fp q => ?_
 obtain ⟨m, hm⟩ := ns
 refine ⟨m, hm, fun h' sb => ⟨.ref D, _, ?_, rfl, q⟩⟩
 obtain ⟨f1, f2, f3, f4, f5, f6⟩ := fp
 exact I'.turned (t' := s'.toks) (it := C) (fun b o hb e => sb.extBut b o hb e) f1 f2 f4 f5 f6
end
end L2
set_option maxRecDepth 100000
set_option maxHeartbeats 4000000
namespace L2
open PySem PySem.Spec PyProof.Rows
section
variable {X : Cx} {tg iter elt : Expr} {cs : List Expr} {sc sc0 : Scope} {pos : Pos} {wi : TI} {g : TG} {tc : TT} {te : TE} {XN N' : List Str} {n : Nat} {kp : List Nat}
theorem zfl {i : Nat} {y : Str} {py spos : Pos} (hNd : X.N.Nodup) (hiy : X.N[i]? = some y) (hy : X.env.scope.names.lookup y = some .local) (hsw : swapsWith (.ListComp elt [⟨tg, iter, cs, 0⟩] sc pos) (some (.Name y py)) spos.line X.env = pure true)
  (hc : X.calm = true) (hi : PI X tg iter wi) (h0 : X.env.scope = sc0) (hN : X.N = XN) (ok : zpd sc0 sc XN N' n kp = true)
  (hg : ∀ C fp pins s H, PG (blk X N' sc C fp pins s H) tg g) (ht : ∀ C fp pins s H, PTs (blk X N' sc C fp pins s H) cs tc) (he : ∀ C fp pins s H, PE (blk X N' sc C fp pins s H) elt te)
  (hs : ∀ x, foldedSetIterable iter X.env x = pure x := by intro _; rfl) : PS X (.Assign [.Name y py] (.ListComp elt [⟨tg, iter, cs, 0⟩] sc pos) spos) (zuv (tLc n kp wi g tc te) (zjs i)) := by
 intro pins s σ H D I h
 rw [exec_Assign_Name_used _ _ _ _ hsw]
 refine wpAny_bind (wpAny_standAt (wpAny_bind ?_))
 have fin : wpAny (model X.prog X.w) X.A (comprehension (.ListComp elt [⟨tg, iter, cs, 0⟩] sc pos) sc X.env (firstIterPos [⟨tg, iter, cs, 0⟩] pos) (newList []) false (firstIter [⟨tg, iter, cs, 0⟩] X.env) (some (assign (.Name y py) X.env)))
   (fun _ s' => SP X pins D .next s') X.xe s := by
  refine zqu (Q := fun x H1 => zjs i x σ H1 D.nx) hc hi h0 hN ok hg ht he hs I h fun D' C ys H' s' I' ns fp q => ?_
  obtain ⟨m, hm⟩ := ns
  obtain ⟨f1, f2, f3, f4, f5, f6⟩ := fp
  obtain ⟨o, es, ep, ho, rest⟩ := id hm
  have nc : ∀ v, o.data ≠ .cell v := fun v z => by
   rw [rest.1] at z
   cases z
  have I'' : Inv X (pins ++ [(C, o)]) σ (upd H' D' (.lst ys)) s' := I'.pins_of fun p hp => by
   rcases List.mem_append.mp hp with z | z
   ·exact I'.pin p (List.mem_append_right _ z)
   ·rw [List.mem_singleton.mp z]
    exact ⟨ho, f1, f2, f3, nc⟩
  show wpAny (model X.prog X.w) X.A (assign (.Name y py) X.env (.ref D')) _ X.xe s'
  refine thn (za0 hNd hiy (.inl hy) (.inr hy) _ s' σ _ (.ref D') (.ref D') D.nx I'' rfl q) fun _ s'' ⟨σ3, H3, I3, q3⟩ => ?_
  obtain ⟨p1, p2, _⟩ := I3.pin (C, o) (List.mem_append_right _ (List.mem_append_right _ (List.mem_singleton.mpr rfl)))
  refine ⟨m, ⟨o, es, ep, p1, rest⟩, fun h' sb => ⟨σ3, H3, ?_, q3⟩⟩
  exact I3.unpinned.turned (t' := s''.toks) (it := C) (fun b o hb e => sb.extBut b o hb e) p2 f2 f4 f5 f6
 show wpAny (model X.prog X.w) X.A (comprehension _ _ _ _ _ _ _ _ >>= _) _ _ s
 exact wpAny_bind (thn fin fun _ s' q => wpAny_pure (wpAny_pure q))
end
section
variable {X : Cx}
def zoj (T C : String) : Option Bool := if T = C then some true else if PySem.W.kitMeta C = true then (fastBuiltinMro T).map (·.contains (.type C)) else none
theorem zus {K : PySem.W.Frag} {T C : String} {b : Bool} (h : zoj T C = some b) : PySem.W.kitOne K (.type T) (.type C) = some b := by
 unfold zoj at h
 unfold PySem.W.kitOne
 by_cases e : T = C
 ·subst e
  rw [if_pos rfl] at h
  rw [if_pos (beq_self_eq_true _)]
  exact h
 ·rw [if_neg e] at h
  have z : ¬ (Value.type T == Value.type C) = true := fun q => by
   have q' := eq_of_beq q
   injection q' with q''
   exact e q''
  rw [if_neg z]
  exact h
theorem zrf : zc6 X (.builtin "isinstance") (fun xs H Q => ∃ (x : V) (T C : String) (b : Bool), xs = [x, .ty C] ∧ zg0 X.K H x (.type T) ∧ zoj T C = some b ∧ Q (.bl b) H) := by
 intro pins s σ H xs us Q I r h
 obtain ⟨x, T, C, b, rfl, ty, e, q⟩ := h
 obtain ⟨u, w', rfl, rx, ry⟩ := ztz r
 cases (show w' = Value.type C from ry)
 exact zpm I rx ty (zus e) fun tk => ⟨.bl b, H, I.tok tk, rfl, q⟩
theorem zsi : MtR X "int.bit_length" (fun x xs H Q => ∃ i : Int, x = .int i ∧ xs = [] ∧ Q (.int (Builtin.Int.intBits i : Nat)) H) := by
 intro pins s σ H x xs v us Q I rx r h
 obtain ⟨i, rfl, rfl, q⟩ := h
 obtain ⟨t, rfl⟩ := rx
 cases r
 exact call_int_bit_length ⟨.int _, H, I.tok _, ⟨_, rfl⟩, q⟩
theorem zpl (bs : List Bool) : ((List.range bs.length).all fun i => (bs[i]?).getD true) = bs.all id := by
 rw [Bool.eq_iff_iff, List.all_eq_true, List.all_eq_true]
 refine ⟨fun h b hb => ?_, fun h i hi => ?_⟩
 ·obtain ⟨i, hi, rfl⟩ := List.getElem_of_mem hb
  have := h i (List.mem_range.mpr hi)
  rw [List.getElem?_eq_getElem hi] at this
  exact this
 ·have hi' := List.mem_range.mp hi
  show (bs[i]?).getD true = true
  rw [List.getElem?_eq_getElem hi']
  exact h _ (List.getElem_mem hi')
theorem znd (hc : X.calm = true) : zc6 X (.builtin "all") (fun xs H Q => ∃ (p : Addr) (bs : List Bool), xs = [.ref p] ∧ SqL X.K H p (bs.map V.bl) ∧ Q (.bl (bs.all id)) H) := by
 intro pins s σ H xs us Q I r h
 obtain ⟨p, bs, rfl, hq, q⟩ := h
 obtain ⟨u, rfl, rx⟩ := zd7 r
 cases rx
 obtain ⟨its, rv, pl, hz⟩ := I.list hq
 have hl := pl.isList
 have hlt : p < s.heap.objs.size := by obtain ⟨_, e, _⟩ := hl; exact Heap.lt_size e
 refine call_all_walk (wpAny_pyIter_list hl ?_)
 refine ⟨s.heap.objs.size, [s.heap.objs.size, p], [s.heap.objs.size], its.toArray.size, _, _, fun i => (bs[i]?).getD true, rfl, Walks.list (A := X.A.in1) (I.ok.hd hc) _ p (Nat.ne_of_lt hlt) its.toArray,
  ⟨⟨_, Heap.get?_push_size _ rfl, rfl, rfl⟩, hl.push _⟩, fun i v s' Q' E' hP hQ => ?_, fun h' tk hk => ?_⟩
 ·have e : its[i]? = some v := by simpa using hP
  have hlen := rv.length
  rw [List.length_map] at hlen
  have hi : i < bs.length := by
   have := (List.getElem?_eq_some_iff.mp e).1
   omega
  obtain ⟨u, hu, ru⟩ := rv.get (i := i) (x := .bl bs[i]) (by rw [List.getElem?_map, List.getElem?_eq_getElem hi]; rfl)
  rw [e] at hu
  cases hu
  cases (show v = Value.bool bs[i] from ru)
  dsimp only at hQ
  rw [List.getElem?_eq_getElem hi] at hQ
  exact wpAny_truthy_bool hQ
 ·have hlen := rv.length
  rw [List.length_map] at hlen
  have e : ((List.range its.toArray.size).all fun i => (bs[i]?).getD true) = bs.all id := by
   rw [List.size_toArray, ← hlen]
   exact zpl bs
  rw [e]
  refine ⟨.bl _, H, I.kept (t' := tk) fun b o eb => hk b o (fun hm => ?_) (Heap.get?_push_of_some _ eb), rfl, q⟩
  rw [List.mem_singleton.mp hm] at eb
  exact Nat.lt_irrefl _ (Heap.lt_size eb)
end
end L2
set_option maxRecDepth 100000
set_option maxHeartbeats 4000000
namespace L2
open PySem PySem.Spec PyProof.Rows
section
variable {prog : Program} {w : World} {A : Around} {E : Value → Shared → Prop} {s : Shared}
open AutoSeq1 (wpAny_loadPart') in
end
section
variable {X : Cx} {pins : List (Addr × Obj)} {σ : St} {H : Hp} {s : Shared}
end
end L2
set_option maxRecDepth 100000
set_option maxHeartbeats 4000000
namespace L2
open PySem PySem.Spec PyProof.Rows
section
variable {X : Cx}
theorem zoc {P : Nat → Value → Prop} {f : Nat → V} (hP : ∀ i v, P i v → RelV (f i) v) : ∀ (n k : Nat) (l : List Value), l.length = n → (∀ j v, l[j]? = some v → P (k + j) v) → Vals ((List.range' k n).map f) l
 | 0, k, [], _, _ => .nil
 | n + 1, k, v :: r, hl, h => by
  rw [List.range'_succ, List.map_cons]
  refine .cons (hP _ _ (h 0 v rfl)) (zoc hP n (k + 1) r (by simpa using hl) fun j v' e => ?_)
  have := h (j + 1) v' (by simpa using e)
  rw [show k + 1 + j = k + (j + 1) by omega]
  exact this
 | 0, _, _ :: _, hl, _ => by simp at hl
 | n + 1, _, [], hl, _ => by simp at hl
theorem zj0 (hc : X.calm = true) : zc6 X (.type "list") (fun xs H Q => ∃ (p : Addr) (lo hi : Int), xs = [.ref p] ∧ H p = some (.rng lo hi) ∧ -(2 ^ 62) ≤ lo ∧ lo < 2 ^ 62 ∧ -(2 ^ 62) ≤ hi ∧ hi < 2 ^ 62 ∧ (hi - lo).toNat ≤ 1000 ∧ ∀ l, H l = none → Q (.ref l) (upd H l (.lst ((List.range' 0 (hi - lo).toNat).map fun i : Nat => V.int (lo + i))))) := by
 intro pins s σ H xs us Q I r h
 obtain ⟨p, lo, hi, rfl, hp, b1, b2, b3, b4, hz, q⟩ := h
 obtain ⟨u, rfl, rx⟩ := zd7 r
 cases rx
 obtain ⟨t, u, v, e⟩ := (show ObjOk X.prog X.w H s.heap p (.rng lo hi) from I.hok p _ hp)
 have hn : Builtin.Range.rangeSize lo hi 1 = (((hi - lo).toNat : Nat) : Int) := by
  rw [rangeSize_one]
  split <;> omega
 refine call_list_range (I.ok.hd hc) e (small_one b1 b2 b3 b4) hn (Nat.le_trans hz (by decide)) fun g tk acc c kk eg hi' => ?_
 obtain ⟨sz, it⟩ := hi'
 have vv : Vals ((List.range' 0 (hi - lo).toNat).map fun i : Nat => V.int (lo + i)) acc.toList := by
  refine zoc (P := fun i v => ∃ t, v = .int (lo + i * 1) t) (fun i v hv => ?_) _ 0 acc.toList (by simpa using sz) fun j v ej => ?_
  ·obtain ⟨t, rfl⟩ := hv
   exact ⟨t, by rw [Int.mul_one]⟩
  ·have := it j v (by simpa using ej)
   rw [Nat.zero_add]
   exact this
 refine ⟨.ref s.heap.objs.size, _, I.laid (t' := tk) kk (Nat.le_refl _) (show ObjOk X.prog X.w _ _ _ (.lst _) from ⟨?_, acc.toList, c, vv, eg⟩), rfl, q _ (I.hok.fresh (Nat.le_refl _))⟩
 rw [List.length_map, List.length_range']
 exact Nat.le_of_lt (zct hz)
open AutoSeq1 (wpAny_loadPart') in
def zwm (K : PySem.W.Frag) (tl : TE) : TI := fun σ H R => tl σ H fun x H1 => ∃ a, x = .ref a ∧ (((∃ xs, SqL K H1 a xs) ∧ R (Itl K a) H1) ∨ ((∃ xs, SqT K H1 a xs) ∧ R (Itt K a) H1))
theorem zug {tg l : Expr} {tl : TE} (hl : PE X l tl) : PI X tg l (zwm X.K tl) := by
 intro pins s σ H R I h
 refine thn (hl pins s σ H _ I h) fun v s1 ⟨x, H1, I1, r1, q1⟩ => ?_
 obtain ⟨a, rfl, q⟩ := q1
 cases r1
 rcases q with ⟨⟨xs, hq⟩, q⟩ | ⟨⟨xs, hq⟩, q⟩
 ·obtain ⟨its, rv, p, hz⟩ := I1.list hq
  refine wpAny_pyIter_list p.isList ⟨s1.heap.objs.size, [s1.heap.objs.size], _, _, H1, rfl, I1.kept (t' := s1.toks) fun b o e => Heap.get?_push_of_some _ e, zkk a _, ⟨_, Heap.get?_push_size _ rfl, rfl, rfl⟩, fun b hb => ?_, q⟩
  rw [List.mem_singleton.mp hb]
  exact I1.fpOk (Nat.le_refl _) (I1.hok.fresh (Nat.le_refl _))
 ·obtain ⟨its, rv, p, hz⟩ := I1.tuple hq
  refine wpAny_pyIter_tuple (show s1.heap.IsTuple a its.toArray from p) ⟨s1.heap.objs.size, [s1.heap.objs.size], _, _, H1, rfl, I1.kept (t' := s1.toks) fun b o e => Heap.get?_push_of_some _ e, zix a _, ⟨_, Heap.get?_push_size _ rfl, rfl, rfl⟩, fun b hb => ?_, q⟩
  rw [List.mem_singleton.mp hb]
  exact I1.fpOk (Nat.le_refl _) (I1.hok.fresh (Nat.le_refl _))
theorem zb7 (hc : X.calm = true) : zc6 X (.builtin "sum") (fun xs H Q => ∃ (p : Addr) (ns : List Int), xs = [.ref p] ∧ SqL X.K H p (ns.map V.int) ∧ Q (.int ns.sum) H) := by
 intro pins s σ H xs us Q I r h
 obtain ⟨p, ns, rfl, hq, q⟩ := h
 obtain ⟨u, rfl, rx⟩ := zd7 r
 cases rx
 obtain ⟨its, rv, pl, hz'⟩ := I.list hq
 have ia := zi0 rv
 obtain ⟨ps, hx⟩ := ia.allInts.items
 have hl' : s.heap.IsList p (intItems ps) := hx ▸ pl.isList
 refine sum_intListG (I.ok.hd hc) hl' fun g tk t' hk => ?_
 have e1 : ns = ps.toList.map (·.1) := by
  rw [← nums_intItems, ← hx]
  exact (show numsOf its.toArray.toList = ns from ia.numsOf).symm
 have e2 : preSum (numAt ps) ps.size = ns.sum := by
  rw [preSum_eq, List.take_of_length_le (by simp), e1]
 rw [e2]
 exact ⟨.int _, H, I.kept (t' := tk) hk, ⟨t', rfl⟩, q⟩
end
section
variable {X : Cx} {K : PySem.W.Frag}
theorem ixT (h : X.K = K := by rfl) : IxR X (zvn K) := h ▸ zld
theorem ixL (h : X.K = K := by rfl) : IxR X (zvg K) := h ▸ zs8
theorem zdd (h : X.K = K := by rfl) : zc6 X (.builtin "len") (fun xs H Q => ∃ p ys, xs = [.ref p] ∧ (SqL K H p ys ∨ SqT K H p ys) ∧ Q (.int ys.length) H) := h ▸ zk4
theorem zwp (h : X.K = K := by rfl) : zc6 X (.builtin "isinstance") (fun xs H Q => ∃ (x : V) (T C : String) (b : Bool), xs = [x, .ty C] ∧ zg0 K H x (.type T) ∧ zoj T C = some b ∧ Q (.bl b) H) := h ▸ zrf
end
mutual
def Dn (H : Hp) : PyData → V → Prop
 | .none, v => v = .non
 | .bool b, v => v = .bl b
 | .int i, v => v = .int i
 | .str x, v => v = .str x
 | .list ds, v => ∃ a xs, v = .ref a ∧ H a = some (.lst xs) ∧ DnL H ds xs
 | .tuple ds, v => ∃ a xs, v = .ref a ∧ H a = some (.tup xs) ∧ DnL H ds xs
 | .dict kvs, v => kvs = [] ∧ ∃ a, v = .ref a ∧ H a = some (.dK [])
def DnL (H : Hp) : List PyData → List V → Prop
 | [], xs => xs = []
 | d :: ds, xs => ∃ x r, xs = x :: r ∧ Dn H d x ∧ DnL H ds r
end
mutual
theorem Dn.same {H H' : Hp} (h : Same H H') : ∀ (d : PyData) (v : V), Dn H d v → Dn H' d v
 | .none, _, q => q
 | .bool _, _, q => q
 | .int _, _, q => q
 | .str _, _, q => q
 | .list ds, _, ⟨a, xs, e, q, r⟩ => ⟨a, xs, e, h _ _ q, DnL.same h ds xs r⟩
 | .tuple ds, _, ⟨a, xs, e, q, r⟩ => ⟨a, xs, e, h _ _ q, DnL.same h ds xs r⟩
 | .dict _, _, ⟨e, a, q, r⟩ => ⟨e, a, q, h _ _ r⟩
theorem DnL.same {H H' : Hp} (h : Same H H') : ∀ (ds : List PyData) (xs : List V), DnL H ds xs → DnL H' ds xs
 | [], _, q => q
 | d :: ds, _, ⟨x, r, e, q, z⟩ => ⟨x, r, e, Dn.same h d x q, DnL.same h ds r z⟩
end
theorem DnL.length {H : Hp} : ∀ {ds : List PyData} {xs : List V}, DnL H ds xs → ds.length = xs.length
 | [], _, q => by cases (show _ = [] from q); rfl
 | d :: ds, _, ⟨x, r, e, _, z⟩ => by rw [e, List.length_cons, List.length_cons, DnL.length z]
theorem DnL.get {H : Hp} : ∀ {ds : List PyData} {xs : List V} {i : Nat} {x : V}, DnL H ds xs → xs[i]? = some x → ∃ d, ds[i]? = some d ∧ Dn H d x
 | [], _, i, x, q, e => by rw [(show _ = [] from q)] at e; simp at e
 | d :: ds, _, 0, x, ⟨y, r, e, q, z⟩, h => by rw [e] at h; cases h; exact ⟨d, rfl, q⟩
 | d :: ds, _, i + 1, x, ⟨y, r, e, q, z⟩, h => by
  rw [e] at h
  obtain ⟨d', h1, h2⟩ := DnL.get (i := i) z (by simpa using h)
  exact ⟨d', by simpa using h1, h2⟩
theorem DnL.get' {H : Hp} : ∀ {ds : List PyData} {xs : List V} {i : Nat} {d : PyData}, DnL H ds xs → ds[i]? = some d → ∃ x, xs[i]? = some x ∧ Dn H d x
 | [], _, i, x, q, e => by simp at e
 | d :: ds, _, 0, x, ⟨y, r, e, q, z⟩, h => by cases h; exact ⟨y, by rw [e]; rfl, q⟩
 | d :: ds, _, i + 1, x, ⟨y, r, e, q, z⟩, h => by
  obtain ⟨d', h1, h2⟩ := DnL.get' (i := i) z (by simpa using h)
  exact ⟨d', by rw [e]; simpa using h1, h2⟩
theorem DnL.append {H : Hp} : ∀ {ds es : List PyData} {xs ys : List V}, DnL H ds xs → DnL H es ys → DnL H (ds ++ es) (xs ++ ys)
 | [], es, xs, ys, q, r => by rw [(show xs = [] from q)]; exact r
 | d :: ds, es, _, ys, ⟨x, t, e, q, z⟩, r => ⟨x, t ++ ys, by rw [e]; rfl, q, DnL.append z r⟩
mutual
theorem Dn.reads {X : Cx} {pins : List (Addr × Obj)} {σ : St} {H : Hp} {s : Shared} (I : Inv X pins σ H s) : ∀ (d : PyData) (v : V) (u : Value), Dn H d v → d.canLay0 = true → RelV v u → ∃ as, Reads s.heap u d as
 | .none, v, u, q, _, r => by cases (show v = .non from q); cases (show u = Value.none from r); exact ⟨_, .none⟩
 | .bool b, v, u, q, _, r => by cases (show v = .bl b from q); cases (show u = Value.bool b from r); exact ⟨_, .bool b⟩
 | .int i, v, u, q, _, r => by cases (show v = .int i from q); obtain ⟨t, rfl⟩ := (show ∃ t, u = Value.int i t from r); exact ⟨_, .int i t⟩
 | .str x, v, u, q, _, r => by cases (show v = .str x from q); obtain ⟨t, rfl⟩ := (show ∃ t, u = Value.str x t from r); exact ⟨_, .str x t⟩
 | .list ds, _, u, ⟨a, xs, rfl, q, z⟩, c, r => by
  cases (show u = Value.ref a from r)
  obtain ⟨_, its, n, rv, e⟩ := (show ObjOk X.prog X.w H s.heap a (.lst xs) from I.hok a _ q)
  obtain ⟨as, ra⟩ := DnL.reads I ds xs its z (by simpa [PyData.canLay0] using c) rv
  exact ⟨_, .list e rfl rfl (by simpa using ra)⟩
 | .tuple ds, _, u, ⟨a, xs, rfl, q, z⟩, c, r => by
  cases (show u = Value.ref a from r)
  obtain ⟨_, its, rv, o, e, hc, n, hd⟩ := (show ObjOk X.prog X.w H s.heap a (.tup xs) from I.hok a _ q)
  obtain ⟨as, ra⟩ := DnL.reads I ds xs its z (by simpa [PyData.canLay0] using c) rv
  exact ⟨_, .tuple e hc hd (by simpa using ra)⟩
 | .dict k, v, u, _, c, _ => by simp [PyData.canLay0] at c
theorem DnL.reads {X : Cx} {pins : List (Addr × Obj)} {σ : St} {H : Hp} {s : Shared} (I : Inv X pins σ H s) : ∀ (ds : List PyData) (xs : List V) (us : List Value), DnL H ds xs → PyData.canLayAll0 ds = true → Vals xs us → ∃ as, ReadsAll s.heap us ds as
 | [], xs, us, q, _, r => by
  cases (show xs = [] from q)
  cases r
  exact ⟨_, .nil⟩
 | d :: ds, _, us, ⟨x, t, rfl, q, z⟩, c, r => by
  cases r with
  | cons rx rt =>
   have c' : PyData.canLay0 d = true ∧ PyData.canLayAll0 ds = true := by simpa [PyData.canLayAll0] using c
   obtain ⟨a1, r1⟩ := Dn.reads I d x _ q c'.1 rx
   obtain ⟨a2, r2⟩ := DnL.reads I ds t _ z c'.2 rt
   exact ⟨_, .cons r1 r2⟩
end
mutual
theorem zq0 : ∀ d : PyData, d.canLay0 = true → PyData.eqv d d = true
 | .none, _ => by simp [PyData.eqv]
 | .bool _, _ => by simp [PyData.eqv]
 | .int _, _ => by simp [PyData.eqv]
 | .str _, _ => by simp [PyData.eqv]
 | .list ds, c => by simpa [PyData.eqv] using zfn ds (by simpa [PyData.canLay0] using c)
 | .tuple ds, c => by simpa [PyData.eqv] using zfn ds (by simpa [PyData.canLay0] using c)
 | .dict _, c => by simp [PyData.canLay0] at c
theorem zfn : ∀ ds : List PyData, PyData.canLayAll0 ds = true → PyData.eqvAll ds ds = true
 | [], _ => by simp [PyData.eqvAll]
 | d :: ds, c => by
  have c' : PyData.canLay0 d = true ∧ PyData.canLayAll0 ds = true := by simpa [PyData.canLayAll0] using c
  simp [PyData.eqvAll, zq0 d c'.1, zfn ds c'.2]
end
end L2
set_option maxRecDepth 100000
set_option maxHeartbeats 4000000
namespace Wd
open PySem L2
def isW : PyData → Bool
 | .int _ => true
 | _ => false
def zcq (d : PyData) (lo hi : Int) : Bool := match d with
 | .int i => decide (lo ≤ i) && decide (i ≤ hi)
 | _ => false
def zih (d : PyData) : Bool := match d with
 | .tuple ds => decide (0 < ds.length)
 | _ => false
def zbg (many : Int) : List PyData → Int → Bool
 | [], _ => true
 | .int i :: ds, last => decide (last + 1 ≤ i) && decide (i ≤ many - 1) && zbg many ds i
 | _ :: _, _ => false
def zwb (many : Int) : PyData → PyData → Bool
 | .int up, .tuple ks => zbg many ks up
 | _, _ => false
def zvf (h : PyData) : PyData → Bool
 | .tuple ks => zcq h 1 ks.length
 | _ => false
def zwr (l : PyData) : PyData → Bool
 | .int hi => zcq l 0 hi
 | _ => false
def zeq (many : Int) (d : PyData) : Bool := match d with
 | .tuple [u, l, h, k] => zcq u 0 (many - 1) && (zih k && (zwb many u k && (zvf h k && zwr l h)))
 | _ => false
def zp5 : PyData → PyData
 | .tuple (x :: _) => x
 | _ => .none
def zhr : PyData → Bool
 | .tuple [_, n] => isW n
 | _ => false
def zmr (many : Int) (d : PyData) : Bool := match d with
 | .tuple ds => decide (0 < ds.length) && ds.all zhr && zbg many (ds.map zp5) (-1)
 | _ => false
def neI : PyData → PyData → Bool
 | .int i, .int j => !decide (i = j)
 | _, _ => false
def zpg (many : Int) (s : Str) (x y : PyData) : Bool := if s = ("most" : Str) then isW x && zmr many y else if s = ("needs" : Str) ∨ s = ("bans" : Str) then zcq x 0 (many - 1) && (zcq y 0 (many - 1) && neI x y) else false
def zvi (many : Int) (x y : PyData) : PyData → Bool
 | .str s => zpg many s x y
 | _ => false
def zh2 (many : Int) (d : PyData) : Bool := match d with
 | .tuple [k, x, y] => zvi many x y k
 | _ => false
def toI : PyData → Int
 | .int i => i
 | _ => 0
def zlc : PyData → List Int
 | .tuple [_, _, _, .tuple ks] => ks.map toI
 | _ => []
structure zr7 (many : Int) (bs : List PyData) : Prop where
 each : ∀ b ∈ bs, zeq many b = true
 kids : (bs.flatMap zlc).Perm ((List.range' 0 (many - 1).toNat).map fun i : Nat => (1 : Int) + i)
theorem zai {H : Hp} {p : Addr} (h : H p = none) (o : HO) : Same H (upd H p o) := zik fun b u q => by rw [zap (zax q h)]; exact q
theorem small {n : Nat} (h : n ≤ 1000) : n ≤ sizeLine := Nat.le_of_lt (zct h)
theorem zdb {H : Hp} {i : Int} {v : V} (h : Dn H (.int i) v) : v = .int i := h
theorem zbo {H : Hp} {ds : List PyData} {v : V} (h : Dn H (.tuple ds) v) : ∃ a xs, v = .ref a ∧ H a = some (.tup xs) ∧ DnL H ds xs := h
theorem zot {d : PyData} (h : isW d = true) : ∃ i, d = .int i := by
 cases d <;> first | exact ⟨_, rfl⟩ | cases h
theorem sqT {K : PySem.W.Frag} {H : Hp} {a : Addr} {xs : List V} (h : H a = some (.tup xs)) : SqT K H a xs := .inl (.inl h)
theorem at0 {x : V} {r : List V} : atI (x :: r) 0 = some x := zb9 (j := 0) rfl
theorem at1 {x y : V} {r : List V} : atI (x :: y :: r) 1 = some y := zb9 (j := 1) rfl
theorem at2 {x y z : V} {r : List V} : atI (x :: y :: z :: r) 2 = some z := zb9 (j := 2) rfl
theorem at3 {x y z w : V} {r : List V} : atI (x :: y :: z :: w :: r) 3 = some w := zb9 (j := 3) rfl
theorem zde {d : PyData} {lo hi : Int} (h : zcq d lo hi = true) : ∃ i, d = .int i ∧ lo ≤ i ∧ i ≤ hi := by
 cases d with
 | int i =>
  have z : (decide (lo ≤ i) && decide (i ≤ hi)) = true := h
  simp only [Bool.and_eq_true, decide_eq_true_eq] at z
  exact ⟨i, rfl, z.1, z.2⟩
 | _ => cases h
theorem zl3 {d : PyData} (h : zih d = true) : ∃ ds, d = .tuple ds ∧ 0 < ds.length := by
 cases d with
 | tuple ds => exact ⟨ds, rfl, of_decide_eq_true h⟩
 | _ => cases h
theorem zmu {H : Hp} : ∀ {ns : List Int} {xs : List V}, DnL H (ns.map PyData.int) xs → xs = ns.map V.int
 | [], xs, h => h
 | n :: r, _, ⟨x, t, rfl, hx, ht⟩ => by rw [zmu ht, zdb hx]; rfl
theorem zl0 {H : Hp} : ∀ (ns : List Int), DnL H (ns.map PyData.int) (ns.map V.int)
 | [] => rfl
 | n :: r => ⟨_, _, rfl, rfl, zl0 r⟩
end Wd
set_option maxRecDepth 100000
set_option maxHeartbeats 4000000
namespace Ow
open PySem L2 Wd
structure WoodAt (H : Hp) (wd : Addr) (many : Int) (xs ys : List V) : Prop where
 ex : ∃ tb tc, H wd = some (.tup [.int many, .ref tb, .ref tc]) ∧ H tb = some (.tup xs) ∧ H tc = some (.tup ys)
def zvc : Sp := fun vs H Q _ => ∃ (wd : Addr) (many : Int) (xs ys : List V), vs = [.ref wd] ∧ WoodAt H wd many xs ys ∧ Q (.int ((xs.length : Int) + (ys.length : Int))) H
def zs3 : Sp := fun vs H Q _ => ∃ (wd : Addr) (many : Int) (xs ys : List V) (t : Nat) (v : V), vs = [.ref wd, .int t] ∧ WoodAt H wd many xs ys ∧ (xs ++ ys)[t]? = some v ∧ Q v H
theorem zlp {α β : Type} {f : α → List β} {ds : List α} {i : Nat} {d : α} (h : ds[i]? = some d) : (ds.take (i + 1)).flatMap f = (ds.take i).flatMap f ++ f d := by
 obtain ⟨hi, e⟩ := List.getElem?_eq_some_iff.mp h
 rw [List.take_succ_eq_append_getElem hi, List.flatMap_append, e]
 simp
def zbe : Nat → PyData → Bool
 | _, .int _ => true
 | _, .str s => PyData.strOk s
 | n + 1, .tuple ds => decide (ds.length ≤ 1000) && ds.all (zbe n)
 | _, _ => false
theorem zrr {many one x : Int} (h1 : 1 < many) (h9 : many ≤ 9) (o0 : 0 ≤ one) (o1 : one < many) (x0 : 0 ≤ x) (x1 : x < many - 1) : 0 ≤ (one + 1 + x) % many ∧ (one + 1 + x) % many < many ∧ one ≠ (one + 1 + x) % many := by
 have e : many = 2 ∨ many = 3 ∨ many = 4 ∨ many = 5 ∨ many = 6 ∨ many = 7 ∨ many = 8 ∨ many = 9 := by omega
 rcases e with rfl | rfl | rfl | rfl | rfl | rfl | rfl | rfl <;> omega
theorem zny : PyData.strOk ("most" : Str) = true := by decide +kernel
theorem zm3 : PyData.strOk ("needs" : Str) = true := by decide +kernel
theorem znq : PyData.strOk ("bans" : Str) = true := by decide +kernel
theorem zub {m : Nat} (h : m ≤ 9) : 2 ^ m ≤ 512 := Nat.pow_le_pow_right (by decide) h
structure PairsTo (H : Hp) (i : Nat) (ps : List PyData) (xs : List V) : Prop where
 dn : DnL H ps xs
 ok : ps.all zhr = true
 flat : ps.all (zbe 1) = true
 ris : zbg (i : Int) (ps.map zp5) (-1) = true
 few : ps.length ≤ i
theorem zdr {m m' : Int} (h : m ≤ m') : ∀ {ks : List PyData} {u : Int}, zbg m ks u = true → zbg m' ks u = true
 | [], _, _ => rfl
 | .int i :: ks, u, z => by
  have z' : (decide (u + 1 ≤ i) && decide (i ≤ m - 1) && zbg m ks i) = true := z
  show (decide (u + 1 ≤ i) && decide (i ≤ m' - 1) && zbg m' ks i) = true
  simp only [Bool.and_eq_true, decide_eq_true_eq] at z' ⊢
  exact ⟨⟨z'.1.1, by omega⟩, zdr h z'.2⟩
 | .none :: _, _, z => by cases z
 | .bool _ :: _, _, z => by cases z
 | .str _ :: _, _, z => by cases z
 | .list _ :: _, _, z => by cases z
 | .tuple _ :: _, _, z => by cases z
 | .dict _ :: _, _, z => by cases z
theorem zdo {m j : Int} (h : j < m) : ∀ {ks : List PyData} {u : Int}, zbg j ks u = true → u < j → zbg m (ks ++ [.int j]) u = true
 | [], u, _, hu => by
  show (decide (u + 1 ≤ j) && decide (j ≤ m - 1) && true) = true
  rw [decide_eq_true (by omega), decide_eq_true (by omega)]
  rfl
 | .int i :: ks, u, z, hu => by
  have z' : (decide (u + 1 ≤ i) && decide (i ≤ j - 1) && zbg j ks i) = true := z
  show (decide (u + 1 ≤ i) && decide (i ≤ m - 1) && zbg m (ks ++ [.int j]) i) = true
  simp only [Bool.and_eq_true, decide_eq_true_eq] at z' ⊢
  exact ⟨⟨z'.1.1, by omega⟩, zdo h z'.2 (by omega)⟩
 | .none :: _, _, z, _ => by cases z
 | .bool _ :: _, _, z, _ => by cases z
 | .str _ :: _, _, z, _ => by cases z
 | .list _ :: _, _, z, _ => by cases z
 | .tuple _ :: _, _, z, _ => by cases z
 | .dict _ :: _, _, z, _ => by cases z
theorem DnL.keepT {H H' : Hp} {f : PyData → Bool} (k : ∀ d v, f d = true → Dn H d v → Dn H' d v) : ∀ (ds : List PyData) (xs : List V), ds.all f = true → DnL H ds xs → DnL H' ds xs
 | [], _, _, q => q
 | d :: ds, _, c, ⟨x, r, e, q, z⟩ => by
  rw [List.all_cons, Bool.and_eq_true] at c
  exact ⟨x, r, e, k d x c.1 q, DnL.keepT k ds r c.2 z⟩
theorem Dn.keepT {H H' : Hp} (h : ∀ b xs, H b = some (.tup xs) → H' b = some (.tup xs)) : ∀ (n : Nat) (d : PyData) (v : V), zbe n d = true → Dn H d v → Dn H' d v
 | _, .int _, _, _, q => q
 | _, .str _, _, _, q => q
 | n + 1, .tuple ds, _, c, ⟨p, xs, e, q, z⟩ => ⟨p, xs, e, h _ _ q, DnL.keepT (Dn.keepT h n) ds xs ((Bool.and_eq_true _ _).mp c).2 z⟩
 | 0, .tuple ds, _, c, _ => by cases c
 | 0, .none, _, c, _ => by cases c
 | n + 1, .none, _, c, _ => by cases c
 | 0, .bool _, _, c, _ => by cases c
 | n + 1, .bool _, _, c, _ => by cases c
 | 0, .list _, _, c, _ => by cases c
 | n + 1, .list _, _, c, _ => by cases c
 | 0, .dict _, _, c, _ => by cases c
 | n + 1, .dict _, _, c, _ => by cases c
structure Grp where
 t : Addr
 up : Int
 l : Addr
 kids : List Int
structure GAt (H0 H : Hp) (g : Addr) (gs : List Grp) : Prop where
 at_ : H g = some (.lst (gs.map fun x => V.ref x.t))
 new : H0 g = none
 tup : ∀ x ∈ gs, H x.t = some (.tup [.int x.up, .ref x.l])
 lst : ∀ x ∈ gs, H x.l = some (.lst (x.kids.map V.int)) ∧ H0 x.l = none ∧ g ≠ x.l
 nd : (gs.map (·.l)).Nodup
structure GOk (k : Int) (gs : List Grp) : Prop where
 each : ∀ x ∈ gs, 0 ≤ x.up ∧ x.kids ≠ [] ∧ zbg k (x.kids.map PyData.int) x.up = true
 perm : (gs.flatMap (·.kids)).Perm ((List.range' 0 (k - 1).toNat).map fun i : Nat => (1 : Int) + i)
theorem GOk.few {k : Int} {gs : List Grp} (G : GOk k gs) : gs.length ≤ (k - 1).toNat := by
 have e := G.perm.length_eq
 rw [List.length_map, List.length_range'] at e
 rw [← e]
 have go : ∀ l : List Grp, (∀ x ∈ l, x.kids ≠ []) → l.length ≤ (l.flatMap (·.kids)).length := by
  intro l
  induction l with
  | nil => intro _; exact Nat.le_refl _
  | cons x r ih =>
   intro h
   rw [List.flatMap_cons, List.length_append, List.length_cons]
   have h1 := List.length_pos_iff.mpr (h x List.mem_cons_self)
   have h2 := ih fun y hy => h y (List.mem_cons_of_mem _ hy)
   omega
 exact go gs fun x hx => (G.each x hx).2.1
theorem zjg (k : Nat) : ((List.range' 0 k).map fun i : Nat => (1 : Int) + i) ++ [((k : Int) + 1)] = (List.range' 0 (k + 1)).map fun i : Nat => (1 : Int) + i := by
 rw [List.range'_concat, List.map_append]
 simp
 omega
theorem GOk.new {k : Nat} {gs : List Grp} {t l : Addr} {u : Int} (G : GOk ((k : Int) + 1) gs) (u0 : 0 ≤ u) (u1 : u < (k : Int) + 1) : GOk ((k : Int) + 2) (gs ++ [⟨t, u, l, [(k : Int) + 1]⟩]) where
 each := fun x hx => by
  rcases List.mem_append.mp hx with z | z
  ·obtain ⟨a, b, c⟩ := G.each x z
   exact ⟨a, b, zdr (by omega) c⟩
  ·rw [List.mem_singleton.mp z]
   refine ⟨u0, by simp, ?_⟩
   show (decide (u + 1 ≤ (k : Int) + 1) && decide ((k : Int) + 1 ≤ (k : Int) + 2 - 1) && true) = true
   rw [decide_eq_true (by omega), decide_eq_true (by omega)]
   rfl
 perm := by
  rw [List.flatMap_append]
  have e : ((k : Int) + 2 - 1).toNat = k + 1 := by omega
  have e' : ((k : Int) + 1 - 1).toNat = k := by omega
  have p := G.perm
  rw [e'] at p
  rw [e, ← zjg]
  exact p.append (by simp)
theorem GOk.put {k : Nat} {pre post : List Grp} {x : Grp} (G : GOk ((k : Int) + 1) (pre ++ x :: post)) : GOk ((k : Int) + 2) (pre ++ ⟨x.t, x.up, x.l, x.kids ++ [(k : Int) + 1]⟩ :: post) where
 each := fun y hy => by
  have old : ∀ z ∈ pre ++ x :: post, 0 ≤ z.up ∧ z.kids ≠ [] ∧ zbg ((k : Int) + 2) (z.kids.map PyData.int) z.up = true := fun z hz => by
   obtain ⟨a, b, c⟩ := G.each z hz
   exact ⟨a, b, zdr (by omega) c⟩
  rcases List.mem_append.mp hy with z | z
  ·exact old y (List.mem_append_left _ z)
  ·rcases List.mem_cons.mp z with z | z
   ·subst z
    obtain ⟨a, b, c⟩ := G.each x (by simp)
    refine ⟨a, by simp, ?_⟩
    show zbg ((k : Int) + 2) ((x.kids ++ [(k : Int) + 1]).map PyData.int) x.up = true
    rw [List.map_append]
    refine zdo (by omega) c ?_
    cases hk : x.kids with
    | nil => exact absurd hk b
    | cons n r =>
     rw [hk] at c
     have c' : (decide (x.up + 1 ≤ n) && decide (n ≤ (k : Int) + 1 - 1) && zbg ((k : Int) + 1) (r.map PyData.int) n) = true := c
     simp only [Bool.and_eq_true, decide_eq_true_eq] at c'
     omega
   ·exact old y (by simp [z])
 perm := by
  have e : ((k : Int) + 2 - 1).toNat = k + 1 := by omega
  have e' : ((k : Int) + 1 - 1).toNat = k := by omega
  have p := G.perm
  rw [e'] at p
  rw [e, ← zjg]
  refine List.Perm.trans ?_ (p.append (List.Perm.refl [((k : Int) + 1)]))
  rw [List.flatMap_append, List.flatMap_append, List.flatMap_cons, List.flatMap_cons, List.append_assoc, List.append_assoc, List.append_assoc]
  exact (List.Perm.refl _).append ((List.Perm.refl _).append List.perm_append_comm)
theorem GAt.put {H0 H : Hp} {g : Addr} {pre post : List Grp} {x : Grp} {k : Int} (G : GAt H0 H g (pre ++ x :: post)) : GAt H0 (upd H x.l (.lst (x.kids.map V.int ++ [.int k]))) g (pre ++ ⟨x.t, x.up, x.l, x.kids ++ [k]⟩ :: post) := by
 have hx : x ∈ pre ++ x :: post := by simp
 obtain ⟨a, b, c⟩ := G.lst x hx
 have nd := G.nd
 rw [List.map_append, List.map_cons] at nd
 obtain ⟨_, n2, n3⟩ := List.nodup_append.mp nd
 have oth : ∀ y, y ∈ pre ∨ y ∈ post → y.l ≠ x.l := fun y hy e => by
  rcases hy with hy | hy
  ·exact n3 y.l (List.mem_map.mpr ⟨y, hy, rfl⟩) x.l (by simp) e
  ·exact (List.nodup_cons.mp n2).1 (by rw [← e]; exact List.mem_map.mpr ⟨y, hy, rfl⟩)
 have mem : ∀ y ∈ pre ++ (⟨x.t, x.up, x.l, x.kids ++ [k]⟩ : Grp) :: post, (y ∈ pre ∨ y ∈ post) ∨ y = ⟨x.t, x.up, x.l, x.kids ++ [k]⟩ := fun y hy => by
  rcases List.mem_append.mp hy with z | z
  ·exact .inl (.inl z)
  ·rcases List.mem_cons.mp z with z | z
   ·exact .inr z
   ·exact .inl (.inr z)
 have old : ∀ y, y ∈ pre ∨ y ∈ post → y ∈ pre ++ x :: post := fun y hy => by
  rcases hy with z | z <;> simp [z]
 refine ⟨?_, G.new, fun y hy => ?_, fun y hy => ?_, ?_⟩
 ·rw [zap c, G.at_, List.map_append, List.map_append, List.map_cons, List.map_cons]
 ·rcases mem y hy with z | rfl
  ·rw [zap (zop (G.tup y (old y z)) a (by intro q; cases q))]
   exact G.tup y (old y z)
  ·show upd H x.l _ x.t = _
   rw [zap (zop (G.tup x hx) a (by intro q; cases q))]
   exact G.tup x hx
 ·rcases mem y hy with z | rfl
  ·obtain ⟨a', b', c'⟩ := G.lst y (old y z)
   refine ⟨?_, b', c'⟩
   rw [zap (oth y z)]
   exact a'
  ·refine ⟨?_, b, c⟩
   show upd H x.l _ x.l = _
   rw [zae, List.map_append]
   rfl
 ·have e : (pre ++ (⟨x.t, x.up, x.l, x.kids ++ [k]⟩ : Grp) :: post).map (·.l) = (pre ++ x :: post).map (·.l) := by
   rw [List.map_append, List.map_append, List.map_cons, List.map_cons]
  rw [e]
  exact G.nd
theorem GAt.same {H0 H H' : Hp} {g : Addr} {gs : List Grp} (G : GAt H0 H g gs) (s : Same H H') : GAt H0 H' g gs :=
 ⟨s _ _ G.at_, G.new, fun x hx => s _ _ (G.tup x hx), fun x hx => ⟨s _ _ (G.lst x hx).1, (G.lst x hx).2⟩, G.nd⟩
def zsl (u lo hi : Int) (kids : List Int) : PyData := .tuple [.int u, .int lo, .int hi, .tuple (kids.map PyData.int)]
theorem zuj {m u lo hi : Int} {kids : List Int} (u0 : 0 ≤ u) (ne : kids ≠ []) (r : zbg m (kids.map PyData.int) u = true) (l0 : 0 ≤ lo) (l1 : lo ≤ hi) (h0 : 1 ≤ hi) (h1 : hi ≤ kids.length) : zeq m (zsl u lo hi kids) = true := by
 have u1 : u ≤ m - 1 := by
  cases hk : kids with
  | nil => exact absurd hk ne
  | cons n t =>
   rw [hk] at r
   have c' : (decide (u + 1 ≤ n) && decide (n ≤ m - 1) && zbg m (t.map PyData.int) n) = true := r
   simp only [Bool.and_eq_true, decide_eq_true_eq] at c'
   omega
 show (zcq (.int u) 0 (m - 1) && (zih (.tuple (kids.map PyData.int)) && (zbg m (kids.map PyData.int) u && (zcq (.int hi) 1 ((kids.map PyData.int).length : Nat) && zcq (.int lo) 0 hi)))) = true
 have e1 : zcq (.int u) 0 (m - 1) = true := by
  show (decide (0 ≤ u) && decide (u ≤ m - 1)) = true
  rw [decide_eq_true u0, decide_eq_true u1]
  rfl
 have e2 : zih (.tuple (kids.map PyData.int)) = true := by
  refine decide_eq_true ?_
  rw [List.length_map]
  exact List.length_pos_iff.mpr ne
 have e3 : zcq (.int hi) 1 ((kids.map PyData.int).length : Nat) = true := by
  show (decide (1 ≤ hi) && decide (hi ≤ ((kids.map PyData.int).length : Nat))) = true
  rw [List.length_map, decide_eq_true h0, decide_eq_true h1]
  rfl
 have e4 : zcq (.int lo) 0 hi = true := by
  show (decide (0 ≤ lo) && decide (lo ≤ hi)) = true
  rw [decide_eq_true l0, decide_eq_true l1]
  rfl
 rw [e1, e2, r, e3, e4]
 rfl
theorem zn0 (kids : List Int) : (kids.map PyData.int).all (zbe 1) = true := by
 rw [List.all_eq_true]
 intro x hx
 obtain ⟨i, _, rfl⟩ := List.mem_map.mp hx
 rfl
theorem zq4 (u lo hi : Int) (kids : List Int) (h : kids.length ≤ 1000) : zbe 3 (zsl u lo hi kids) = true := by
 show (true && (true && (true && (true && ((decide ((kids.map PyData.int).length ≤ 1000) && (kids.map PyData.int).all (zbe 1)) && true))))) = true
 rw [zn0, List.length_map, decide_eq_true h]
 rfl
theorem zqp (u lo hi : Int) (kids : List Int) : zlc (zsl u lo hi kids) = kids := by
 show (kids.map PyData.int).map toI = kids
 rw [List.map_map]
 have : (toI ∘ PyData.int) = id := rfl
 rw [this, List.map_id]
end Ow
namespace Wd
inductive Tie where
 | bough (u : Nat) (lo hi : Int) (ks : List Nat)
 | needs (a b : Nat)
 | bans (a b : Nat)
 | most (top : Int) (ps : List (Nat × Int))
def cnt (ks : List Nat) (s : Nat) : Nat := (ks.filter fun k => s.testBit k).length
def zc5 (ps : List (Nat × Int)) (f : Nat × Int → Bool) : Int := ((ps.filter f).map (·.2)).sum
def Tie.keep : Tie → Nat → Bool
 | .bough u lo hi ks, s => if s.testBit u = true then decide (lo ≤ (cnt ks s : Int)) && decide ((cnt ks s : Int) ≤ hi) else decide (cnt ks s = 0)
 | .needs a b, s => !s.testBit a || s.testBit b
 | .bans a b, s => !s.testBit a || !s.testBit b
 | .most top ps, s => decide (zc5 ps (fun p => s.testBit p.1) ≤ top)
structure Tie.BoughOkW (m u : Nat) (lo hi : Int) (ks : List Nat) : Prop where
 um : u < m
 ks0 : ks ≠ []
 up : ∀ k ∈ ks, u < k ∧ k < m
 ris : ks.Pairwise (· < ·)
 few : ks.length ≤ m
 lo0 : 0 ≤ lo
 lohi : lo ≤ hi
structure Tie.BoughOk (m u : Nat) (lo hi : Int) (ks : List Nat) : Prop extends Tie.BoughOkW m u lo hi ks where
 hi1 : 1 ≤ hi
 hik : hi ≤ ks.length
theorem Tie.BoughOkW.nd {m u : Nat} {lo hi : Int} {ks : List Nat} (h : Tie.BoughOkW m u lo hi ks) : ks.Nodup := h.ris.imp fun a => Nat.ne_of_lt a
def Tie.Ok (m : Nat) : Tie → Prop
 | .bough u lo hi ks => Tie.BoughOkW m u lo hi ks
 | .needs a b => a < m ∧ b < m ∧ a ≠ b
 | .bans a b => a < m ∧ b < m ∧ a ≠ b
 | .most _ ps => ps ≠ [] ∧ (∀ p ∈ ps, p.1 < m) ∧ (ps.map (·.1)).Pairwise (· < ·) ∧ ps.length ≤ m
def InS (y n s : Nat) : Prop := (∀ k, y.testBit k = true → s.testBit k = true) ∧ ∀ k, n.testBit k = true → s.testBit k = false
def zb2 (ps : List (Nat × Int)) (y n : Nat) : Int := zc5 ps fun p => y.testBit p.1 || (decide (p.2 < 0) && !n.testBit p.1)
def Tie.sb : Tie → Nat → Nat → Bool
 | .needs a b, y, n => y.testBit a && n.testBit b
 | .bans a b, y, n => y.testBit a && y.testBit b
 | .most top ps, y, n => decide (top < zb2 ps y n)
 | .bough u lo hi ks, y, n => !(!n.testBit u && (decide ((cnt ks y : Int) ≤ hi) && decide (lo ≤ (ks.length : Int) - cnt ks n))) && !(!y.testBit u && decide (cnt ks y = 0))
theorem zr9 {u : Nat} {lo hi : Int} {ks : List Nat} {s : Nat} (h : s.testBit u = true) : (Tie.bough u lo hi ks).keep s = (decide (lo ≤ (cnt ks s : Int)) && decide ((cnt ks s : Int) ≤ hi)) := by
 simp only [Tie.keep, h, if_true]
theorem ztj {u : Nat} {lo hi : Int} {ks : List Nat} {s : Nat} (h : ¬ s.testBit u = true) : (Tie.bough u lo hi ks).keep s = decide (cnt ks s = 0) := by
 simp only [Tie.keep, if_neg h]
theorem zd2 (p : Nat × Int) (r : List (Nat × Int)) (f : Nat × Int → Bool) : zc5 (p :: r) f = (if f p = true then p.2 else 0) + zc5 r f := by
 unfold zc5
 by_cases h : f p = true
 ·rw [List.filter_cons_of_pos h, if_pos h]; simp
 ·rw [List.filter_cons_of_neg h, if_neg h]; simp
theorem zkz {f g : Nat × Int → Bool} : ∀ {ps : List (Nat × Int)}, (∀ p ∈ ps, (if f p = true then p.2 else 0) ≤ (if g p = true then p.2 else 0)) → zc5 ps f ≤ zc5 ps g
 | [], _ => Int.le_refl _
 | p :: r, h => by
  rw [zd2, zd2]
  have h1 := h p List.mem_cons_self
  have h2 := zkz (ps := r) fun q hq => h q (List.mem_cons_of_mem _ hq)
  omega
theorem zli {f g : Nat × Int → Bool} {ps : List (Nat × Int)} (h : ∀ p ∈ ps, f p = g p) : zc5 ps f = zc5 ps g := by
 unfold zc5
 rw [List.filter_congr h]
theorem zcp (k : Nat) (r : List Nat) (s : Nat) : cnt (k :: r) s = (if s.testBit k = true then 1 else 0) + cnt r s := by
 unfold cnt
 by_cases h : s.testBit k = true
 ·rw [List.filter_cons_of_pos (p := fun k => s.testBit k) h, if_pos h, List.length_cons]; omega
 ·rw [List.filter_cons_of_neg (p := fun k => s.testBit k) h, if_neg h]; omega
theorem zhb {ks : List Nat} {s t : Nat} (h : ∀ k ∈ ks, s.testBit k = t.testBit k) : cnt ks s = cnt ks t := by
 unfold cnt
 rw [List.filter_congr h]
theorem zme {s t : Nat} : ∀ {ks : List Nat}, (∀ k ∈ ks, s.testBit k = true → t.testBit k = true) → cnt ks s ≤ cnt ks t
 | [], _ => Nat.le_refl _
 | k :: r, h => by
  rw [zcp, zcp]
  have h2 := zme (ks := r) fun q hq => h q (List.mem_cons_of_mem _ hq)
  have h1 := h k List.mem_cons_self
  by_cases c : s.testBit k = true
  ·rw [if_pos c, if_pos (h1 c)]; omega
  ·rw [if_neg c]; omega
theorem zil {s n : Nat} : ∀ {ks : List Nat}, (∀ k ∈ ks, n.testBit k = true → s.testBit k = false) → cnt ks s + cnt ks n ≤ ks.length
 | [], _ => Nat.le_refl _
 | k :: r, h => by
  rw [zcp, zcp, List.length_cons]
  have h2 := zil (ks := r) fun q hq => h q (List.mem_cons_of_mem _ hq)
  have h1 := h k List.mem_cons_self
  by_cases c : n.testBit k = true
  ·rw [h1 c, if_pos c]; simp; omega
  ·rw [if_neg c]; split <;> omega
def zc2 : List Nat → Nat
 | [] => 0
 | k :: r => zc2 r ||| 2 ^ k
theorem zg9 (j : Nat) : ∀ l : List Nat, (zc2 l).testBit j = decide (j ∈ l)
 | [] => by simp [zc2]
 | k :: r => by
  rw [zc2, Nat.testBit_or, zg9 j r, Nat.testBit_two_pow]
  by_cases h : k = j
  ·subst h; simp
  ·have h' : j ≠ k := fun z => h z.symm
   simp [h, h']
theorem zp1 {ps : List (Nat × Int)} (h : (ps.map (·.1)).Nodup) {p q : Nat × Int} (hp : p ∈ ps) (hq : q ∈ ps) (e : p.1 = q.1) : p = q := by
 induction ps with
 | nil => cases hp
 | cons x r ih =>
  rw [List.map_cons, List.nodup_cons] at h
  rcases List.mem_cons.mp hp with e1 | hp
  ·rcases List.mem_cons.mp hq with e2 | hq
   ·rw [e1, e2]
   ·exact absurd (show x.1 ∈ r.map (·.1) from List.mem_map.mpr ⟨q, hq, by rw [← e1, e]⟩) h.1
  ·rcases List.mem_cons.mp hq with e2 | hq
   ·exact absurd (show x.1 ∈ r.map (·.1) from List.mem_map.mpr ⟨p, hp, by rw [← e2, e]⟩) h.1
   ·exact ih h.2 hp hq
theorem zi8 {m : Nat} {t : Tie} (ok : t.Ok m) {s s' : Nat} (h : ∀ k, k < m → s.testBit k = s'.testBit k) : t.keep s = t.keep s' := by
 cases t with
 | bough u lo hi ks =>
  have e : cnt ks s = cnt ks s' := zhb fun k hk => h k (ok.up k hk).2
  simp only [Tie.keep]
  rw [e, h u ok.um]
 | needs a b => simp only [Tie.keep]; rw [h a ok.1, h b ok.2.1]
 | bans a b => simp only [Tie.keep]; rw [h a ok.1, h b ok.2.1]
 | most top ps =>
  simp only [Tie.keep]
  rw [zli fun p hp => h p.1 (ok.2.1 p hp)]
theorem zir {y n : Nat} {l : List Nat} (d : ∀ k, y.testBit k = true → n.testBit k = false) (h : ∀ k ∈ l, n.testBit k = false) : InS y n (y ||| zc2 l) := by
 refine ⟨fun k hk => ?_, fun k hk => ?_⟩
 ·rw [Nat.testBit_or, hk, Bool.true_or]
 ·rw [Nat.testBit_or, zg9]
  have h1 : y.testBit k = false := by
   cases e : y.testBit k with
   | false => rfl
   | true => rw [d k e] at hk; cases hk
  have h2 : ¬ k ∈ l := fun z => by rw [h k z] at hk; cases hk
  rw [h1, decide_eq_false h2]; rfl
theorem zby (y : Nat) (l : List Nat) (k : Nat) : (y ||| zc2 l).testBit k = (y.testBit k || decide (k ∈ l)) := by
 rw [Nat.testBit_or, zg9]
theorem zgq {y : Nat} : ∀ {ks : List Nat}, ks.Nodup → ∀ c : Nat, cnt ks y ≤ c → ∀ n : Nat, (∀ k, y.testBit k = true → n.testBit k = false) → c + cnt ks n ≤ ks.length →
  ∃ l : List Nat, (∀ k ∈ l, k ∈ ks ∧ n.testBit k = false) ∧ cnt ks (y ||| zc2 l) = c
 | [], _, c, h1, n, _, h2 => ⟨[], (fun _ z => nomatch z), by simp [cnt] at h2 ⊢; omega⟩
 | k :: r, nd, c, h1, n, d, h2 => by
  obtain ⟨nk, nr⟩ := List.nodup_cons.mp nd
  rw [zcp] at h1 h2
  rw [List.length_cons] at h2
  by_cases hy : y.testBit k = true
  ·rw [if_pos hy] at h1
   have hn := d k hy
   rw [hn] at h2
   obtain ⟨l, hl, e⟩ := zgq nr (c - 1) (by omega) n d (by simp at h2; omega)
   refine ⟨l, fun j hj => ⟨List.mem_cons_of_mem _ (hl j hj).1, (hl j hj).2⟩, ?_⟩
   rw [zcp, e, zby, hy, Bool.true_or, if_pos rfl]
   omega
  ·rw [if_neg hy] at h1
   by_cases hn : n.testBit k = true
   ·rw [if_pos hn] at h2
    obtain ⟨l, hl, e⟩ := zgq nr c (by omega) n d (by omega)
    refine ⟨l, fun j hj => ⟨List.mem_cons_of_mem _ (hl j hj).1, (hl j hj).2⟩, ?_⟩
    have : ¬ k ∈ l := fun z => nk (hl k z).1
    rw [zcp, e, zby, Bool.eq_false_iff.mpr hy, decide_eq_false this]
    simp
   ·rw [if_neg hn] at h2
    by_cases full : c + cnt r n ≤ r.length
    ·obtain ⟨l, hl, e⟩ := zgq nr c (by omega) n d full
     refine ⟨l, fun j hj => ⟨List.mem_cons_of_mem _ (hl j hj).1, (hl j hj).2⟩, ?_⟩
     have : ¬ k ∈ l := fun z => nk (hl k z).1
     rw [zcp, e, zby, Bool.eq_false_iff.mpr hy, decide_eq_false this]
     simp
    ·have hc : cnt r y + cnt r n ≤ r.length := zil fun j _ hj => by
      cases e : y.testBit j with
      | false => rfl
      | true => rw [d j e] at hj; cases hj
     obtain ⟨l, hl, e⟩ := zgq nr (c - 1) (by omega) n d (by omega)
     refine ⟨k :: l, fun j hj => ?_, ?_⟩
     ·rcases List.mem_cons.mp hj with rfl | z
      ·exact ⟨List.mem_cons_self, Bool.eq_false_iff.mpr hn⟩
      ·exact ⟨List.mem_cons_of_mem _ (hl j z).1, (hl j z).2⟩
     ·have e2 : cnt r (y ||| zc2 (k :: l)) = cnt r (y ||| zc2 l) := zhb fun j hj => by
       have : j ≠ k := fun z => nk (z ▸ hj)
       rw [zby, zby]
       simp [this]
      rw [zcp, e2, e, zby, decide_eq_true List.mem_cons_self, Bool.or_true, if_pos rfl]
      omega
theorem zn8 {m : Nat} {t : Tie} (ok : t.Ok m) {y n : Nat} (d : ∀ k, y.testBit k = true → n.testBit k = false) : t.sb y n = true ↔ ∀ s, InS y n s → t.keep s = false := by
 have dn : ∀ k, n.testBit k = true → y.testBit k = false := fun k hk => by
  cases e : y.testBit k with
  | false => rfl
  | true => rw [d k e] at hk; cases hk
 cases t with
 | needs a b =>
  constructor
  ·intro h s hs
   have h' : (y.testBit a && n.testBit b) = true := h
   rw [Bool.and_eq_true] at h'
   show (!s.testBit a || s.testBit b) = false
   rw [hs.1 a h'.1, hs.2 b h'.2]; rfl
  ·intro h
   show (y.testBit a && n.testBit b) = true
   cases e1 : y.testBit a with
   | false =>
    have hh := h y ⟨fun _ z => z, dn⟩
    have h2 : (!y.testBit a || y.testBit b) = false := hh
    rw [e1] at h2; cases h2
   | true =>
    cases e2 : n.testBit b with
    | true => rfl
    | false =>
     have h2 : (!(y ||| zc2 [b]).testBit a || (y ||| zc2 [b]).testBit b) = false := h _ (zir d fun k hk => by rw [List.mem_singleton.mp hk]; exact e2)
     rw [zby y [b] b, decide_eq_true (List.mem_singleton.mpr rfl), Bool.or_true, Bool.or_true] at h2
     cases h2
 | bans a b =>
  constructor
  ·intro h s hs
   have h' : (y.testBit a && y.testBit b) = true := h
   rw [Bool.and_eq_true] at h'
   show (!s.testBit a || !s.testBit b) = false
   rw [hs.1 a h'.1, hs.1 b h'.2]; rfl
  ·intro h
   have h2 : (!y.testBit a || !y.testBit b) = false := h y ⟨fun _ z => z, dn⟩
   show (y.testBit a && y.testBit b) = true
   cases e1 : y.testBit a <;> cases e2 : y.testBit b <;> rw [e1, e2] at h2 <;> simp_all
 | most top ps =>
  constructor
  ·intro h s hs
   have h' : top < zb2 ps y n := of_decide_eq_true h
   refine decide_eq_false fun z => ?_
   have le : zb2 ps y n ≤ zc5 ps (fun p => s.testBit p.1) := zkz fun p _ => by
    cases e1 : y.testBit p.1 with
    | true => rw [hs.1 _ e1]; simp
    | false =>
     cases e2 : n.testBit p.1 with
     | true => rw [hs.2 _ e2]; simp
     | false =>
      by_cases c : p.2 < 0
      ·simp [c]; split <;> omega
      ·simp [c]; split <;> omega
   omega
  ·intro h
   refine decide_eq_true ?_
   let l := (ps.filter fun p => decide (p.2 < 0) && !n.testBit p.1).map (·.1)
   have hl : ∀ k ∈ l, n.testBit k = false := fun k hk => by
    obtain ⟨p, hp, rfl⟩ := List.mem_map.mp hk
    have := (List.mem_filter.mp hp).2
    simp at this
    exact this.2
   have h2 : decide (zc5 ps (fun p => (y ||| zc2 l).testBit p.1) ≤ top) = false := h _ (zir d hl)
   have e : zc5 ps (fun p => (y ||| zc2 l).testBit p.1) = zb2 ps y n := zli fun p hp => by
    show (y ||| zc2 l).testBit p.1 = (y.testBit p.1 || (decide (p.2 < 0) && !n.testBit p.1))
    rw [zby]
    congr 1
    by_cases c : (decide (p.2 < 0) && !n.testBit p.1) = true
    ·rw [c]
     exact decide_eq_true (List.mem_map.mpr ⟨p, List.mem_filter.mpr ⟨hp, c⟩, rfl⟩)
    ·rw [Bool.eq_false_iff.mpr c]
     refine decide_eq_false fun z => ?_
     obtain ⟨q, hq, e⟩ := List.mem_map.mp z
     have hq' := List.mem_filter.mp hq
     have : q = p := zp1 (ok.2.2.1.imp fun a => Nat.ne_of_lt a) hq'.1 hp e
     rw [this] at hq'
     exact c hq'.2
   rw [e] at h2
   have := of_decide_eq_false h2
   omega
 | bough u lo hi ks =>
  have c2 : cnt ks y + cnt ks n ≤ ks.length := zil fun j _ hj => dn j hj
  have uk : ¬ u ∈ ks := fun z => Nat.lt_irrefl _ (ok.up u z).1
  constructor
  ·intro h s hs
   have h' : (!(!n.testBit u && (decide ((cnt ks y : Int) ≤ hi) && decide (lo ≤ (ks.length : Int) - cnt ks n))) && !(!y.testBit u && decide (cnt ks y = 0))) = true := h
   have g1 : cnt ks y ≤ cnt ks s := zme fun k _ hk => hs.1 k hk
   have g2 : cnt ks s + cnt ks n ≤ ks.length := zil fun k _ hk => hs.2 k hk
   show (if s.testBit u = true then decide (lo ≤ (cnt ks s : Int)) && decide ((cnt ks s : Int) ≤ hi) else decide (cnt ks s = 0)) = false
   rw [Bool.and_eq_true] at h'
   by_cases su : s.testBit u = true
   ·rw [if_pos su]
    have nu : n.testBit u = false := by
     cases e : n.testBit u with
     | false => rfl
     | true => rw [hs.2 u e] at su; cases su
    have h1 := h'.1
    rw [nu] at h1
    simp at h1
    by_cases z : (cnt ks y : Int) ≤ hi
    ·rw [decide_eq_false (show ¬ lo ≤ (cnt ks s : Int) by omega), Bool.false_and]
    ·rw [decide_eq_false (show ¬ (cnt ks s : Int) ≤ hi by omega), Bool.and_false]
   ·rw [if_neg su]
    have yu : y.testBit u = false := by
     cases e : y.testBit u with
     | false => rfl
     | true => exact absurd (hs.1 u e) su
    have h2 := h'.2
    rw [yu] at h2
    simp at h2
    exact decide_eq_false (by omega)
  ·intro h
   show (!(!n.testBit u && (decide ((cnt ks y : Int) ≤ hi) && decide (lo ≤ (ks.length : Int) - cnt ks n))) && !(!y.testBit u && decide (cnt ks y = 0))) = true
   rw [Bool.and_eq_true]
   constructor
   ·cases e : (!n.testBit u && (decide ((cnt ks y : Int) ≤ hi) && decide (lo ≤ (ks.length : Int) - cnt ks n))) with
    | false => rfl
    | true =>
     exfalso
     simp only [Bool.and_eq_true, decide_eq_true_eq, Bool.not_eq_true'] at e
     obtain ⟨nu, e1, e2⟩ := e
     have hl0 := ok.lo0
     have hlh := ok.lohi
     obtain ⟨l, hl, ec⟩ := zgq (Tie.BoughOkW.nd ok) (max (cnt ks y) lo.toNat) (Nat.le_max_left _ _) n d (by omega)
     have hk := h (y ||| zc2 (u :: l)) (zir d fun k hk => by
      rcases List.mem_cons.mp hk with rfl | z
      ·exact nu
      ·exact (hl k z).2)
     have hb : (y ||| zc2 (u :: l)).testBit u = true := by rw [zby, decide_eq_true List.mem_cons_self, Bool.or_true]
     have ec2 : cnt ks (y ||| zc2 (u :: l)) = max (cnt ks y) lo.toNat := by
      rw [← ec]
      refine zhb fun j hj => ?_
      have : j ≠ u := fun z => uk (z ▸ hj)
      rw [zby, zby]
      simp [this]
     simp only [Tie.keep, hb, if_true, ec2] at hk
     rw [decide_eq_true (by omega), decide_eq_true (by omega)] at hk
     cases hk
   ·cases e : (!y.testBit u && decide (cnt ks y = 0)) with
    | false => rfl
    | true =>
     exfalso
     simp only [Bool.and_eq_true, decide_eq_true_eq, Bool.not_eq_true'] at e
     have hk := h y ⟨fun _ z => z, dn⟩
     simp [Tie.keep, e.1, e.2] at hk
end Wd
set_option maxRecDepth 100000
set_option maxHeartbeats 4000000
namespace Wd
open PySem L2
def zg2 (p : Nat × Int) : PyData := .tuple [.int (p.1 : Int), .int p.2]
def Tie.toD : Tie → PyData
 | .bough u lo hi ks => .tuple [.int (u : Int), .int lo, .int hi, .tuple (ks.map fun k : Nat => PyData.int (k : Int))]
 | .needs a b => .tuple [.str ("needs" : Str), .int (a : Int), .int (b : Int)]
 | .bans a b => .tuple [.str ("bans" : Str), .int (a : Int), .int (b : Int)]
 | .most top ps => .tuple [.str ("most" : Str), .int top, .tuple (ps.map zg2)]
theorem zfj {m : Nat} : ∀ {ks : List PyData} {last : Int}, -1 ≤ last → last < m → zbg m ks last = true →
  ∃ ns : List Nat, ks = ns.map (fun k : Nat => PyData.int (k : Int)) ∧ ns.Pairwise (· < ·) ∧ (∀ k ∈ ns, last < (k : Int) ∧ k < m) ∧ (ns.length : Int) + last + 1 ≤ m
 | [], last, h0, h1, _ => ⟨[], rfl, List.Pairwise.nil, (fun _ z => nomatch z), by simp; omega⟩
 | .int i :: ks, last, h0, h1, h => by
  have z : (decide (last + 1 ≤ i) && decide (i ≤ (m : Int) - 1) && zbg m ks i) = true := h
  simp only [Bool.and_eq_true, decide_eq_true_eq] at z
  obtain ⟨ns, e, pw, ab, ln⟩ := zfj (by omega) (by omega) z.2
  obtain ⟨j, rfl⟩ : ∃ j : Nat, i = (j : Int) := ⟨i.toNat, by omega⟩
  refine ⟨j :: ns, by rw [e]; rfl, List.Pairwise.cons (fun k hk => ?_) pw, fun k hk => ?_, ?_⟩
  ·have := (ab k hk).1; omega
  ·rcases List.mem_cons.mp hk with rfl | hk
   ·omega
   ·have := ab k hk; omega
  ·rw [List.length_cons]; omega
 | .none :: _, _, _, _, h => by cases h
 | .bool _ :: _, _, _, _, h => by cases h
 | .str _ :: _, _, _, _, h => by cases h
 | .list _ :: _, _, _, _, h => by cases h
 | .tuple _ :: _, _, _, _, h => by cases h
 | .dict _ :: _, _, _, _, h => by cases h
theorem zlr {m : Nat} {d : PyData} (h : zeq m d = true) : ∃ u lo hi ks, d = (Tie.bough u lo hi ks).toD ∧ Tie.BoughOk m u lo hi ks := by
 unfold zeq at h
 split at h
 next u l hd k =>
  simp only [Bool.and_eq_true] at h
  obtain ⟨hu, hk, hr, hh, hl⟩ := h
  obtain ⟨ui, rfl, u0, u1⟩ := zde hu
  obtain ⟨kd, rfl, k0⟩ := zl3 hk
  obtain ⟨hi, rfl, h0, h1⟩ := zde (show zcq hd 1 kd.length = true from hh)
  obtain ⟨lo, rfl, l0, l1⟩ := zde (show zcq l 0 hi = true from hl)
  obtain ⟨un, rfl⟩ : ∃ j : Nat, ui = (j : Int) := ⟨ui.toNat, by omega⟩
  obtain ⟨ns, rfl, pw, ab, ln⟩ := zfj (by omega) (by omega) (show zbg m kd un = true from hr)
  rw [List.length_map] at k0 h1
  exact ⟨un, lo, hi, ns, rfl, ⟨⟨by omega, fun z => by rw [z] at k0; simp at k0, fun k hk => by have := ab k hk; omega, pw, by omega, l0, l1⟩, h0, h1⟩⟩
 next => cases h
theorem ziz {m : Nat} : ∀ {ds : List PyData} {ns : List Nat}, ds.all zhr = true → ds.map zp5 = ns.map (fun k : Nat => PyData.int (k : Int)) → ∃ ps : List (Nat × Int), ds = ps.map zg2 ∧ ps.map (·.1) = ns
 | [], [], _, _ => ⟨[], rfl, rfl⟩
 | [], _ :: _, _, e => by cases e
 | _ :: _, [], _, e => by cases e
 | d :: ds, n :: ns, h, e => by
  rw [List.all_cons, Bool.and_eq_true] at h
  rw [List.map_cons, List.map_cons] at e
  injection e with e1 e2
  obtain ⟨ps, rfl, rfl⟩ := ziz (m := m) h.2 e2
  have h1 := h.1
  unfold zhr at h1
  split at h1
  next x y =>
   obtain ⟨i, rfl⟩ := zot h1
   refine ⟨(n, i) :: ps, ?_, rfl⟩
   have e3 : x = PyData.int (n : Int) := e1
   rw [e3]
   rfl
  next => cases h1
theorem zle {m : Nat} {d : PyData} (h : zh2 m d = true) : ∃ t : Tie, d = t.toD ∧ t.Ok m ∧ ∀ u lo hi ks, t ≠ .bough u lo hi ks := by
 unfold zh2 at h
 split at h
 next k x y =>
  unfold zvi at h
  split at h
  next s =>
   unfold zpg at h
   split at h
   next hs =>
    rw [Bool.and_eq_true] at h
    obtain ⟨top, rfl⟩ := zot h.1
    have h2 := h.2
    unfold zmr at h2
    split at h2
    next ds =>
     simp only [Bool.and_eq_true, decide_eq_true_eq] at h2
     obtain ⟨⟨d0, dp⟩, dr⟩ := h2
     obtain ⟨ns, e, pw, ab, ln⟩ := zfj (by omega) (by omega) dr
     obtain ⟨ps, rfl, rfl⟩ := ziz (m := m) dp e
     rw [List.length_map] at d0 ln
     refine ⟨.most top ps, by rw [hs]; rfl, ⟨fun z => by rw [z] at d0; simp at d0, fun p hp => (ab p.1 (List.mem_map.mpr ⟨p, hp, rfl⟩)).2, pw, by omega⟩, by intro _ _ _ _ z; cases z⟩
    next => cases h2
   next hs =>
    split at h
    next hn =>
     simp only [Bool.and_eq_true] at h
     obtain ⟨ha, hb, hne⟩ := h
     obtain ⟨a, rfl, a0, a1⟩ := zde ha
     obtain ⟨b, rfl, b0, b1⟩ := zde hb
     have ne : ¬ a = b := by
      have z : (!decide (a = b)) = true := hne
      simpa using z
     obtain ⟨an, rfl⟩ : ∃ j : Nat, a = (j : Int) := ⟨a.toNat, by omega⟩
     obtain ⟨bn, rfl⟩ : ∃ j : Nat, b = (j : Int) := ⟨b.toNat, by omega⟩
     rcases hn with rfl | rfl
     ·exact ⟨.needs an bn, rfl, ⟨by omega, by omega, by omega⟩, by intro _ _ _ _ z; cases z⟩
     ·exact ⟨.bans an bn, rfl, ⟨by omega, by omega, by omega⟩, by intro _ _ _ _ z; cases z⟩
    next => cases h
  next => cases h
 next => cases h
theorem zvh (ks : List Nat) : (ks.map fun k : Nat => PyData.int (k : Int)) = (ks.map fun k : Nat => (k : Int)).map PyData.int := by rw [List.map_map]; rfl
theorem zqi (ks : List Nat) : (ks.map fun k : Nat => (k : Int)).map V.int = ks.map fun k : Nat => V.int (k : Int) := by rw [List.map_map]; rfl
theorem zgr {H : Hp} {u : Nat} {lo hi : Int} {ks : List Nat} {v : V} (h : Dn H (Tie.bough u lo hi ks).toD v) : ∃ p pk, v = .ref p ∧ H p = some (.tup [.int (u : Int), .int lo, .int hi, .ref pk]) ∧ H pk = some (.tup (ks.map fun k : Nat => V.int (k : Int))) := by
 obtain ⟨p, xs, rfl, hp, xu, r1, rfl, hu, xl, r2, rfl, hlo, xh, r3, rfl, hh, xk, r4, rfl, hk, hnil⟩ := zbo h
 cases (show r4 = [] from hnil)
 cases zdb hu
 cases zdb hlo
 cases zdb hh
 obtain ⟨pk, ys, rfl, hpk, hks⟩ := zbo hk
 rw [zvh] at hks
 rw [zmu hks, zqi] at hpk
 exact ⟨p, pk, rfl, hp, hpk⟩
theorem zim {H : Hp} {w : Str} {a b : Int} {v : V} (h : Dn H (.tuple [.str w, .int a, .int b]) v) : ∃ p, v = .ref p ∧ H p = some (.tup [.str w, .int a, .int b]) := by
 obtain ⟨p, xs, rfl, hp, xu, r1, rfl, hu, xl, r2, rfl, hlo, xh, r3, rfl, hh, hnil⟩ := zbo h
 cases (show r3 = [] from hnil)
 cases (show xu = .str w from hu)
 cases zdb hlo
 cases zdb hh
 exact ⟨p, rfl, hp⟩
theorem zoz {H : Hp} {top : Int} {ps : List (Nat × Int)} {v : V} (h : Dn H (Tie.most top ps).toD v) : ∃ p q xs, v = .ref p ∧ H p = some (.tup [.str ("most" : Str), .int top, .ref q]) ∧ H q = some (.tup xs) ∧ DnL H (ps.map zg2) xs := by
 obtain ⟨p, xs, rfl, hp, xu, r1, rfl, hu, xl, r2, rfl, hlo, xh, r3, rfl, hh, hnil⟩ := zbo h
 cases (show r3 = [] from hnil)
 cases (show xu = .str ("most" : Str) from hu)
 cases zdb hlo
 obtain ⟨q, ys, rfl, hq, hks⟩ := zbo hh
 exact ⟨p, q, ys, rfl, hp, hq, hks⟩
theorem zoy {H : Hp} {ps : List (Nat × Int)} {xs : List V} (h : DnL H (ps.map zg2) xs) {i : Nat} {x : V} (hx : xs[i]? = some x) : ∃ p r, ps[i]? = some p ∧ x = .ref r ∧ H r = some (.tup [.int (p.1 : Int), .int p.2]) := by
 obtain ⟨d, hd, hx'⟩ := h.get hx
 rw [List.getElem?_map] at hd
 obtain ⟨p, hp, rfl⟩ := Option.map_eq_some_iff.mp hd
 obtain ⟨r, ys, rfl, hr, xa, r1, rfl, ha, xb, r2, rfl, hb, hnil⟩ := zbo (show Dn H (.tuple [.int (p.1 : Int), .int p.2]) x from hx')
 cases (show r2 = [] from hnil)
 cases zdb ha
 cases zdb hb
 exact ⟨p, r, hp, rfl, hr⟩
def zna (n k : Int) : Bool := decide (0 ≤ k) && decide (n / 2 ^ k.toNat % 2 = 1)
theorem zbc (s u : Nat) : zna (s : Int) (u : Int) = s.testBit u := by
 unfold zna
 rw [decide_eq_true (by omega), Bool.true_and, Nat.testBit_eq_decide_div_mod_eq, Int.toNat_natCast]
 have e : ((s : Int) / 2 ^ u % 2 = 1) ↔ (s / 2 ^ u % 2 = 1) := by
  have e3 : (2 : Int) ^ u = ((2 ^ u : Nat) : Int) := by rw [Int.natCast_pow]; rfl
  rw [e3]
  omega
 by_cases z : s / 2 ^ u % 2 = 1
 ·rw [decide_eq_true z, decide_eq_true (e.mpr z)]
 ·rw [decide_eq_false z, decide_eq_false (fun y => z (e.mp y))]
theorem zwf (n : Int) (k : Nat) : Builtin.bitAnd (n / 2 ^ k) 1 = n / 2 ^ k % 2 := PySem.W.kbt_mask (n / 2 ^ k) 1
end Wd
set_option maxRecDepth 100000
set_option maxHeartbeats 4000000
namespace L2
open PySem PySem.Spec PyProof.Rows
theorem zpw {X : Cx} {st : List Stmt} {t : TS} (h : PSs X st t) : ∃ t', PSs X st t' ∧ ∀ D σ H, t D σ H → t' D σ H := ⟨t, h, fun _ _ _ x => x⟩
section
variable {X : Cx} {o e : Expr} {es : List Expr} {to : TE} {t : TA} {name : Str} {apos cpos : Pos} {T id : String} {r : V → List V → Hp → VK → Prop}
theorem zhq {K : PySem.W.Frag} (pa : PlainAttrs T) (slot : Slot T name id) (hty : typeOf (.builtin id) = pure (.type "method_descriptor")) (hm : MtR X id r) (ho : PE X o to) (ha : PA X (e :: es) t) (hK : X.K = K := by rfl)
  (hbase : attributeBase o name X.env (eval o X.env) = eval o X.env := by rfl)
  (hfew : ((backTo cpos (starEach (e :: es) X.env)).all (fun x => !x.1) && (backToKw cpos (keywordEach [] X.env)).all (fun x => x.1.isSome) && decide ((e :: es).length + ([] : List Keyword).length + (if ([] : List Keyword).isEmpty then 0 else 1) < 30)) = true := by rfl)
  (hline : (apos.endLine == cpos.line) = true := by rfl) (hs : starEach (e :: es) X.env = (false, eval e X.env) :: starEach es X.env := by rfl) (hplain : (backTo cpos (starEach es X.env)).any (·.1) = false := by rfl) :
  PE X (.Call (.Attribute o name apos) (e :: es) [] cpos) (tBM K T r to t) := hK ▸ zvx pa slot hty hm ho ha hbase hfew hline hs hplain
theorem zof {K : PySem.W.Frag} (pa : PlainAttrs T) (slot : Slot T name id) (hty : typeOf (.builtin id) = pure (.type "method_descriptor")) (hm : MtR X id r) (ho : PE X o to) (hK : X.K = K := by rfl)
  (hbase : attributeBase o name X.env (eval o X.env) = eval o X.env := by rfl) (hline : (apos.endLine == cpos.line) = true := by rfl) : PE X (.Call (.Attribute o name apos) [] [] cpos) (zvo K T r to) := hK ▸ zuc pa slot hty hm ho hbase hline
end
end L2
set_option maxRecDepth 100000
set_option maxHeartbeats 4000000
namespace L2
open PySem PySem.Spec PyProof.Rows
theorem Room.lv {A : Around} {j k : Nat} (hr : Room k A) (h : j ≤ k := by first | decide | omega) : Room j A := hr.mono h
structure Df (K : PySem.W.Frag) (mg : Str → Option Value) (x : Str) (st : Stmt) (f : Addr) (fd : FuncData) (ps : List Str) : Prop extends Fun K x x st f fd where
 g : mg x = some (.ref f)
 B : Binds K fd ps []
theorem zad {X : Cx} {k : Nat} {f : Addr} {fd : FuncData} {ps : List Str} {sp : Sp} {x : Str} {p pos : Pos} {e : Expr} {es : List Expr} {t : TA} {st : Stmt} (F : FnOk X.prog X.w X.K X.mg X.base CX0 k f fd ps sp) (hr : Room k X.A) (hg : Gl X x) (D : Df X.K X.mg x st f fd ps)
  (ha : PA X (e :: es) t) (hdb : (x == ("__debug__" : Str)) = false := by decide) (he : starEach (e :: es) X.env = (false, eval e X.env) :: starEach es X.env := by rfl) (hpl : (backTo pos (starEach es X.env)).any (·.1) = false := by rfl) :
  PE X (.Call (.Name x p) (e :: es) [] pos) (zr0 sp [] E0 t) := zow F hr hg D.g D.kp D.B .nil zrt ha hdb he hpl
theorem scm {N P : List Str} {sc : Scope} (a : sc.kind = .function) (b : sc.isCoroutine = false) (c : sc.isGenerator = false) (e : N.take P.length = P) (h : (decide N.Nodup && (decide (∀ x ∈ P, sc.names.lookup x = some .local ∨ sc.names.lookup x = some .cell) && decide (∀ y ∈ sc.names, y.2 ≠ .free))) = true) : zas N P sc := by
 rw [Bool.and_eq_true, Bool.and_eq_true] at h
 exact ⟨a, b, c, of_decide_eq_true h.1, e, of_decide_eq_true h.2.1, of_decide_eq_true h.2.2⟩
def Dk (K : PySem.W.Frag) (x : Str) (st : Stmt) (f : Addr) (fd : FuncData) : Prop := PySem.W.nsIn K mainGlobals x = some (some (.ref f)) ∧ Fun K x x st f fd
section
variable {K : PySem.W.Frag} {x q : Str} {st : Stmt} {f C : Addr} {oc : Value} {od an : Option Addr} {osl : Array (Option Value)} {kV doc pm cdv ct : Value}
theorem dk (a : PySem.W.nsIn K mainGlobals x = some (some (.ref f))) (l : K.lookup f = some ⟨oc, od, .func (PySem.W.fnOf x x (zee st) (za3 st) (zag st) .none kV doc pm an cdv ct), osl⟩) (c : PySem.W.codeIn K cdv x = true) (k : PySem.W.keepIn K (.ref f) = true) :
  Dk K x st f (PySem.W.fnOf x x (zee st) (za3 st) (zag st) .none kV doc pm an cdv ct) := ⟨a, zun l c k⟩
abbrev Bd (x q : Str) (st : Stmt) (us : List Value) (ps : List Str) : Prop := ∀ (kV doc pm : Value) (an : Option Addr) (cdv ct : Value), bindArgs (PySem.W.fnOf x q (zee st) (za3 st) (zag st) .none kV doc pm an cdv ct) ⟨us, []⟩ = pure (ps.zip us)
theorem Dk.df {h : Heap} {mg : Str → Option Value} {fd : FuncData} {ps : List Str} (X : K.In h) (G : h.Ns mainGlobals mg) (D : Dk K x st f fd) (b : ∀ us, us.length = ps.length → Bd x x st us ps) : Df K mg x st f fd ps :=
 ⟨D.2, PySem.W.mg_of X G D.1, D.2.binds fun kV doc pm an cdv ct us hl => b us hl kV doc pm an cdv ct⟩
theorem bd1 {p : List Str} (h : ∀ a, Bd x q st [a] p) : ∀ us : List Value, us.length = 1 → Bd x q st us p | [a], _ => h a
theorem bd2 {p : List Str} (h : ∀ a b, Bd x q st [a, b] p) : ∀ us : List Value, us.length = 2 → Bd x q st us p | [a, b], _ => h a b
theorem bd3 {p : List Str} (h : ∀ a b c, Bd x q st [a, b, c] p) : ∀ us : List Value, us.length = 3 → Bd x q st us p | [a, b, c], _ => h a b c
theorem bd4 {p : List Str} (h : ∀ a b c d, Bd x q st [a, b, c, d] p) : ∀ us : List Value, us.length = 4 → Bd x q st us p | [a, b, c, d], _ => h a b c d
theorem bd5 {p : List Str} (h : ∀ a b c d e, Bd x q st [a, b, c, d, e] p) : ∀ us : List Value, us.length = 5 → Bd x q st us p | [a, b, c, d, e], _ => h a b c d e
theorem bd6 {p : List Str} (h : ∀ a b c d e f, Bd x q st [a, b, c, d, e, f] p) : ∀ us : List Value, us.length = 6 → Bd x q st us p | [a, b, c, d, e, f], _ => h a b c d e f
theorem zvq {fd : FuncData} {y : Str} (F : Fun K x q st f fd) (h : ∀ v, Bd x q st [v] [y]) (s : Shared) (v : Value) : BindsTo s fd ⟨[v], []⟩ [(y, v)] := by
 obtain ⟨oc, od, kV, doc, pm, an, cdv, ct, osl, rfl, lk, hcd⟩ := F.ex
 exact .of_eq (h v kV doc pm an cdv ct)
end
end L2
set_option maxRecDepth 100000
set_option maxHeartbeats 4000000
namespace L2
open PySem PySem.Spec PyProof.Rows
section
variable {X : Cx}
theorem pgT {K : PySem.W.Frag} {pos : Pos} {es : List Expr} {k : Nat} {t : TGs} {n : Nat} (hc : X.calm = true) (h : PGs X es t) (hn : (assignEach es X.env).length = n := by rfl) (hst : (assignEach es X.env).findIdx? (·.1) = none := by rfl) (hK : X.K = K := by rfl) : PG X (.Tuple es k pos) (zvm K n t) := hK ▸ zu3 hc h hn hst
theorem zo9 : zc6 X (.type "range") (fun xs H Q => ∃ j : Int, xs = [.int j] ∧ ∀ p, H p = none → Q (.ref p) (upd H p (.rng 0 j))) := by
 intro pins s σ H xs us Q I r h
 obtain ⟨j, rfl, q⟩ := h
 obtain ⟨u, rfl, ⟨t, rfl⟩⟩ := zd7 r
 refine call_range_1 ⟨.ref s.heap.objs.size, _, I.laid (fun b o e => Heap.get?_push_of_some _ e) (Nat.le_refl _) (show ObjOk X.prog X.w _ _ _ (.rng 0 j) from ⟨_, _, _, Heap.get?_push_size _ rfl⟩), rfl, q _ (I.hok.fresh (Nat.le_refl _))⟩
end
end L2
namespace Wd
open PySem L2
def zsg : Sp := fun vs H Q _ => ∃ (t : Tie) (m n : Nat) (v : V), vs = [v, .int n] ∧ Dn H t.toD v ∧ t.Ok m ∧ m ≤ 1000 ∧ ∀ H', Same H H' → Q (.bl (t.keep n)) H'
def zos (K : PySem.W.Frag) : Sp := fun vs H Q _ => ∃ (p : Addr) (ns : List Int), vs = [.ref p] ∧ SqL K H p (ns.map V.int) ∧ ns.length ≤ 63 ∧ ∀ H', Q (.bl true) H'
theorem zfi (k : Nat) : decide (V.int (k : Int) = V.int 0) = decide (k = 0) := by
 rw [zg6]
 by_cases z : k = 0
 ·rw [z]; rfl
 ·rw [decide_eq_false z]
  simpa using z
def zuy (f : Tie → Nat → Nat → Bool) : Sp := fun vs H Q _ => ∃ (t : Tie) (m y n : Nat) (v : V), vs = [v, .int y, .int n] ∧ Dn H t.toD v ∧ t.Ok m ∧ m ≤ 1000 ∧ ∀ H', Same H H' → Q (.bl (f t y n)) H'
def zsw (f : Tie → Nat → Nat → Bool) : Sp := fun vs H Q _ => ∃ (u : Nat) (lo hi : Int) (ks : List Nat) (m y n : Nat) (v : V), vs = [v, .int y, .int n] ∧ Dn H (Tie.bough u lo hi ks).toD v ∧ Tie.BoughOkW m u lo hi ks ∧ m ≤ 1000 ∧ ∀ H', Same H H' → Q (.bl (f (Tie.bough u lo hi ks) y n)) H'
def zt0 (f : List (Nat × Int) → Nat → Nat → Int) : Sp := fun vs H Q _ => ∃ (q : Addr) (xs : List V) (ps : List (Nat × Int)) (y n : Nat), vs = [.ref q, .int y, .int n] ∧ H q = some (.tup xs) ∧ DnL H (ps.map zg2) xs ∧ ps.length ≤ 1000 ∧ ∀ H', Same H H' → Q (.int (f ps y n)) H'
theorem zkf {P : Tie → Prop} : ∀ {l : List PyData}, (∀ d ∈ l, ∃ t : Tie, d = t.toD ∧ P t) → ∃ ts : List Tie, l = ts.map Tie.toD ∧ ∀ t ∈ ts, P t
 | [], _ => ⟨[], rfl, (fun _ z => nomatch z)⟩
 | d :: r, h => by
  obtain ⟨t, e, p⟩ := h d List.mem_cons_self
  obtain ⟨ts, e2, p2⟩ := zkf fun x hx => h x (List.mem_cons_of_mem _ hx)
  refine ⟨t :: ts, by rw [e, e2]; rfl, fun x hx => ?_⟩
  rcases List.mem_cons.mp hx with rfl | z
  ·exact p
  ·exact p2 x z
theorem zp2 {m : Nat} {d : PyData} (h : zeq m d = true) : ∃ t : Tie, d = t.toD ∧ t.Ok m := by
 obtain ⟨u, lo, hi, ks, e, ok⟩ := zlr h
 exact ⟨.bough u lo hi ks, e, ok.toBoughOkW⟩
theorem zo1 {m : Nat} {d : PyData} (h : zh2 m d = true) : ∃ t : Tie, d = t.toD ∧ t.Ok m := by
 obtain ⟨t, e, ok, _⟩ := zle h
 exact ⟨t, e, ok⟩
theorem zrh {H : Hp} {ts : List Tie} {xs : List V} (h : DnL H (ts.map Tie.toD) xs) {i : Nat} {x : V} (hx : xs[i]? = some x) : ∃ t, ts[i]? = some t ∧ Dn H t.toD x := by
 obtain ⟨d, hd, q⟩ := h.get hx
 rw [List.getElem?_map] at hd
 obtain ⟨t, ht, rfl⟩ := Option.map_eq_some_iff.mp hd
 exact ⟨t, ht, q⟩
theorem zdv {c A B : Prop} [Decidable c] (hc : c) (h : A) : if decide c = true then A else B := by
 rw [decide_eq_true hc]
 exact zqb h
theorem zbn {c A B : Prop} [Decidable c] (hc : ¬ c) (h : B) : if decide c = true then A else B := by
 rw [decide_eq_false hc]
 exact zib h
theorem zoe {c A B : Prop} [Decidable c] (hc : ¬ c) (h : A) : if (!decide c) = true then A else B := by
 rw [decide_eq_false hc]
 exact zqb h
theorem zgo {x y : Str} (h : ¬ x = y) : ¬ V.str x = V.str y := fun z => by injection z with z; exact h z
theorem zjt : ¬ V.str ("bans" : Str) = V.str ("needs" : Str) := zgo (by decide +kernel)
theorem zjp : ¬ V.str ("most" : Str) = V.str ("needs" : Str) := zgo (by decide +kernel)
theorem zkp : ¬ V.str ("most" : Str) = V.str ("bans" : Str) := zgo (by decide +kernel)
theorem int_str {i : Int} {x : Str} : ¬ V.int i = V.str x := fun z => by cases z
end Wd
set_option maxRecDepth 100000
set_option maxHeartbeats 4000000
namespace Wd
open PySem L2 Ow
structure WoodT (H : Hp) (wd : Addr) (m : Nat) (ts : List Tie) : Prop where
 ex : ∃ xs ys, WoodAt H wd m xs ys ∧ DnL H (ts.map Tie.toD) (xs ++ ys)
 ok : ∀ t ∈ ts, t.Ok m
 few : ts.length ≤ 900
 m9 : m ≤ 900
theorem WoodAt.same {H H' : Hp} {wd : Addr} {m : Int} {xs ys : List V} (s : Same H H') (h : WoodAt H wd m xs ys) : WoodAt H' wd m xs ys := by
 obtain ⟨tb, tc, h1, h2, h3⟩ := h.ex
 exact ⟨tb, tc, s _ _ h1, s _ _ h2, s _ _ h3⟩
theorem WoodT.same {H H' : Hp} {wd : Addr} {m : Nat} {ts : List Tie} (s : Same H H') (h : WoodT H wd m ts) : WoodT H' wd m ts := by
 obtain ⟨xs, ys, h1, h2⟩ := h.ex
 exact ⟨⟨xs, ys, WoodAt.same s h1, DnL.same s _ _ h2⟩, h.ok, h.few, h.m9⟩
def zuf : Option Nat → V
 | none => .non
 | some i => .int (i : Int)
def firstB (ts : List Tie) (n : Nat) : Option Nat := ts.findIdx? fun t => !t.keep n
def zd3 (ts : List Tie) (n : Nat) : Bool := n.testBit 0 && ts.all fun t => t.keep n
theorem zm7 {ts : List Tie} {n i : Nat} {t : Tie} (h : ts[i]? = some t) (hk : t.keep n = false) (hp : ∀ j x, j < i → ts[j]? = some x → x.keep n = true) : firstB ts n = some i := by
 unfold firstB
 rw [List.findIdx?_eq_some_iff_getElem]
 obtain ⟨hi, e⟩ := List.getElem?_eq_some_iff.mp h
 refine ⟨hi, by rw [e, hk]; rfl, fun j hj => ?_⟩
 rw [hp j _ hj (List.getElem?_eq_getElem (by omega))]
 simp
theorem zlz {ts : List Tie} {n : Nat} (hp : ∀ j x, j < ts.length → ts[j]? = some x → x.keep n = true) : firstB ts n = none := by
 unfold firstB
 rw [List.findIdx?_eq_none_iff]
 intro x hx
 obtain ⟨j, hj, rfl⟩ := List.getElem_of_mem hx
 rw [hp j _ hj (List.getElem?_eq_getElem hj)]
 rfl
theorem zhy (ts : List Tie) (n : Nat) : zd3 ts n = (n.testBit 0 && decide (firstB ts n = none)) := by
 unfold zd3 firstB
 congr 1
 rw [Bool.eq_iff_iff, List.all_eq_true, decide_eq_true_eq, List.findIdx?_eq_none_iff]
 refine ⟨fun h x hx => by rw [h x hx]; rfl, fun h x hx => ?_⟩
 have := h x hx
 simpa using this
theorem zqw (o : Option Nat) : decide (zuf o = V.non) = decide (o = none) := by
 cases o <;> rfl
def zsj : Sp := fun vs H Q _ => ∃ (wd : Addr) (m : Nat) (ts : List Tie), vs = [.ref wd] ∧ WoodT H wd m ts ∧ ∀ (l : Addr) (H' : Hp), Same H H' → H l = none → H' l = some (.lst ((List.range ts.length).map fun i : Nat => V.int (i : Int))) → Q (.ref l) H'
def zre : Sp := fun vs H Q _ => ∃ (wd : Addr) (m : Nat) (ts : List Tie) (n : Nat), vs = [.ref wd, .int n] ∧ WoodT H wd m ts ∧ ∀ H', Same H H' → Q (zuf (firstB ts n)) H'
def ztc : Sp := fun vs H Q _ => ∃ (wd : Addr) (m : Nat) (ts : List Tie) (n : Nat), vs = [.ref wd, .int n] ∧ WoodT H wd m ts ∧ ∀ H', Same H H' → Q (.bl (zd3 ts n)) H'
theorem zp4 {n i : Nat} {x : V} (h : ((List.range n).map fun i : Nat => V.int (i : Int))[i]? = some x) : i < n ∧ x = .int (i : Int) := by
 rw [List.getElem?_map] at h
 obtain ⟨j, hj, rfl⟩ := Option.map_eq_some_iff.mp h
 obtain ⟨hi, e⟩ := List.getElem?_eq_some_iff.mp hj
 rw [List.length_range] at hi
 rw [List.getElem_range] at e
 exact ⟨hi, by rw [e]⟩
end Wd
namespace Wd
theorem zmg : ∀ (k a b : Nat), (∀ j, a.testBit j = true → b.testBit j = false) → (a + b).testBit k = (a.testBit k || b.testBit k)
 | k, a, b, h => by
  have h0 := h 0
  rw [Nat.testBit_zero, Nat.testBit_zero] at h0
  have p : a % 2 + b % 2 ≤ 1 := by
   by_cases z : a % 2 = 1
   ·have := h0 (decide_eq_true z)
    have := of_decide_eq_false this
    omega
   ·omega
  cases k with
  | zero =>
   rw [Nat.testBit_zero, Nat.testBit_zero, Nat.testBit_zero]
   by_cases z : a % 2 = 1
   ·rw [decide_eq_true z, decide_eq_true (by omega), Bool.true_or]
   ·rw [decide_eq_false z, Bool.false_or]
    by_cases y : b % 2 = 1
    ·rw [decide_eq_true y, decide_eq_true (by omega)]
    ·rw [decide_eq_false y, decide_eq_false (by omega)]
  | succ k =>
   rw [Nat.testBit_add_one, Nat.testBit_add_one, Nat.testBit_add_one]
   have e : (a + b) / 2 = a / 2 + b / 2 := by omega
   rw [e]
   refine zmg k (a / 2) (b / 2) fun j hj => ?_
   have := h (j + 1)
   rw [Nat.testBit_add_one, Nat.testBit_add_one] at this
   exact this hj
theorem zuq {a b : Nat} (h : ∀ j, a.testBit j = true → b.testBit j = false) : a + b = a ||| b :=
 Nat.eq_of_testBit_eq fun k => by rw [zmg k a b h, Nat.testBit_or]
theorem zm6 : ∀ (k y a : Nat), (∀ j, a.testBit j = true → y.testBit j = true) → (y - a).testBit k = (y.testBit k && !a.testBit k)
 | k, y, a, h => by
  have le : a ≤ y := by
   have e : a = a &&& y := Nat.eq_of_testBit_eq fun j => by
    rw [Nat.testBit_and]
    cases e : a.testBit j with
    | false => rfl
    | true => rw [h j e]; rfl
   rw [e]
   exact Nat.and_le_right
  have h0 := h 0
  rw [Nat.testBit_zero, Nat.testBit_zero] at h0
  have p : a % 2 ≤ y % 2 := by
   by_cases z : a % 2 = 1
   ·have := of_decide_eq_true (h0 (decide_eq_true z))
    omega
   ·omega
  cases k with
  | zero =>
   rw [Nat.testBit_zero, Nat.testBit_zero, Nat.testBit_zero]
   by_cases z : a % 2 = 1
   ·rw [decide_eq_true z, decide_eq_false (by omega)]; simp
   ·rw [decide_eq_false z]
    by_cases x : y % 2 = 1
    ·rw [decide_eq_true x, decide_eq_true (by omega)]; rfl
    ·rw [decide_eq_false x, decide_eq_false (by omega)]; rfl
  | succ k =>
   rw [Nat.testBit_add_one, Nat.testBit_add_one, Nat.testBit_add_one]
   have e : (y - a) / 2 = y / 2 - a / 2 := by omega
   rw [e]
   refine zm6 k (y / 2) (a / 2) fun j hj => ?_
   have := h (j + 1)
   rw [Nat.testBit_add_one, Nat.testBit_add_one] at this
   exact this hj
theorem zo5 (a b : Nat) : a ||| b = a + (b - (a &&& b)) := by
 have hb : ∀ j, (b - (a &&& b)).testBit j = (b.testBit j && !(a &&& b).testBit j) := fun j => zm6 j b (a &&& b) fun i hi => by
  rw [Nat.testBit_and, Bool.and_eq_true] at hi
  exact hi.2
 rw [zuq fun j hj => by rw [hb, Nat.testBit_and, hj]; cases b.testBit j <;> rfl]
 refine Nat.eq_of_testBit_eq fun j => ?_
 rw [Nat.testBit_or, Nat.testBit_or, hb, Nat.testBit_and]
 cases a.testBit j <;> cases b.testBit j <;> rfl
theorem zgp (p : Nat → Bool) (i : Nat) : (List.range (i + 1)).filter p = (List.range i).filter p ++ (if p i = true then [i] else []) := by
 rw [List.range_succ, List.filter_append]
 congr 1
 by_cases h : p i = true <;> simp [h]
theorem zc9 (y k j : Nat) : (y ||| 2 ^ k).testBit j = (y.testBit j || decide (k = j)) := by rw [Nat.testBit_or, Nat.testBit_two_pow]
theorem inS_split {y n k s : Nat} : InS y n s ↔ InS (y ||| 2 ^ k) n s ∨ InS y (n ||| 2 ^ k) s := by
 constructor
 ·rintro ⟨h1, h2⟩
  cases e : s.testBit k with
  | true =>
   refine .inl ⟨fun j hj => ?_, h2⟩
   rw [zc9, Bool.or_eq_true, decide_eq_true_eq] at hj
   rcases hj with z | rfl
   ·exact h1 j z
   ·exact e
  | false =>
   refine .inr ⟨h1, fun j hj => ?_⟩
   rw [zc9, Bool.or_eq_true, decide_eq_true_eq] at hj
   rcases hj with z | rfl
   ·exact h2 j z
   ·exact e
 ·rintro (⟨h1, h2⟩ | ⟨h1, h2⟩)
  ·exact ⟨fun j hj => h1 j (by rw [zc9, hj, Bool.true_or]), h2⟩
  ·exact ⟨h1, fun j hj => h2 j (by rw [zc9, hj, Bool.true_or])⟩
theorem zt2 {y n k : Nat} (d : ∀ j, y.testBit j = true → n.testBit j = false) (hn : n.testBit k = false) : ∀ j, (y ||| 2 ^ k).testBit j = true → n.testBit j = false := fun j hj => by
 rw [zc9, Bool.or_eq_true, decide_eq_true_eq] at hj
 rcases hj with z | rfl
 ·exact d j z
 ·exact hn
theorem zra {y n k : Nat} (d : ∀ j, y.testBit j = true → n.testBit j = false) (hy : y.testBit k = false) : ∀ j, y.testBit j = true → (n ||| 2 ^ k).testBit j = false := fun j hj => by
 rw [zc9, d j hj, Bool.false_or]
 exact decide_eq_false fun z => by rw [← z, hy] at hj; cases hj
theorem ziy {y n : Nat} (d : ∀ j, y.testBit j = true → n.testBit j = false) : InS y n y := ⟨fun _ z => z, fun k hk => by
 cases e : y.testBit k with
 | false => rfl
 | true => rw [d k e] at hk; cases hk⟩
theorem zne {m y n s : Nat} (full : ∀ k, k < m → (y ||| n).testBit k = true) (hs : InS y n s) (d : ∀ j, y.testBit j = true → n.testBit j = false) : ∀ k, k < m → s.testBit k = y.testBit k := fun k hk => by
 have h := full k hk
 rw [Nat.testBit_or, Bool.or_eq_true] at h
 rcases h with z | z
 ·rw [z, hs.1 k z]
 ·rw [hs.2 k z, (ziy d).2 k z]
theorem zs9 {m : Nat} {t : Tie} (ok : t.Ok m) {y n : Nat} (d : ∀ j, y.testBit j = true → n.testBit j = false) (full : ∀ k, k < m → (y ||| n).testBit k = true) : t.sb y n = !t.keep y := by
 rw [Bool.eq_iff_iff, zn8 ok d, Bool.not_eq_true']
 constructor
 ·intro h
  exact h y (ziy d)
 ·intro h s hs
  rw [zi8 ok (zne full hs d)]
  exact h
end Wd
set_option maxRecDepth 100000
set_option maxHeartbeats 4000000
namespace L2
open PySem
theorem zcs {k : Nat} {σ0 : St} {H : Hp} {g : TG} {tc : TT} {te : TE} {Q : VK} (Pv : Nat → List V → St → Hp → Prop) (h0 : Pv 0 [] σ0 H) (hz : ∀ i ys σ H, i ≤ k → Pv i ys σ H → ys.length ≤ sizeLine)
  (hs : ∀ i ys σ H, i < k → Pv i ys σ H → g (.int (i : Int)) σ H fun σ3 H3 => tc σ3 H3 fun b H4 => if b = true then te σ3 H4 fun v H5 => Pv (i + 1) (ys ++ [v]) σ3 H5 else Pv (i + 1) ys σ3 H4)
  (hd : ∀ ys σ H, Pv k ys σ H → ∀ p, H p = none → Q (.ref p) (upd H p (.lst ys))) :
  zj1 (Itr 0 k) g tc te σ0 H Q :=
 zqg (lo := 0) Pv h0 hz (fun i ys σ H hi p => by rw [Int.zero_add]; exact hs i ys σ H hi p) hd
theorem zet {n : Nat} {g : TG} {tb : TS} {D : zj7} {σ : St} {H : Hp} (Pv : Nat → St → Hp → Prop) (h0 : Pv 0 σ H)
  (hs : ∀ i σ H, i < n → Pv i σ H → g (.int (i : Int)) σ H fun σ2 H2 => tb { D with nx := Pv (i + 1), ct := Pv (i + 1), bk := D.nx } σ2 H2) (hd : ∀ σ H, Pv n σ H → D.nx σ H) :
  ∃ W : Nat → Nat → St → Hp → Prop, (∃ m, W 0 m σ H) ∧ ∀ i m σ H, W i m σ H →
   ((Itr 0 n).stop i H ∧ D.nx σ H) ∨ ((Itr 0 n).go i H ∧ ∃ N : St → Hp → Prop, (∀ σ' H', N σ' H' → ∃ m', m' < m ∧ W (i + 1) m' σ' H') ∧ ∀ x H', (Itr 0 n).yld i H x H' → g x σ H' fun σ2 H2 => tb { D with nx := N, ct := N, bk := D.nx } σ2 H2) :=
 zki (lo := 0) Pv h0 (fun i σ H hi p => by rw [Int.zero_add]; exact hs i σ H hi p) hd
end L2
namespace Wd
open PySem L2 Ow
theorem zeb (a b : Nat) : Builtin.bitOr (a : Int) (b : Int) = ((a ||| b : Nat) : Int) := by
 have le : a &&& b ≤ b := Nat.and_le_right
 rw [PyProof.Rows.bitOr_and, PyProof.Rows.bitAnd_pp (by omega) (by omega), Int.toNat_natCast, Int.toNat_natCast, zo5]
 omega
theorem zq5 (k : Nat) : 1 * (2 : Int) ^ ((k : Nat) : Int).toNat = ((2 ^ k : Nat) : Int) := by
 rw [Int.one_mul, Int.toNat_natCast, Int.natCast_pow]
 rfl
theorem zq7 (k : Nat) : 0 < 2 ^ k := Nat.pow_pos (by decide)
end Wd
set_option maxRecDepth 100000
set_option maxHeartbeats 4000000
namespace L2
open PySem PySem.Spec PyProof.Rows
section
variable {X : Cx} {tg : Expr}
end
end L2
namespace Wd
open PySem L2
end Wd
set_option maxRecDepth 100000
set_option maxHeartbeats 4000000
namespace Wd
open PySem L2 Ow
def KpX (pen : Addr) (H H' : Hp) (b : Addr) : HO → Prop
 | .tbl _ => (∃ ps, H' b = some (.tbl ps)) ∧ (zc3 H b → (∃ ys, H pen = some (.lst ys)) → zc3 H' b ∧ ∃ ys, H' pen = some (.lst ys))
 | o => H' b = some o
def SameX (pen : Addr) (H H' : Hp) : Prop := ∀ b o, b ≠ pen → H b = some o → KpX pen H H' b o
theorem KpX.some {pen : Addr} {H H' : Hp} {b : Addr} {o : HO} (k : KpX pen H H' b o) : ∃ u, H' b = some u := by
 cases o
 case tbl ps => exact ⟨_, k.1.choose_spec⟩
 all_goals exact ⟨_, k⟩
theorem SameX.refl (pen : Addr) (H : Hp) : SameX pen H H := fun _ o _ h => by
 cases o
 case tbl ps => exact ⟨⟨_, h⟩, fun a b => ⟨a, b⟩⟩
 all_goals exact h
theorem SameX.trans {pen : Addr} {H H1 H2 : Hp} (a : SameX pen H H1) (b : SameX pen H1 H2) : SameX pen H H2 := fun c o n h => by
 have z := a c o n h
 cases o
 case tbl ps =>
  obtain ⟨⟨qs, hq⟩, k⟩ := z
  obtain ⟨q2, k2⟩ := b c _ n hq
  exact ⟨q2, fun t y => k2 (k t y).1 (k t y).2⟩
 all_goals exact b c _ n z
theorem Same.x {pen : Addr} {H H' : Hp} (s : Same H H') : SameX pen H H' := fun b o _ h => by
 have z := s b o h
 cases o
 case tbl ps => exact ⟨z.1, fun t ⟨ys, y⟩ => ⟨z.2 t, ys, s pen _ y⟩⟩
 all_goals exact z
theorem zam {pen : Addr} {H : Hp} (o : HO) (ho : ∃ ys, o = .lst ys := by exact ⟨_, rfl⟩) : SameX pen H (upd H pen o) := fun b u n h => by
 cases u
 case tbl ps =>
  refine ⟨⟨ps, by rw [zap n]; exact h⟩, ?_⟩
  rintro ⟨qs, hq, tr, hp⟩ ⟨ys, hy⟩
  obtain ⟨zs, rfl⟩ := ho
  refine ⟨⟨qs, by rw [zap n]; exact hq, tr, fun pos => ?_⟩, ⟨zs, zae⟩⟩
  rcases hp pos with z | ⟨c, z1, z2⟩
  ·exact .inl z
  ·refine .inr ⟨c, z1, ?_⟩
   rw [zap fun z => by rw [z, hy] at z2; cases z2]
   exact z2
 all_goals (show upd H pen o b = _; rw [zap n]; exact h)
theorem SameX.put {pen : Addr} {H H1 : Hp} {p : Addr} {xs : List V} {o : HO} (s : SameX pen H H1) (n : H p = none) (np : p ≠ pen) (e : H1 p = some (.lst xs)) : SameX pen H (upd H1 p o) := fun b u nb hb => by
 have ne : b ≠ p := zax hb n
 have z := s b u nb hb
 cases u
 case tbl ps =>
  refine ⟨⟨z.1.choose, by rw [zap ne]; exact z.1.choose_spec⟩, fun t y => ?_⟩
  obtain ⟨⟨qs, hq, tr, hp⟩, ys, hy⟩ := z.2 t y
  refine ⟨⟨qs, by rw [zap ne]; exact hq, tr, fun pos => ?_⟩, ys, by rw [zap (Ne.symm np)]; exact hy⟩
  rcases hp pos with y | ⟨c, y1, y2⟩
  ·exact .inl y
  ·refine .inr ⟨c, y1, ?_⟩
   rw [zap fun z => by rw [z, e] at y2; cases y2]
   exact y2
 all_goals (show upd H1 p o b = _; rw [zap ne]; exact z)
theorem SameX.tab {pen P : Addr} {H H' : Hp} {ys : List V} (s : SameX pen H H') (hp : H pen = some (.lst ys)) (t : zc3 H P) : zc3 H' P := by
 obtain ⟨ps, h, _⟩ := id t
 exact ((s P _ (fun z => by rw [z, hp] at h; cases h) h).2 t ⟨ys, hp⟩).1
theorem SameX.free {pen l : Addr} {H H' : Hp} (s : SameX pen H H') (hp : ∃ o, H' pen = some o) (h : H' l = none) : H l = none := by
 cases q : H l with
 | none => rfl
 | some o =>
  obtain ⟨o', e⟩ := hp
  have n : l ≠ pen := fun z => by rw [z, e] at h; cases h
  obtain ⟨u, z⟩ := (s l o n q).some
  rw [z] at h
  cases h
structure Pen (K : PySem.W.Frag) (H : Hp) (pen sp : Addr) (ns : List Int) (k : Int) : Prop where
 at_ : H pen = some (.lst [.ref sp, .int k])
 len : ns.length ≤ 63
 scr : ∀ H', SameX pen H H' → SqL K H' sp (ns.map V.int)
theorem Pen.to {K : PySem.W.Frag} {H H' : Hp} {pen sp : Addr} {ns : List Int} {k k' : Int} (p : Pen K H pen sp ns k) (s : SameX pen H H') (e : H' pen = some (.lst [.ref sp, .int k'])) : Pen K H' pen sp ns k' :=
 ⟨e, p.len, fun H2 s2 => p.scr H2 (s.trans s2)⟩
def zgz (H H' : Hp) : Prop := ∀ b xs, H b = some (.tup xs) → H' b = some (.tup xs)
theorem SameX.tup {pen : Addr} {H H' : Hp} {ys : List V} (e : H pen = some (.lst ys)) (s : SameX pen H H') : zgz H H' := fun b xs h => s b _ (fun z => by rw [z, e] at h; cases h) h
theorem DnL.tupS {H H' : Hp} (t : zgz H H') {n : Nat} {ds : List PyData} {vs : List V} (f : ds.all (zbe n) = true) (q : DnL H ds vs) : DnL H' ds vs := DnL.keepT (Dn.keepT t n) ds vs f q
def zvb (K : PySem.W.Frag) : Sp := fun vs H Q _ => ∃ (pen sp : Addr) (ns : List Int) (most k : Int), vs = [.ref pen, .int most] ∧ Pen K H pen sp ns k ∧ 0 ≤ k ∧ k ≤ 1000000 ∧ 0 < most ∧ ∀ c : Int, 0 ≤ c → c < most → Q (.int c) (L2.upd H pen (.lst [.ref sp, .int (k + 1)]))
structure WoodX (H : Hp) (wd : Addr) (m : Nat) (bs cs : List PyData) : Prop where
 ex : ∃ xs ys, WoodAt H wd m xs ys ∧ DnL H bs xs ∧ DnL H cs ys
 gb : zr7 m bs
 gc : ∀ c ∈ cs, zh2 m c = true
 b8 : bs.length ≤ 9
 c8 : cs.length ≤ 20
 fb : bs.all (zbe 3) = true
 fc : cs.all (zbe 3) = true
 m1 : 1 ≤ m
 m9 : m ≤ 9
theorem WoodX.tupS {H H' : Hp} {wd : Addr} {m : Nat} {bs cs : List PyData} (t : zgz H H') (h : WoodX H wd m bs cs) : WoodX H' wd m bs cs := by
 obtain ⟨xs, ys, ⟨tb, tc, h1, h2, h3⟩, db, dc⟩ := h.ex
 exact ⟨⟨xs, ys, ⟨tb, tc, t _ _ h1, t _ _ h2, t _ _ h3⟩, DnL.tupS t h.fb db, DnL.tupS t h.fc dc⟩, h.gb, h.gc, h.b8, h.c8, h.fb, h.fc, h.m1, h.m9⟩
theorem Same.tup {H H' : Hp} (s : Same H H') : zgz H H' := fun b xs h => s b _ h
theorem WoodX.ties {H : Hp} {wd : Addr} {m : Nat} {bs cs : List PyData} (h : WoodX H wd m bs cs) : ∃ ts : List Tie, bs ++ cs = ts.map Tie.toD ∧ (∀ t ∈ ts, t.Ok m) ∧ ts.length ≤ 29 ∧ ∀ H', zgz H H' → WoodT H' wd m ts := by
 obtain ⟨ts, ets, okt⟩ := zkf (P := fun t => t.Ok m) (l := bs ++ cs) fun x hx => by
  rcases List.mem_append.mp hx with z | z
  ·exact zp2 (h.gb.each x z)
  ·exact zo1 (h.gc x z)
 have lt : ts.length = bs.length + cs.length := by rw [← List.length_append, ets, List.length_map]
 have b8 := h.b8
 have c8 := h.c8
 have m9 := h.m9
 refine ⟨ts, ets, okt, by omega, fun H' t => ?_⟩
 obtain ⟨xs, ys, WA, db, dc⟩ := (h.tupS t).ex
 exact ⟨⟨xs, ys, WA, by rw [← ets]; exact db.append dc⟩, okt, by omega, by omega⟩
theorem _root_.Ow.GAt.add2 {H0 H : Hp} {g l t : Addr} {gs : List Grp} {u k : Int} (G : GAt H0 H g gs) (hf : H0 l = none) (hl : H l = none) (ht : upd H l (.lst [.int k]) t = none) :
  GAt H0 (upd (upd (upd H l (.lst [.int k])) t (.tup [.int u, .ref l])) g (.lst ((gs.map fun x => V.ref x.t) ++ [.ref t]))) g (gs ++ [⟨t, u, l, [k]⟩]) := by
 have ngl : g ≠ l := zax G.at_ hl
 have s1 := zai hl (.lst [.int k])
 have s2 := s1.trans (zai ht (.tup [.int u, .ref l]))
 have ntl : t ≠ l := fun z => by rw [z, zae] at ht; cases ht
 have ngt : g ≠ t := zax (s1 _ _ G.at_) ht
 refine ⟨?_, G.new, fun x hx => ?_, fun x hx => ?_, ?_⟩
 ·rw [zae, List.map_append]
  rfl
 ·rcases List.mem_append.mp hx with z | z
  ·rw [zap (zop (G.tup x z) G.at_ (by intro q; cases q))]
   exact s2 _ _ (G.tup x z)
  ·rw [List.mem_singleton.mp z]
   show L2.upd _ g _ t = _
   rw [zap (Ne.symm ngt), zae]
 ·rcases List.mem_append.mp hx with z | z
  ·obtain ⟨a, b, c⟩ := G.lst x z
   refine ⟨?_, b, c⟩
   rw [zap (Ne.symm c)]
   exact s2 _ _ a
  ·rw [List.mem_singleton.mp z]
   refine ⟨?_, hf, ngl⟩
   show L2.upd _ g _ l = _
   rw [zap (Ne.symm ngl), zap (Ne.symm ntl), zae]
   rfl
 ·rw [List.map_append]
  refine List.nodup_append.mpr ⟨G.nd, by simp, fun x hx y hy => ?_⟩
  obtain ⟨z, hz, rfl⟩ := List.mem_map.mp hx
  have e : y = l := by simpa using hy
  rw [e]
  exact zax (G.lst z hz).1 hl
theorem _root_.Ow.GAt.pen {H0 H : Hp} {g pen : Addr} {gs : List Grp} {xs ys : List V} (G : GAt H0 H g gs) (h0 : ∃ o, H0 pen = some o) (h : H pen = some (.lst xs)) : GAt H0 (L2.upd H pen (.lst ys)) g gs := by
 obtain ⟨o, e0⟩ := h0
 refine ⟨?_, G.new, fun x hx => ?_, fun x hx => ?_, G.nd⟩
 ·rw [zap (fun z => by rw [← z, G.new] at e0; cases e0)]
  exact G.at_
 ·rw [zap (zop (G.tup x hx) h (by intro q; cases q))]
  exact G.tup x hx
 ·obtain ⟨a, b, c⟩ := G.lst x hx
  refine ⟨?_, b, c⟩
  rw [zap (fun z => by rw [← z, b] at e0; cases e0)]
  exact a
end Wd
namespace Wd
def zem (ts : List Tie) (i s : Nat) : Bool := match ts[i]? with
 | some t => t.keep s
 | none => true
def zgc (ts : List Tie) (i y n : Nat) : Bool := match ts[i]? with
 | some t => t.sb y n
 | none => false
def za7 (ts : List Tie) (il : List Nat) (y n : Nat) : Option Nat := il.find? fun i => zgc ts i y n
def zar (m y n : Nat) : List Nat := (List.range m).filter fun k => !(y ||| n).testBit k
theorem mem_open {m y n k : Nat} : k ∈ zar m y n ↔ k < m ∧ y.testBit k = false ∧ n.testBit k = false := by
 unfold zar
 rw [List.mem_filter, List.mem_range, Bool.not_eq_true', Nat.testBit_or, Bool.or_eq_false_iff]
theorem zqd (m y n k : Nat) : zar m (y ||| 2 ^ k) n = (zar m y n).filter fun j => !decide (k = j) := by
 unfold zar
 rw [List.filter_filter]
 refine List.filter_congr fun j _ => ?_
 rw [Nat.testBit_or, zc9, Nat.testBit_or]
 cases y.testBit j <;> cases n.testBit j <;> cases decide (k = j) <;> rfl
theorem zn6 (m y n k : Nat) : zar m y (n ||| 2 ^ k) = (zar m y n).filter fun j => !decide (k = j) := by
 unfold zar
 rw [List.filter_filter]
 refine List.filter_congr fun j _ => ?_
 rw [Nat.testBit_or, zc9, Nat.testBit_or]
 cases y.testBit j <;> cases n.testBit j <;> cases decide (k = j) <;> rfl
theorem zhw {l : List Nat} {k : Nat} (h : k ∈ l) : (l.filter fun j => !decide (k = j)).length < l.length := by
 refine Nat.lt_of_le_of_ne (List.length_filter_le _ _) fun e => ?_
 have := List.length_filter_eq_length_iff.mp e k h
 simp at this
theorem zcd {m y n k : Nat} (h : k ∈ zar m y n) : (zar m (y ||| 2 ^ k) n).length < (zar m y n).length := by
 rw [zqd]; exact zhw h
theorem zca {m y n k : Nat} (h : k ∈ zar m y n) : (zar m y (n ||| 2 ^ k)).length < (zar m y n).length := by
 rw [zn6]; exact zhw h
theorem ze4 (m y n : Nat) : (zar m y n).length ≤ m := by
 refine Nat.le_trans (List.length_filter_le _ _) ?_
 rw [List.length_range]
 exact Nat.le_refl _
theorem znm {m y k : Nat} (h : y < 2 ^ m) (hk : k < m) : y ||| 2 ^ k < 2 ^ m := by
 refine Nat.lt_pow_two_of_testBit _ fun i hi => ?_
 rw [zc9, Nat.testBit_lt_two_pow (Nat.lt_of_lt_of_le h (Nat.pow_le_pow_right (by decide) hi)), Bool.false_or]
 exact decide_eq_false (by omega)
theorem znw {m a b : Nat} (ha : a < 2 ^ m) (hb : b < 2 ^ m) (h : ∀ k, k < m → a.testBit k = b.testBit k) : a = b := by
 refine Nat.eq_of_testBit_eq fun k => ?_
 by_cases z : k < m
 ·exact h k z
 ·have : 2 ^ m ≤ 2 ^ k := Nat.pow_le_pow_right (by decide) (by omega)
  rw [Nat.testBit_lt_two_pow (by omega), Nat.testBit_lt_two_pow (by omega)]
def zii (ts : List Tie) (il : List Nat) (s : Nat) : Bool := il.all fun i => zem ts i s
structure Stand (m y n : Nat) : Prop where
 dj : ∀ k, y.testBit k = true → n.testBit k = false
 ym : y < 2 ^ m
 nm : n < 2 ^ m
theorem Stand.one {m y n k : Nat} (S : Stand m y n) (h : k ∈ zar m y n) : Stand m (y ||| 2 ^ k) n := by
 obtain ⟨km, ky, kn⟩ := mem_open.mp h
 exact ⟨zt2 S.dj kn, znm S.ym km, S.nm⟩
theorem Stand.other {m y n k : Nat} (S : Stand m y n) (h : k ∈ zar m y n) : Stand m y (n ||| 2 ^ k) := by
 obtain ⟨km, ky, kn⟩ := mem_open.mp h
 exact ⟨zra S.dj ky, S.ym, znm S.nm km⟩
theorem zkg {m : Nat} {ts : List Tie} (ok : ∀ t ∈ ts, t.Ok m) {i y n s : Nat} (dj : ∀ k, y.testBit k = true → n.testBit k = false) (h : zgc ts i y n = true) (hs : InS y n s) : zem ts i s = false := by
 unfold zgc at h
 unfold zem
 cases e : ts[i]? with
 | none => rw [e] at h; cases h
 | some t =>
  rw [e] at h
  exact (zn8 (ok t (List.mem_of_getElem? e)) dj).mp h s hs
theorem zhf {m : Nat} {ts : List Tie} (ok : ∀ t ∈ ts, t.Ok m) {i y n : Nat} (dj : ∀ k, y.testBit k = true → n.testBit k = false) (full : zar m y n = []) (h : zgc ts i y n = false) : zem ts i y = true := by
 have hf : ∀ k, k < m → (y ||| n).testBit k = true := fun k hk => by
  cases e : (y ||| n).testBit k with
  | true => rfl
  | false =>
   rw [Nat.testBit_or, Bool.or_eq_false_iff] at e
   have := mem_open.mpr ⟨hk, e.1, e.2⟩
   rw [full] at this
   cases this
 unfold zgc at h
 unfold zem
 cases e : ts[i]? with
 | none => rfl
 | some t =>
  rw [e] at h
  have h' : t.sb y n = false := h
  rw [zs9 (ok t (List.mem_of_getElem? e)) dj hf] at h'
  show t.keep y = true
  simpa using h'
theorem zio {m y n s : Nat} (S : Stand m y n) (full : zar m y n = []) (hs : InS y n s) (sm : s < 2 ^ m) : s = y := by
 refine znw sm S.ym fun k hk => ?_
 refine zne (m := m) (fun j hj => ?_) hs S.dj k hk
 cases e : (y ||| n).testBit j with
 | true => rfl
 | false =>
  rw [Nat.testBit_or, Bool.or_eq_false_iff] at e
  have := mem_open.mpr ⟨hj, e.1, e.2⟩
  rw [full] at this
  cases this
theorem zej {ts : List Tie} {il : List Nat} {y n i : Nat} (h : za7 ts il y n = some i) : i ∈ il ∧ zgc ts i y n = true :=
 ⟨List.mem_of_find?_eq_some h, List.find?_some (p := fun i => zgc ts i y n) h⟩
theorem zey {ts : List Tie} {il : List Nat} {y n : Nat} (h : za7 ts il y n = none) : ∀ i ∈ il, zgc ts i y n = false := fun i hi => by
 have := List.find?_eq_none.mp h i hi
 simpa using this
inductive CT where
 | broken (t : Nat)
 | ware
 | split (k : Nat) (one other : CT)
def zba (ts : List Tie) (il : List Nat) (m : Nat) : Nat → Nat → Nat → CT
 | f, y, n => match za7 ts il y n with
  | some t => .broken t
  | none => match zar m y n, f with
   | [], _ => .ware
   | _ :: _, 0 => .ware
   | k :: _, f + 1 => .split k (zba ts il m f (y ||| 2 ^ k) n) (zba ts il m f y (n ||| 2 ^ k))
theorem zew {ts : List Tie} {il r : List Nat} {m f y n k : Nat} (hb : za7 ts il y n = none) (ho : zar m y n = k :: r) : zba ts il m (f + 1) y n = .split k (zba ts il m f (y ||| 2 ^ k) n) (zba ts il m f y (n ||| 2 ^ k)) := by
 conv => lhs; unfold zba
 simp only [hb, ho]
theorem zfd {ts : List Tie} {il : List Nat} {m f y n : Nat} (hb : za7 ts il y n = none) (ho : zar m y n = []) : zba ts il m f y n = .ware := by
 unfold zba
 simp [hb, ho]
theorem zds {ts : List Tie} {il : List Nat} {m f y n i : Nat} (hb : za7 ts il y n = some i) : zba ts il m f y n = .broken i := by
 unfold zba
 simp [hb]
def CT.leaves : CT → Nat → List Nat
 | .broken _, _ => []
 | .ware, y => [y]
 | .split k a b, y => a.leaves (y ||| 2 ^ k) ++ b.leaves y
def CT.depth : CT → Nat
 | .broken _ => 0
 | .ware => 0
 | .split _ a b => max a.depth b.depth + 1
def CT.small : CT → Prop
 | .broken _ => True
 | .ware => True
 | .split k a b => k ≤ 1000 ∧ a.small ∧ b.small
theorem zev {ts : List Tie} {il : List Nat} {m : Nat} (hm : m ≤ 1000) : ∀ (f y n : Nat), (zba ts il m f y n).small
 | f, y, n => by
  unfold zba
  cases za7 ts il y n with
  | some t => trivial
  | none =>
   dsimp only
   cases hl : zar m y n with
   | nil => trivial
   | cons k r =>
    cases f with
    | zero => trivial
    | succ f =>
     have hk : k ∈ zar m y n := by rw [hl]; exact List.mem_cons_self
     have := (mem_open.mp hk).1
     exact ⟨by omega, zev hm f (y ||| 2 ^ k) n, zev hm f y (n ||| 2 ^ k)⟩
theorem zei : ∀ (t : CT) (y : Nat), (t.leaves y).length ≤ 2 ^ t.depth
 | .broken _, _ => Nat.zero_le _
 | .ware, _ => Nat.le_refl _
 | .split k a b, y => by
  rw [CT.leaves, List.length_append, CT.depth, Nat.pow_succ]
  have h1 := zei a (y ||| 2 ^ k)
  have h2 := zei b y
  have h3 : 2 ^ a.depth ≤ 2 ^ (max a.depth b.depth) := Nat.pow_le_pow_right (by decide) (Nat.le_max_left _ _)
  have h4 : 2 ^ b.depth ≤ 2 ^ (max a.depth b.depth) := Nat.pow_le_pow_right (by decide) (Nat.le_max_right _ _)
  omega
theorem zcg {ts : List Tie} {il : List Nat} {m : Nat} : ∀ (f y n : Nat), (zba ts il m f y n).depth ≤ f
 | f, y, n => by
  unfold zba
  cases za7 ts il y n with
  | some t => exact Nat.zero_le _
  | none =>
   dsimp only
   cases zar m y n with
   | nil => exact Nat.zero_le _
   | cons k r =>
    cases f with
    | zero => exact Nat.zero_le _
    | succ f =>
     show max _ _ + 1 ≤ f + 1
     have h1 := zcg (ts := ts) (il := il) (m := m) f (y ||| 2 ^ k) n
     have h2 := zcg (ts := ts) (il := il) (m := m) f y (n ||| 2 ^ k)
     omega
theorem zdh {m : Nat} {ts : List Tie} {il : List Nat} (ok : ∀ t ∈ ts, t.Ok m) : ∀ (f y n : Nat), (zar m y n).length ≤ f → Stand m y n → ∀ s, s ∈ (zba ts il m f y n).leaves y ↔ (s < 2 ^ m ∧ InS y n s ∧ zii ts il s = true)
 | f, y, n, hf, S, s => by
  unfold zba
  cases hb : za7 ts il y n with
  | some i =>
   obtain ⟨hi, hsb⟩ := zej hb
   constructor
   ·intro h; cases h
   ·rintro ⟨sm, hs, hk⟩
    have := (List.all_eq_true.mp hk) i hi
    rw [zkg ok S.dj hsb hs] at this
    cases this
  | none =>
   have hn := zey hb
   dsimp only
   cases hl : zar m y n with
   | nil =>
    show s ∈ [y] ↔ _
    rw [List.mem_singleton]
    constructor
    ·rintro rfl
     exact ⟨S.ym, ziy S.dj, List.all_eq_true.mpr fun i hi => zhf ok S.dj hl (hn i hi)⟩
    ·rintro ⟨sm, hs, _⟩
     exact zio S hl hs sm
   | cons k r =>
    have hk : k ∈ zar m y n := by rw [hl]; exact List.mem_cons_self
    cases f with
    | zero => rw [hl] at hf; simp at hf
    | succ f =>
     have l1 := zcd hk
     have l2 := zca hk
     show s ∈ (zba ts il m f (y ||| 2 ^ k) n).leaves (y ||| 2 ^ k) ++ (zba ts il m f y (n ||| 2 ^ k)).leaves y ↔ _
     rw [List.mem_append, zdh ok f (y ||| 2 ^ k) n (by omega) (S.one hk), zdh ok f y (n ||| 2 ^ k) (by omega) (S.other hk)]
     constructor
     ·rintro (⟨a, b, c⟩ | ⟨a, b, c⟩)
      ·exact ⟨a, inS_split.mpr (.inl b), c⟩
      ·exact ⟨a, inS_split.mpr (.inr b), c⟩
     ·rintro ⟨a, b, c⟩
      rcases (inS_split (k := k)).mp b with b | b
      ·exact .inl ⟨a, b, c⟩
      ·exact .inr ⟨a, b, c⟩
end Wd
set_option maxRecDepth 100000
set_option maxHeartbeats 4000000
namespace L2
open PySem PySem.Spec PyProof.Rows
section
variable {X : Cx}
end
end L2
namespace Wd
open PySem L2 Ow
def CT.toD : CT → PyData
 | .broken t => .tuple [.str ("broken" : Str), .int (t : Int)]
 | .ware => .tuple [.str ("ware" : Str)]
 | .split k a b => .tuple [.str ("split" : Str), .int (k : Int), a.toD, b.toD]
theorem zqa {H : Hp} {t : Nat} {v : V} (h : Dn H (CT.broken t).toD v) : ∃ p, v = .ref p ∧ H p = some (.tup [.str ("broken" : Str), .int (t : Int)]) := by
 obtain ⟨p, xs, rfl, hp, xu, r1, rfl, hu, xl, r2, rfl, hlo, hnil⟩ := zbo h
 cases (show r2 = [] from hnil)
 cases (show xu = .str ("broken" : Str) from hu)
 cases zdb hlo
 exact ⟨p, rfl, hp⟩
theorem zs5 {H : Hp} {v : V} (h : Dn H CT.ware.toD v) : ∃ p, v = .ref p ∧ H p = some (.tup [.str ("ware" : Str)]) := by
 obtain ⟨p, xs, rfl, hp, xu, r1, rfl, hu, hnil⟩ := zbo h
 cases (show r1 = [] from hnil)
 cases (show xu = .str ("ware" : Str) from hu)
 exact ⟨p, rfl, hp⟩
theorem zrx {H : Hp} {k : Nat} {a b : CT} {v : V} (h : Dn H (CT.split k a b).toD v) : ∃ p va vb, v = .ref p ∧ H p = some (.tup [.str ("split" : Str), .int (k : Int), va, vb]) ∧ Dn H a.toD va ∧ Dn H b.toD vb := by
 obtain ⟨p, xs, rfl, hp, xu, r1, rfl, hu, xl, r2, rfl, hlo, va, r3, rfl, ha, vb, r4, rfl, hb, hnil⟩ := zbo h
 cases (show r4 = [] from hnil)
 cases (show xu = .str ("split" : Str) from hu)
 cases zdb hlo
 exact ⟨p, va, vb, rfl, hp, ha, hb⟩
theorem zls : ¬ V.str ("broken" : Str) = V.str ("ware" : Str) := zgo (by decide +kernel)
theorem zk6 : ¬ V.str ("broken" : Str) = V.str ("split" : Str) := zgo (by decide +kernel)
theorem znx : ¬ V.str ("split" : Str) = V.str ("ware" : Str) := zgo (by decide +kernel)
theorem zgy : ¬ V.str ("split" : Str) = V.str ("broken" : Str) := zgo (by decide +kernel)
theorem zoa : ¬ V.str ("ware" : Str) = V.str ("split" : Str) := zgo (by decide +kernel)
theorem zhz : ¬ V.str ("ware" : Str) = V.str ("broken" : Str) := zgo (by decide +kernel)
abbrev zav (l : List Nat) : List V := l.map fun k : Nat => V.int (k : Int)
def zss : Sp := fun vs H Q _ => ∃ n k : Nat, vs = [.int n, .int k] ∧ k ≤ 1000 ∧ Q (.int ((n ||| 2 ^ k : Nat) : Int)) H
def zud : Sp := fun vs H Q _ => ∃ m y n : Nat, vs = [.int m, .int y, .int n] ∧ m ≤ 900 ∧ ∀ (l : Addr) (H' : Hp), Same H H' → H l = none → H' l = some (.lst (zav (zar m y n))) → Q (.ref l) H'
def zpi : Sp := fun vs H Q _ => ∃ (wd : Addr) (m : Nat) (ts : List Tie) (tl : Addr) (il : List Nat) (y n : Nat), vs = [.ref wd, .ref tl, .int y, .int n] ∧ WoodT H wd m ts ∧ H tl = some (.lst (zav il)) ∧ (∀ i ∈ il, i < ts.length) ∧ ∀ H', Same H H' → Q (zuf (za7 ts il y n)) H'
def zqk (f : Nat) : Sp := fun vs H Q _ => ∃ (wd : Addr) (m : Nat) (ts : List Tie) (tl : Addr) (il : List Nat) (y n : Nat), vs = [.ref wd, .ref tl, .int y, .int n] ∧ WoodT H wd m ts ∧ H tl = some (.lst (zav il)) ∧ (∀ i ∈ il, i < ts.length) ∧ (zar m y n).length ≤ f ∧ ∀ (v : V) (H' : Hp), Same H H' → Dn H' (zba ts il m f y n).toD v → Q v H'
def zci (ts : List Tie) : List Nat := List.range ts.length
theorem zhv (ts : List Tie) (s : Nat) : zii ts (zci ts) s = ts.all fun t => t.keep s := by
 unfold zii zci
 rw [Bool.eq_iff_iff, List.all_eq_true, List.all_eq_true]
 constructor
 ·intro h t ht
  obtain ⟨i, hi, rfl⟩ := List.getElem_of_mem ht
  have := h i (List.mem_range.mpr hi)
  unfold zem at this
  rw [List.getElem?_eq_getElem hi] at this
  exact this
 ·intro h i hi
  unfold zem
  rw [List.getElem?_eq_getElem (List.mem_range.mp hi)]
  exact h _ (List.getElem_mem _)
def zti : Sp := fun vs H Q _ => ∃ (wd : Addr) (m : Nat) (ts : List Tie) (y n : Nat), vs = [.ref wd, .int y, .int n] ∧ WoodT H wd m ts ∧ m ≤ 9 ∧ ∀ (v : V) (H' : Hp), Same H H' → Dn H' (zba ts (zci ts) m 9 y n).toD v → Q v H'
def zjj (f : Nat) : Sp := fun vs H Q _ => ∃ (y : Nat) (t : CT) (v : V), vs = [.int y, v] ∧ Dn H t.toD v ∧ t.depth ≤ f ∧ f ≤ 9 ∧ CT.small t ∧ ∀ (l : Addr) (H' : Hp), Same H H' → H l = none → H' l = some (.lst (zav (t.leaves y))) → Q (.ref l) H'
end Wd
set_option maxRecDepth 100000
set_option maxHeartbeats 4000000
namespace L2
open PySem PySem.Spec PyProof.Rows
section
variable {X : Cx}
end
end L2
namespace Wd
open PySem L2 Ow
theorem zur {K : PySem.W.Frag} {H : Hp} {pen a : Addr} {xs : List V} {o : HO} (h : SqL K H a xs) (hp : H pen = none) : ∀ H', SameX pen (L2.upd H pen o) H' → SqL K H' a xs := fun H' s => by
 have keep : ∀ u, H a = some u → KpX pen (L2.upd H pen o) H' a u := fun u e => s a u (zax e hp) (by rw [zap (zax e hp)]; exact e)
 rcases h with (h | ⟨u, h⟩) | h
 ·exact .inl (.inl (keep _ h))
 ·exact .inl (.inr ⟨u, keep _ h⟩)
 ·exact .inr h
theorem zs0 {K : PySem.W.Frag} {H : Hp} {pen sp : Addr} {ns : List Int} (h : SqL K H sp (ns.map V.int)) (hl : ns.length ≤ 63) (hp : H pen = none) : Pen K (L2.upd H pen (.lst [.ref sp, .int 0])) pen sp ns 0 := ⟨zae, hl, zur h hp⟩
end Wd
set_option maxRecDepth 100000
set_option maxHeartbeats 4000000
namespace L2
open PySem PySem.Spec PyProof.Rows
def zso : Option Stmt → Expr
 | some (Stmt.Return (some e) _) => e
 | _ => .Constant .none 0 ⟨0, 0, 0, 0⟩
section
variable {X : Cx} {tg iter elt : Expr} {cs : List Expr} {sc sc0 : Scope} {pos : Pos} {wi : TI} {g : TG} {tc : TT} {te : TE} {XN N' : List Str} {n : Nat} {kp : List Nat}
theorem piL {K : PySem.W.Frag} {l : Expr} {tl : TE} (hl : PE X l tl) (h : X.K = K := by rfl) : PI X tg l (zt1 K tl) := h ▸ zsc hl
theorem piT {K : PySem.W.Frag} {l : Expr} {tl : TE} (hl : PE X l tl) (h : X.K = K := by rfl) : PI X tg l (zvl K tl) := h ▸ zva hl
end
end L2
set_option maxRecDepth 100000
set_option maxHeartbeats 4000000
namespace Wd
open PySem L2 Ow
end Wd
set_option maxRecDepth 100000
set_option maxHeartbeats 4000000
namespace Wd
open PySem L2 Ow
theorem zsm {m : Nat} {t : Tie} (ok : t.Ok m) {y n : Nat} (S : Stand m y n) : t.sb y n = true ↔ ∀ s, s < 2 ^ m → InS y n s → t.keep s = false := by
 rw [zn8 ok S.dj]
 refine ⟨fun h s _ hs => h s hs, fun h s hs => ?_⟩
 have bit : ∀ k, k < m → (s % 2 ^ m).testBit k = s.testBit k := fun k hk => by
  rw [Nat.testBit_mod_two_pow, decide_eq_true hk, Bool.true_and]
 have low : ∀ (x k : Nat), x < 2 ^ m → x.testBit k = true → k < m := fun x k hx hk => by
  by_cases z : k < m
  ·exact z
  ·have : 2 ^ m ≤ 2 ^ k := Nat.pow_le_pow_right (by decide) (by omega)
   rw [Nat.testBit_lt_two_pow (by omega)] at hk
   cases hk
 have e := h (s % 2 ^ m) (Nat.mod_lt _ (Nat.two_pow_pos m)) ⟨fun k hk => by rw [bit k (low y k S.ym hk)]; exact hs.1 k hk, fun k hk => by rw [bit k (low n k S.nm hk)]; exact hs.2 k hk⟩
 rw [zi8 ok (s' := s % 2 ^ m) fun k hk => (bit k hk).symm]
 exact e
theorem zrd (k : Nat) (op : List Nat) : inV (.int (k : Int)) (zav op) = decide (k ∈ op) := by
 induction op with
 | nil => rfl
 | cons a r ih =>
  have e : inV (.int (k : Int)) (zav (a :: r)) = (eqV (.int (a : Int)) (.int (k : Int)) || inV (.int (k : Int)) (zav r)) := rfl
  rw [e, ih]
  have e2 : eqV (.int (a : Int)) (.int (k : Int)) = decide (k = a) := by
   show ((a : Int) == (k : Int)) = _
   by_cases z : k = a
   ·subst z; simp
   ·rw [decide_eq_false z]
    simpa using fun h => z (by omega)
  rw [e2]
  simp [List.mem_cons, Bool.decide_or]
theorem zpf (op : List Nat) : (zav op).all zgs = true := by
 rw [List.all_eq_true]
 intro x hx
 obtain ⟨i, _, rfl⟩ := List.mem_map.mp hx
 rfl
end Wd
set_option maxRecDepth 100000
set_option maxHeartbeats 4000000
namespace L2
open PySem PySem.Spec PyProof.Rows
def zju (f : Addr) (qual : Str) (params : Arguments) (body : Expr) (scope : Scope) (cl : List (Str × Addr)) (c : Addr) : Heap → Prop :=
 fun h => ∃ (pm ctv : Value), h.get? f = some (PySem.W.kla_obj "<lambda>" qual params body scope cl pm c ctv)
structure zfr (mg : Str → Option Value) (base : Heap) (c P : Addr) : Prop where
 code : PySem.W.CodeHd base c P
 blt : ∃ bm ob, mg "__builtins__" = some (.ref bm) ∧ bm ≠ builtinsNs ∧ base.get? bm = some ob ∧ ob.cls = .type "module" ∧ ob.dict = some builtinsNs ∧ ob.data = .plain
theorem znt {P : Program} {w : World} {H : Hp} {h : Heap} {a : Addr} {φ : Heap → Prop} (hH : H a = some (.ext φ)) (ok : HOk P w H h) : φ h := (ok a _ hH).1
section
variable {X : Cx} {params : Arguments} {body : Expr} {scope : Scope} {pos : Pos} {c P : Addr}
theorem zkx (hc : X.env.code = .ref c) (B : zfr X.mg X.base c P) (hdef : defaultsOf params X.env = ([], [])) (hfr : ∀ y ∈ scope.names, y.2 = .free → ∃ c, X.env.cells.lookup y.1 = some c) :
  PE X (.Lambda params body scope pos) (fun σ H Q => zc3 H P ∧ ∀ (f c' : Addr) (H1 : Hp), H f = none → Same H H1 →
   H1 f = some (.ext (zju f (X.env.qual ++ "<lambda>") params body scope (zd8 scope X.env) c')) → H1 c' = some (.ext (zft c')) → Q (.ref f) H1) := by
 intro pins s σ H Q I hq
 obtain ⟨⟨ps, hP, tr, hps⟩, q⟩ := hq
 refine PySem.W.kla_eval hdef ?_
 have hP' : s.heap.get? P = some (PySem.W.tabObj ps) := I.hok P _ hP
 have hg : s.heap.Ns mainGlobals X.mg := I.mod.glob.keeps I.bk
 have C : PySem.W.CodeHd s.heap c P := B.code.keeps I.bk
 have hgP : mainGlobals ≠ P := fun z => by
  obtain ⟨o, es, ep, e, hd, _⟩ := hg
  rw [z, hP'] at e; cases e; cases hd
 have hb : s.heap.BuiltinsAt X.mg P := by
  obtain ⟨bm, ob, b1, b2, b3, b4, b5, b6⟩ := B.blt
  have b3' := I.bk _ _ b3
  refine ⟨bm, ob, b1, b2, fun z => ?_, fun z => ?_, b3', b4, b5, b6⟩
  ·obtain ⟨o, es, ep, e, hd, _⟩ := hg
   rw [z, e] at b3'; cases b3'; rw [hd] at b6; cases b6
  ·rw [z, hP'] at b3'; cases b3'; cases b4
 have hcl : closureFor scope X.env = pure (zd8 scope X.env) := zor hfr
 rcases hps pos with hnf | ⟨c', hf, hc'⟩
 ·refine PySem.W.kla_makeFunction hcl I.ok.glob hg hc C hP' tr hnf hgP hb fun c' ctv h' tk hx hge hlt hrec htb => ?_
  have szP : P < s.heap.objs.size := Heap.lt_size hP'
  have hcn : H c' = none := I.hok.fresh hge
  have hfn : H h'.objs.size = none := I.hok.fresh (Nat.le_trans hge (Nat.le_of_lt hlt))
  have cf : c' ≠ h'.objs.size := Nat.ne_of_lt hlt
  have cP : c' ≠ P := Nat.ne_of_gt (Nat.lt_of_lt_of_le szP hge)
  have fP : h'.objs.size ≠ P := Nat.ne_of_gt (Nat.lt_of_lt_of_le szP (Nat.le_trans hge (Nat.le_of_lt hlt)))
  have keep : ∀ b o, b ≠ P → s.heap.get? b = some o → (h'.push (PySem.W.kla_obj "<lambda>" (X.env.qual ++ "<lambda>") params body scope (zd8 scope X.env) ((X.mg "__name__").getD .none) c' ctv)).get? b = some o := fun b o hb e => Heap.get?_push_of_some _ (hx b o hb e)
  obtain ⟨c2, oc, vs, t, e2, hoc, hd, hv⟩ := hrec
  cases e2
  let H1 : Hp := upd (upd (upd H P (.tbl (ps ++ #[rawInt pos.line, rawInt pos.col, .ref c']))) c' (.ext (zft c'))) h'.objs.size (.ext (zju h'.objs.size (X.env.qual ++ "<lambda>") params body scope (zd8 scope X.env) c'))
  have H1f : H1 h'.objs.size = some (.ext (zju h'.objs.size (X.env.qual ++ "<lambda>") params body scope (zd8 scope X.env) c')) := zae
  have H1c : H1 c' = some (.ext (zft c')) := by show upd _ _ _ c' = _; rw [zap cf, zae]
  have H1P : H1 P = some (.tbl (ps ++ #[rawInt pos.line, rawInt pos.col, .ref c'])) := by show upd _ _ _ P = _; rw [zap (Ne.symm fP), zap (Ne.symm cP), zae]
  have H1o : ∀ b, b ≠ h'.objs.size → b ≠ c' → b ≠ P → H1 b = H b := fun b n1 n2 n3 => by show upd _ _ _ b = _; rw [zap n1, zap n2, zap n3]
  have old : ∀ b u, H b = some u → b ≠ h'.objs.size ∧ b ≠ c' := fun b u e => ⟨zax e hfn, zax e hcn⟩
  have oldE : ∀ b, H b = some (.ext (zft b)) → H1 b = some (.ext (zft b)) := fun b e => by rw [H1o b (old b _ e).1 (old b _ e).2 (fun z => by rw [z, hP] at e; cases e)]; exact e
  have tabs : zc3 H1 P := ⟨_, H1P, by rw [Array.toList_append]; exact TriplesOk_snoc _ _ _ _ tr, fun p' => by
   rw [Array.toList_append]
   rcases zjd (pos := p') (pos' := pos) (c := .ref c') ps.toList tr with z | z
   ·rcases hps p' with y | ⟨d, y1, y2⟩
    ·exact .inl (z.trans y)
    ·exact .inr ⟨d, z.trans y1, oldE d y2⟩
   ·exact .inr ⟨c', z, H1c⟩⟩
  have same : Same H H1 := fun b o e => by
   by_cases hbP : b = P
   ·subst hbP
    rw [hP] at e
    cases e
    exact ⟨⟨_, H1P⟩, fun _ => tabs⟩
   ·exact Kp.of e (by rw [H1o b (old b _ e).1 (old b _ e).2 hbP]; exact e) oldE
  have un : Un X.fs [] H H1 s.heap (h'.push (PySem.W.kla_obj "<lambda>" (X.env.qual ++ "<lambda>") params body scope (zd8 scope X.env) ((X.mg "__name__").getD .none) c' ctv)) := by
   have np : ∀ b, H b = none → b ≠ P := fun b n z => by rw [z, hP] at n; cases n
   refine ⟨fun b o e n _ _ => keep b o (np b n) e, fun b o e n _ _ => ⟨o.slots, keep b o (np b n) e⟩, fun b o e n _ => ?_, fun b o e _ => ?_, fun b xs e => ?_, fun b o u e => ?_, fun b qs e => ?_⟩
   ·have l := Heap.lt_size e
    rw [H1o b (Nat.ne_of_lt (Nat.lt_trans (Nat.lt_of_lt_of_le l hge) hlt)) (Nat.ne_of_lt (Nat.lt_of_lt_of_le l hge)) (np b n)]
    exact n
   ·by_cases hbP : b = P
    ·subst hbP
     exact ⟨_, Heap.get?_push_of_some _ htb⟩
    ·exact ⟨o, keep b o hbP e⟩
   ·rw [H1o b (old b _ e).1 (old b _ e).2 (fun z => by rw [z, hP] at e; cases e)]
    exact e
   ·rw [H1o b (old b _ e).1 (old b _ e).2 (fun z => by rw [z, hP] at e; cases e)]
    exact e
   ·by_cases hbP : b = P
    ·subst hbP
     rw [hP] at e
     cases e
     exact ⟨_, H1P⟩
    ·exact ⟨#[], by rw [H1o b (old b _ e).1 (old b _ e).2 hbP, e]; simp⟩
  have hok : HOk X.prog X.w H1 (h'.push (PySem.W.kla_obj "<lambda>" (X.env.qual ++ "<lambda>") params body scope (zd8 scope X.env) ((X.mg "__name__").getD .none) c' ctv)) := fun b u e => by
   by_cases h1 : b = h'.objs.size
   ·subst h1
    rw [H1f] at e
    cases e
    exact ⟨⟨_, _, Heap.get?_push_size _ rfl⟩, ⟨_, Heap.get?_push_size _ rfl⟩, fun h1 h2 ⟨pm, cv, z⟩ k => ⟨pm, cv, k _ z⟩⟩
   ·by_cases h2 : b = c'
    ·subst h2
     rw [H1c] at e
     cases e
     exact ⟨⟨oc, vs, _, t, Heap.get?_push_of_some _ hoc, hd, hv⟩, ⟨_, Heap.get?_push_of_some _ hoc⟩, fun h1 h2 ⟨o, v, qq, tt, z1, z2, z3⟩ k => ⟨o, v, qq, tt, k _ z1, z2, z3⟩⟩
    ·by_cases h3 : b = P
     ·subst h3
      rw [H1P] at e
      cases e
      exact Heap.get?_push_of_some _ htb
     ·rw [H1o b h1 h2 h3] at e
      refine (I.hok b u e).stay (fun b' o' hb' e' => ?_) (fun b' e' => ?_) fun b' xs e' => ?_
      ·refine keep b' o' ?_ e'
       rcases hb' with z | z
       ·rw [z]; exact h3
       ·intro z2; rw [z2, hP] at z; cases z
      ·rw [H1o b' (old b' _ e').1 (old b' _ e').2 (fun z => by rw [z, hP] at e'; cases e')]; exact e'
      ·rw [H1o b' (old b' _ e').1 (old b' _ e').2 (fun z => by rw [z, hP] at e'; cases e')]; exact e'
  exact ⟨.ref h'.objs.size, H1, I.un un hok, rfl, q _ c' H1 hfn same H1f H1c⟩
 ·refine PySem.W.kla_makeFunctionHit hcl I.ok.glob hg hc C hP' tr hf hb fun ctv h' tk hk hsz => ?_
  have hfn : H h'.objs.size = none := I.hok.fresh hsz
  have keep : ∀ b o, s.heap.get? b = some o → (h'.push { cls := .type "function", data := .func (PySem.W.kla_fn "<lambda>" (X.env.qual ++ "<lambda>") params body scope (zd8 scope X.env) ((X.mg "__name__").getD .none) (.ref c') ctv) }).get? b = some o := fun b o e => Heap.get?_push_of_some _ (hk b o e)
  have same : Same H (upd H h'.objs.size (.ext (zju h'.objs.size (X.env.qual ++ "<lambda>") params body scope (zd8 scope X.env) c'))) := zik fun b u e => by rw [zap (zax e hfn)]; exact e
  refine ⟨.ref h'.objs.size, _, I.un (Un.laid keep hsz hfn) (I.hok.laid keep hsz ?_), rfl, q _ c' _ hfn same zae (same c' _ hc')⟩
  exact ⟨⟨_, _, Heap.get?_push_size _ rfl⟩, ⟨_, Heap.get?_push_size _ rfl⟩, fun h1 h2 ⟨pm, cv, z⟩ k => ⟨pm, cv, k _ z⟩⟩
end
def zbx (h : Heap) (H : Hp) (st : List Env) : Heap := PySem.W.hideAll h (trk h H ++ frs st)
section
variable {X : Cx} {pins : List (Addr × Obj)} {σ : St} {H : Hp} {s : Shared}
theorem zec {h : Heap} {H : Hp} {st : List Env} {b : Addr} {o : Obj} (e : (zbx h H st).get? b = some o) : h.get? b = some o ∧ H b = none ∧ b ∉ frs st := by
 have e' : h.get? b = some o := PySem.W.of_hideAll _ e
 refine ⟨e', ?_, fun z => ?_⟩
 ·cases q : H b with
  | none => rfl
  | some x =>
   have hm : b ∈ trk h H := List.mem_filter.mpr ⟨List.mem_range.mpr (Heap.lt_size e'), by simp [q]⟩
   have z : (zbx h H st).get? b = none := PySem.W.hideAll_none _ (List.mem_append_left _ hm)
   rw [z] at e; cases e
 ·have y : (zbx h H st).get? b = none := PySem.W.hideAll_none _ (List.mem_append_right _ z)
  rw [y] at e; cases e
theorem zfo {h : Heap} {H : Hp} {st : List Env} {b : Addr} {o : Obj} (e : h.get? b = some o) (n : H b = none) (hf : b ∉ frs st) : (zbx h H st).get? b = some o :=
 PySem.W.hideAll_get _ e fun hm => by
  rcases List.mem_append.mp hm with z | z
  ·have q : (H b).isSome = true := (List.mem_filter.mp z).2
   rw [n] at q; simp at q
  ·exact hf z
theorem Inv.noStk (I : Inv X pins σ H s) {b : Addr} {o : Obj} (e : X.base.get? b = some o) : b ∉ frs X.stack := fun hb => by
 have := (I.stack.mem hb).1
 rw [e] at this; cases this
theorem Inv.now (I : Inv X pins σ H s) : zpc X.prog X.w X.K X.mg (zbx s.heap H X.stack) X.A X.stack s H := by
 have up : ∀ b o, X.base.get? b = some o → (zbx s.heap H X.stack).get? b = some o := fun b o e => zfo (I.bs b o e).1 (I.bs b o e).2 (I.noStk e)
 obtain ⟨mb, h1, h2⟩ := I.mod.blt
 refine ⟨I.ok.frames, ⟨I.mod.kin.keeps up, I.mod.glob.keeps up, ⟨mb, h1.keeps up, h2⟩, I.mod.nolimit.keeps up⟩, fun b o e => ⟨(zec e).1, (zec e).2.1⟩, Nat.le_of_eq (PySem.W.hideAll_size _ _), ?_, I.stkFree, I.hok, I.bare⟩
 have go : ∀ l : List Env, (∀ b ∈ frs l, b ∈ frs X.stack) → s.heap.FunFrames X.base l → s.heap.FunFrames (zbx s.heap H X.stack) l := by
  intro l
  induction l with
  | nil => intro _ _; trivial
  | cons env r ih =>
   intro hs hl
   obtain ⟨hk, ⟨L, o, hf, hn, ho, hd⟩, hr⟩ := hl
   have hL : L ∈ frs X.stack := hs L (by unfold frs; rw [List.filterMap_cons, hf]; exact List.mem_cons_self)
   refine ⟨hk, ⟨L, o, hf, ?_, ho, hd⟩, ih (fun b hb => hs b (by unfold frs; rw [List.filterMap_cons, hf]; exact List.mem_cons_of_mem _ hb)) hr⟩
   exact PySem.W.hideAll_none _ (List.mem_append_right _ hL)
 exact go X.stack (fun _ h => h) I.stack
theorem Inv.nowCell (I : Inv X pins σ H s) {x : Str} {c : Addr} {v : Option Value} (hf : X.fn x = true) (hc : X.env.cells.lookup x = some c) (h : s.heap.IsCell c v) : (zbx s.heap H X.stack).IsCell c v := by
 obtain ⟨o, ho, hd⟩ := h
 refine ⟨o, zfo ho (I.freeC x c hc) fun z => ?_, hd⟩
 rcases List.mem_cons.mp (I.stkSub c z) with e | e
 ·exact I.cne x c hc e
 ·obtain ⟨_, ob, e2, _⟩ := I.ok.funs.mem e
  exact absurd (Nat.lt_of_lt_of_le (Heap.lt_size e2) (I.ok.cab x c hf hc)) (Nat.lt_irrefl _)
end
section
variable {X : Cx} {k : Nat} {f : Addr} {fd : FuncData} {ps : List Str} {x : Str} {p pos : Pos} {e : Expr} {es : List Expr} {t : TA}
def zgv (X : Cx) (σ : St) (base : Heap) : Prop := ∀ (i : Nat) (y : Str) (v : V), X.N[i]? = some y → σ[i]? = some (some v) → X.env.kindOf y = some .cell → ∃ c u, X.env.cells.lookup y = some c ∧ RelV v u ∧ base.IsCell c (some u)
theorem zi6 (hr : Room k X.A) (hg : Gl X x) (hm : X.mg x = some (.ref f)) (hk : PySem.W.keepIn X.K (.ref f) = true) (hb : Binds X.K fd ps []) (hfn : ∀ y, X.fn y = true)
  (ha : PA X (e :: es) t) (hdb : (x == ("__debug__" : Str)) = false := by decide) (he : starEach (e :: es) X.env = (false, eval e X.env) :: starEach es X.env := by rfl) (hpl : (backTo pos (starEach es X.env)).any (·.1) = false := by rfl) :
  PE X (.Call (.Name x p) (e :: es) [] pos) (fun σ H Q => t σ H fun vs H1 => ∀ base : Heap, zgv X σ base → X.K.In base → base.Ns mainGlobals X.mg → ∃ sp : Sp, FnOk X.prog X.w X.K X.mg base CX0 k f fd ps sp ∧ sp vs H1 Q E0) := by
 intro pins s σ H Q I h
 refine wpAny_Call_Name_kw (zok I hg hm ?_ hdb)
 refine PySem.W.callWith_K (h₀ := X.base) I.ok.mod.kin hk (thn (ha pos pins s σ H _ I h) fun us s1 ⟨vs, H1, I1, r, q⟩ => ⟨I1.kIn, ?_⟩) he hpl
 have e0 := I1.now
 have ci : zgv X σ (zbx s1.heap H1 X.stack) := fun i y v hN hv hk => by
  obtain ⟨m, hn, hl⟩ := I1.loc
  obtain ⟨u, ru, l⟩ := hl i y v hN hv (.inr (.inl hk))
  rcases l with ⟨hk', _⟩ | ⟨_, c, hc, hcell⟩
  ·rw [hk] at hk'; cases hk'
  ·exact ⟨c, u, hc, ru, I1.nowCell (hfn y) hc hcell⟩
 obtain ⟨sp, F, hs⟩ := q _ ci e0.mod.kin e0.mod.glob
 have hl : us.length = ps.length := by rw [← r.length]; exact F.len _ _ _ _ hs
 have hbb := hb s1 us I1.kIn (by rw [List.append_nil]; exact hl)
 rw [List.append_nil] at hbb
 refine wpAny_call (codeAny_mono (F.run X.A X.stack s1 H1 ⟨us, []⟩ us vs Q E0 hr e0 hbb r hs) fun r s' hq => ?_)
 cases r with
 | error e => exact hq.elim
 | ok fl =>
  cases fl with
  | ret u => exact I1.after hq
  | next => exact False.elim hq
  | brk => exact False.elim hq
  | cont => exact False.elim hq
theorem zm1 {i : Nat} {φ : Heap → Prop} {sp : Sp} (F : FnOk X.prog X.w X.K X.mg X.base CX0 k f fd ps sp) (hr : Room k X.A) (hN : X.N[i]? = some x) (hv : Vis X.env.scope x) (hb : Binds X.K fd ps [])
  (hφ : ∀ h : Heap, φ h → ∃ o fd', h.get? f = some o ∧ o.data = .func fd') (ha : PA X (e :: es) t)
  (hdb : (x == ("__debug__" : Str)) = false := by decide) (hcd : (x == ("__classdict__" : Str)) = false := by decide) (he : starEach (e :: es) X.env = (false, eval e X.env) :: starEach es X.env := by rfl) (hpl : (backTo pos (starEach es X.env)).any (·.1) = false := by rfl) :
  PE X (.Call (.Name x p) (e :: es) [] pos) (fun σ H Q => σ[i]? = some (some (.ref f)) ∧ t σ H fun vs H1 => H1 f = some (.ext φ) ∧ sp vs H1 Q E0) := by
 intro pins s σ H Q I h
 obtain ⟨hσ, h⟩ := h
 refine wpAny_Call_Name_kw (wpAny_mono (zrl hN hv hdb hcd pins s σ H (fun v H' => v = .ref f ∧ H' = H) I ⟨_, hσ, rfl, rfl⟩) (fun u s1 hu => ?_) fun _ _ z => z)
 obtain ⟨v, H', I', rv, e1, e2⟩ := hu
 subst e1
 subst e2
 obtain rfl : u = Value.ref f := rv
 have h2 : wpAny (model X.prog X.w) X.A (spliced (backTo pos (starEach (e :: es) X.env))) (fun vs s₁ => (∃ o fd', s₁.heap.get? f = some o ∧ o.data = .func fd') ∧ wpAny (model X.prog X.w) X.A (call (.ref f) ([] ++ vs)) (EP X pins σ Q) X.xe s₁) X.xe s1 := by
  refine thn (ha pos pins s1 σ _ _ I' h) fun us s2 ⟨vs, H1, I1, r, e3, q⟩ => ⟨hφ _ (znt e3 I1.hok), ?_⟩
  have hq := zrn (ds := []) (dvs := []) (E := E0) F hr hb .nil zrt I1 r (by rw [List.append_nil]; exact q)
  exact hq
 rw [he] at h2
 show wpAny _ _ (callWith pos (.ref f) [] (backTo pos (starEach (e :: es) X.env)) []) _ _ s1
 rw [he]
 refine PySem.W.callWith_of (by show ((false || (backTo pos (starEach es X.env)).any (·.1)) || false) = false; rw [hpl]; rfl) (P := fun h => ∃ o fd', h.get? f = some o ∧ o.data = .func fd') (fun h ⟨o, fd', e1, e2⟩ => ?_) (Calls.evalArgs_plain h2)
 obtain ⟨oc, od, od', os⟩ := o
 cases e2
 exact ⟨.frame, .inl rfl, (PySem.W.Looks.ld (part := none) e1).andThen .now⟩
end
structure zjb (ps fr : List Str) (sc : Scope) : Prop where
 kind : sc.kind = .function
 co : sc.isCoroutine = false
 gen : sc.isGenerator = false
 nd : ps.Nodup
 par : ∀ x ∈ ps, sc.names.lookup x = some .local
 fre : ∀ x ∈ fr, sc.names.lookup x = some .free
 nocell : ∀ y ∈ sc.names, y.2 ≠ .cell
theorem zit {ps : List Str} {us : List Value} {i : Nat} {x : Str} {u : Value} (nd : ps.Nodup) (h1 : ps[i]? = some x) (h2 : us[i]? = some u) : (ps.zip us).reverse.lookup x = some u := by
 have hm : (x, u) ∈ (ps.zip us).reverse := List.mem_reverse.mpr (List.mem_of_getElem? (i := i) (by rw [List.getElem?_zip_eq_some]; exact ⟨h1, h2⟩))
 obtain ⟨c, hc⟩ := ze1 hm
 have h3 := List.mem_reverse.mp (PySem.mem_of_lookup hc)
 obtain ⟨j, hj⟩ := List.getElem?_of_mem h3
 rw [List.getElem?_zip_eq_some] at hj
 have hij : j = i := by
  obtain ⟨l1, e1⟩ := List.getElem?_eq_some_iff.mp h1
  obtain ⟨l2, e2⟩ := List.getElem?_eq_some_iff.mp hj.1
  rw [List.nodup_iff_pairwise_ne, List.pairwise_iff_getElem] at nd
  rcases Nat.lt_trichotomy j i with z | z | z
  ·exact absurd (e2.trans e1.symm) (nd j i l2 l1 z)
  ·exact z
  ·exact absurd (e1.trans e2.symm) (nd i j l1 l2 z)
 rw [hij, h2] at hj
 rw [hc, hj.2]
def zo0 (P : Program) (w : World) (K : PySem.W.Frag) (mg : Str → Option Value) (base : Heap) (N : List Str) (q : Str) (scope : Scope) (f c : Addr) (cl : List (Str × Addr)) (A : Around) (outer : List Env) (s : Shared) (H : Hp) : Cx where
 prog := P
 w := w
 K := K
 mg := mg
 base := base
 A := A.deeper (PySem.W.envX q scope s.heap.objs.size f (.ref c) cl)
 N := N
 s₀ := s
 H₀ := H
 env := PySem.W.envX q scope s.heap.objs.size f (.ref c) cl
 outer := outer
 stack := PySem.W.envX q scope s.heap.objs.size f (.ref c) cl :: outer
 ex := []
 calm := true
 fn := fun _ => false
 pn := []
 xe := fun _ _ => False
theorem zrp {prog : Program} {w : World} {A : Around} {R : Result → Shared → Prop} {s : Shared} {a : Addr} {args : Args} {o : Obj} {fd : FuncData} {body : Expr} {q : Str} (hroom : A.depth < recursionLimit)
  (ho : s.heap.get? a = some o)
  (hd' : o.data = .func fd) (hco : fd.scope.isCoroutine = false) (hgen : fd.scope.isGenerator = false) (hbody : fd.body = .expr body) (hcd : ∃ c oc vs t, fd.code = .ref c ∧ s.heap.get? c = some oc ∧ oc.data = .fields vs ∧ vs[1]? = some (.str q t))
  (h : wpAny (model prog w) A.in1 (bindArgs fd args) (fun binds s₁ =>
   wpAny (model prog w) A.in1 (newFunctionEnv fd.scope fd.globals fd.closure binds (q ++ ".<locals>.") (some a) fd.code none fd.builtins)
    (fun env s₂ => s₂.heap.NoLimit ∧ codeAny (model prog w) A (.expr body env) R s₂) (fun e s' => R (.error e) s') s₁) (fun e s' => R (.error e) s') s) :
  codeAny (model prog w) A (.call (.ref a) args) R s := by
 refine codeAny_of_tree ?_
 show wpAny _ A.in1 (callAny (.ref a) args) _ _ s
 simp only [callAny]
 refine wpAny_bind (wpAny_load ho ?_)
 obtain ⟨c, oc, vs, tq, hc, hoc, hdc, hq⟩ := hcd
 simp only [hd', callFunction, hco, hgen, hbody, hc]
 rw [hc] at h
 refine wpAny_bind (m := field (.ref c) 1) (wpAny_field hoc hdc hq (wpAny_bind (wpAny_pure ?_)))
 exact wpAny_bind (wpAny_mono h (fun binds s₁ h₁ => wpAny_bind (wpAny_mono h₁ (fun env s₂ h₂ => wpAny_bind (wpAny_enterFrame h₂.1 hroom
  (wpAny_pure (And.intro rfl h₂.2)))) fun _ _ h' => h')) fun _ _ h' => h')
theorem zr4 {P : Program} {w : World} {K : PySem.W.Frag} {mg : Str → Option Value} {base : Heap} {f c : Addr} {qual : Str} {params : Arguments} {body : Expr} {scope : Scope} {cl : List (Str × Addr)} {ps fr : List Str} {fv : List V} {k : Nat} {sp : Sp}
  (S : zjb ps fr scope) (hcl : ∀ x cc, cl.lookup x = some cc → ∃ v, base.IsCell cc v) (inj : ∀ x y cc, cl.lookup x = some cc → cl.lookup y = some cc → x = y) (has : ∀ y ∈ scope.names, y.2 = .free → ∃ cc, cl.lookup y.1 = some cc)
  (hfv : ∀ (i : Nat) (x : Str) (v : V), fr[i]? = some x → fv[i]? = some v → ∃ cc u, cl.lookup x = some cc ∧ RelV v u ∧ base.IsCell cc (some u)) (hlen : fv.length = fr.length)
  (hsame : ∀ pm ctv args, bindArgs (PySem.W.kla_fn "<lambda>" qual params body scope cl pm (.ref c) ctv) args = bindArgs (PySem.W.kla_fn "<lambda>" qual params body scope cl .none (.ref c) .none) args)
  (len : ∀ vs H Q E, sp vs H Q E → vs.length = ps.length)
  (lam : ∀ vs H Q E, sp vs H Q E → H f = some (.ext (zju f qual params body scope cl c)) ∧ H c = some (.ext (zft c)))
  (hbody : ∀ (q : Str) (A : Around) (outer : List Env) (s : Shared) (H : Hp) (vs : List V) (Q : VK) (E : XK), Room k (A.deeper (PySem.W.envX q scope s.heap.objs.size f (.ref c) cl)) → sp vs H Q E →
   ∃ t, PE (zo0 P w K mg base (ps ++ fr) q scope f c cl A outer s H) body t ∧ t (vs.map some ++ fv.map some) H Q) :
  FnOk P w K mg base CX0 (k + 1) f (PySem.W.kla_fn "<lambda>" qual params body scope cl .none (.ref c) .none) ps sp := by
 refine ⟨len, fun A outer s H args us vs Q E hr e0 hb r hsp => ?_⟩
 have hl := len _ _ _ _ hsp
 obtain ⟨hf, hc⟩ := lam _ _ _ _ hsp
 obtain ⟨pm, ctv, ho⟩ := znt hf e0.hok
 obtain ⟨oc, vsc, q, t, hoc, hdc, hqc⟩ := znt hc e0.hok
 have lim : s.heap.NoLimit := e0.mod.nolimit.keeps fun b o e => (e0.bs b o e).1
 have toS : ∀ {cc v}, base.IsCell cc v → s.heap.IsCell cc v ∧ H cc = none := fun {cc v} ⟨o, e, d⟩ => ⟨⟨o, (e0.bs _ _ e).1, d⟩, (e0.bs _ _ e).2⟩
 refine zrp hr.depth ho rfl S.co S.gen rfl ⟨c, oc, vsc, t, rfl, hoc, hdc, hqc⟩ ?_
 rw [hsame]
 refine hb _ _ _ _ ?_
 have hloc : ∀ y ∈ ps.zip us, scope.names.lookup y.1 = some .local := fun ⟨n, v⟩ hy => S.par n (List.of_mem_zip hy).1
 refine wpAny_newFunctionEnv S.nocell hloc (fun h₁ hns hsb => ?_) S.kind
 have hk₁ : ∀ b o, s.heap.get? b = some o → h₁.get? b = some o := fun b o e => hsb.extBut b o (Nat.ne_of_lt (Heap.lt_size e)) (Heap.get?_push_of_some _ e)
 refine ⟨lim.keeps hk₁, ?_⟩
 obtain ⟨tt, ht, hq⟩ := hbody q A outer s H vs Q E (hr.deeper _) hsp
 have noA : ∀ b : Addr, b ∉ ([] : List Addr) := fun b z => by simp at z
 have kinds : ∀ x, (scope.names.lookup x = some .cell ∨ scope.names.lookup x = some .free) → ∃ cc, cl.lookup x = some cc := fun x hx => by
  rcases hx with z | z
  ·exact absurd rfl (S.nocell _ (PySem.mem_of_lookup z))
  ·exact has _ (PySem.mem_of_lookup z) rfl
 have I : Inv (zo0 P w K mg base (ps ++ fr) q scope f c cl A outer s H) [] (vs.map some ++ fv.map some) H { s with heap := h₁, toks := s.toks + (ps.zip us).length } := by
  refine ⟨⟨e0.mod, S.kind, rfl, rfl, Nat.le_refl _, inj, kinds, fun x cc z => (by cases z), fun _ => hr.hd, Around.frames_deeper e0.frames, .inr ⟨rfl, rfl⟩, fun b z => absurd z (noA b), e0.bs, e0.bsz, fun b _ _ => noA b, fun b z => absurd z (noA b), e0.funs, e0.frf⟩,
   rfl, e0.bare, Un.kept hk₁, ⟨_, hns, fun i x v h1 h2 h3 => ?_⟩, fun x cc e => ?_, e0.hok.fresh (Nat.le_refl _), fun x cc e => ?_, fun p hp => absurd (show p ∈ ([] : List (Addr × Obj)) from hp) (by simp), e0.hok.kept hk₁, ?_⟩
  ·have h1' : (ps ++ fr)[i]? = some x := h1
   by_cases hi : i < ps.length
   ·rw [List.getElem?_append_left hi] at h1'
    rw [List.getElem?_append_left (by rw [List.length_map, hl]; exact hi), List.getElem?_map] at h2
    obtain ⟨v', hv, e⟩ := Option.map_eq_some_iff.mp h2
    cases e
    obtain ⟨u, hu, rv⟩ := r.get hv
    exact ⟨u, rv, .inl ⟨S.par x (List.mem_of_getElem? h1'), zit S.nd h1' hu⟩⟩
   ·rw [List.getElem?_append_right (by omega)] at h1'
    rw [List.getElem?_append_right (by rw [List.length_map, hl]; omega), List.getElem?_map, List.length_map, hl] at h2
    obtain ⟨v', hv, e⟩ := Option.map_eq_some_iff.mp h2
    cases e
    obtain ⟨cc, u, e1, ru, ic⟩ := hfv _ _ _ h1' hv
    exact ⟨u, ru, .inr ⟨.inr (S.fre x (List.mem_of_getElem? h1')), cc, e1, (toS ic).1.keeps hk₁⟩⟩
  ·obtain ⟨v, ic⟩ := hcl x cc e
   exact ⟨v, (toS ic).1.keeps hk₁⟩
  ·obtain ⟨v, ic⟩ := hcl x cc e
   exact (toS ic).2
  ·show (vs.map some ++ fv.map some).length = (ps ++ fr).length
   rw [List.length_append, List.length_append, List.length_map, List.length_map, hl, hlen]
 refine PySem.W.kla_codeExpr (wpAny_mono (ht [] _ _ H _ I hq) (fun u s' hs => ?_) fun e s' hs => hs.elim)
 obtain ⟨v, H', J, rv, qq⟩ := hs
 exact ⟨v, H', J.os, J.bare, J.base, J.hok, rv, qq⟩
theorem Fun.okC {P : Program} {w : World} {K : PySem.W.Frag} {mg : Str → Option Value} {base : Heap} {x qual : Str} {st : Stmt} {f : Addr} {fd : FuncData} {N ps : List Str} {k : Nat} {sp : Sp} (F : Fun K x qual st f fd) (S : zas N ps (zag st)) (len : ∀ vs H Q E, sp vs H Q E → vs.length = ps.length)
  (hbody : ∀ (cdv : Value) (A : Around) (outer : List Env) (s : Shared) (H : Hp) (vs : List V) (Q : VK) (E : XK), fd.code = cdv → Room k (A.deeper (envOfC qual (zag st) s.heap.objs.size f cdv)) → sp vs H Q E →
   ∃ t, PSs (zcj CX0 P w K mg base N qual (zag st) f cdv A outer s H E).nox (za3 st) t ∧ t { nx := fun _ H' => Q .non H', rt := Q } (zg5 N vs) H) : FnOk P w K mg base CX0 (k + 1) f fd ps sp := by
 obtain ⟨oc, od, kV, doc, pm, an, cdv, ct, osl, rfl, lk, hcd⟩ := F.ex
 refine zty lk hcd S len fun A outer s H vs Q E hr hsp => ?_
 obtain ⟨t, h, q⟩ := hbody cdv A outer s H vs Q E rfl hr hsp
 exact ⟨t, h.nox, q⟩
theorem zpr {P : Program} {w : World} {K : PySem.W.Frag} {mg mb : Str → Option Value} {k : Nat} {fa a : Addr} {fd : FuncData} {x : Str} {sp : Sp} {s₁ : Shared} {vs : List Value} {ns : List Int} {tabs : List (Addr × Addr)}
  (KX : K.In s₁.heap) (hns : s₁.heap.Ns mainGlobals mg) (hb : s₁.heap.Ns builtinsNs mb) (hbb : ∀ x : Str, x ≠ "__name__" → mb x = bootBuiltins x) (hlim : s₁.heap.NoLimit) (hg : s₁.gens = #[])
  (hT : PySem.W.TabsAt tabs s₁.heap) (hK0 : PySem.W.noTabs K = true)
  (hbm : ∃ bm ob, mg "__builtins__" = some (.ref bm) ∧ bm ≠ builtinsNs ∧ s₁.heap.get? bm = some ob ∧ ob.cls = .type "module" ∧ ob.dict = some builtinsNs ∧ ob.data = .plain)
  (ha : s₁.heap.get? a = some { cls := .type "list", data := .seq vs.toArray }) (hi : IntsAre vs ns) (hl : ns.length ≤ sizeLine) (hr : Room k callerA)
  (F : ∀ base : Heap, K.In base → base.Ns mainGlobals mg → (∀ q ∈ tabs, zfr mg base q.1 q.2) → FnOk P w K mg base CX0 k fa fd [x] sp) (hbind : ∀ (s : Shared) (u : Value), BindsTo s fd ⟨[u], []⟩ [(x, u)])
  (hsp : ∀ H : Hp, (∀ q ∈ tabs, zc3 H q.2) → SqL K H a (ns.map V.int) → sp [.ref a] H (fun v _ => v = .bl true) fun _ _ _ => False) :
  codeAny (model P w) callerA (.call (.ref fa) ⟨[.ref a], []⟩) (fun r s' => r = .ok (.ret (.bool true)) ∧ OldK s₁.heap s'.heap ∧ s'.os = s₁.os ∧ AllBare s'.gens) s₁ := by
 have rv := zhs hi
 have lenV := hi.length
 have hPa : ∀ q ∈ tabs, q.2 ≠ a := fun q hq z => by
  have e := (hT q hq).2
  rw [z, ha] at e; cases e
 have hKP : ∀ q ∈ tabs, K.lookup q.2 = none := fun q hq => by
  cases e : K.lookup q.2 with
  | none => rfl
  | some o =>
   have e1 := KX _ _ e
   rw [(hT q hq).2] at e1
   cases e1
   have h2 := List.all_eq_true.mp hK0 (q.2, _) (PySem.W.mem_of_lookupK e)
   exact absurd (show false = true from h2) Bool.false_ne_true
 have core : ∀ H : Hp, (∀ b, H b = none ∨ (∃ o xs, H b = some (.frz o (.lst xs)) ∧ b = a ∧ K.lookup a = none) ∨ (H b = some (.tbl #[]) ∧ b ∈ tabs.map (·.2))) → (∀ q ∈ tabs, H q.2 = some (.tbl #[])) → SqL K H a (ns.map V.int) → HOk P w H s₁.heap →
   codeAny (model P w) callerA (.call (.ref fa) ⟨[.ref a], []⟩) (fun r s' => r = .ok (.ret (.bool true)) ∧ OldK s₁.heap s'.heap ∧ s'.os = s₁.os ∧ AllBare s'.gens) s₁ := by
  intro H hO hTb hS hok
  have noP : ∀ {b : Addr} {o : Obj}, s₁.heap.get? b = some o → o ≠ PySem.W.tabObj #[] → b ≠ a → H b = none := fun {b o} e hne hba => by
   rcases hO b with z | ⟨_, _, _, z, _⟩ | ⟨_, z⟩
   ·exact z
   ·exact absurd z hba
   ·obtain ⟨q, hq, rfl⟩ := List.mem_map.mp z
    rw [(hT q hq).2] at e
    exact absurd (Option.some.inj e).symm hne
  have base_of : ∀ {b : Addr} {o : Obj}, s₁.heap.get? b = some o → H b = none → (zj3 s₁.heap H).get? b = some o := fun e n => zqt e n
  have noA : ∀ {b : Addr} {o : Obj} {es : Array DictEntry} {ep : Nat}, s₁.heap.get? b = some o → o.data = .dict es ep → H b = none := fun {b o es ep} e d => by
   refine noP e (fun z => by rw [z] at d; cases d) fun z => ?_
   subst z
   rw [ha] at e; cases e; cases d
  have nsK : ∀ {b : Addr} {m : Str → Option Value}, s₁.heap.Ns b m → (zj3 s₁.heap H).Ns b m := fun {b m} ⟨o, es, ep, e, d, r⟩ => ⟨o, es, ep, base_of e (noA e d), d, r⟩
  have hKb : K.In (zj3 s₁.heap H) := fun b o e => base_of (KX b o e) (by
   rcases hO b with z | ⟨_, _, _, z, y⟩ | ⟨_, z⟩
   ·exact z
   ·rw [z, y] at e; cases e
   ·obtain ⟨q, hq, rfl⟩ := List.mem_map.mp z
    rw [hKP q hq] at e; cases e)
  have hM : Mod K mg (zj3 s₁.heap H) := ⟨hKb, nsK hns, ⟨mb, nsK hb, hbb⟩, let ⟨mc, h1, h2⟩ := hlim; ⟨mc, nsK h1, h2⟩⟩
  have hL : ∀ q ∈ tabs, zfr mg (zj3 s₁.heap H) q.1 q.2 := fun q hq => by
   refine ⟨?_, ?_⟩
   ·obtain ⟨o, ws, file, tf, flags, tg, inF, text, tt, e, e1, r⟩ := (hT q hq).1
    refine ⟨o, ws, file, tf, flags, tg, inF, text, tt, base_of e (noP e (fun z => by rw [z] at e1; cases e1) fun z => ?_), e1, r⟩
    rw [z, ha] at e; cases e; exact absurd e1 (by simp)
   ·obtain ⟨bm, ob, b1, b2, b3, b4, b5⟩ := hbm
    refine ⟨bm, ob, b1, b2, base_of b3 (noP b3 (fun z => by rw [z] at b4; cases b4) fun z => ?_), b4, b5⟩
    rw [z, ha] at b3; cases b3; exact absurd b4 (by simp)
  have e0 : zpc P w K mg (zj3 s₁.heap H) callerA [] s₁ H := ⟨rfl, hM, fun b o e => ztk e, Nat.le_of_eq (zp0 _ _), trivial, fun b hb => absurd (show b ∈ ([] : List Addr) from hb) (by simp), hok, .of_eq hg⟩
  have tk : ∀ q ∈ tabs, zc3 H q.2 := fun q hq => ⟨#[], hTb q hq, trivial, fun _ => .inl rfl⟩
  refine codeAny_mono ((F _ hKb (nsK hns) hL).run callerA [] s₁ H ⟨[.ref a], []⟩ [.ref a] [.ref a] _ _ hr e0 (hbind s₁ (.ref a)) (.cons rfl .nil) (hsp H tk hS)) fun r s' h => ?_
  cases r with
  | error e => exact h.elim
  | ok fl =>
   cases fl with
   | next => exact False.elim h
   | brk => exact False.elim h
   | cont => exact False.elim h
   | ret u =>
    obtain ⟨v, H', os, bare, un, hok', r', q⟩ := h
    have q' : v = .bl true := q
    subst q'
    obtain rfl : u = Value.bool true := r'
    have cases3 : ∀ b o, s₁.heap.get? b = some o → s'.heap.get? b = some o ∨ (∃ q ∈ tabs, b = q.2 ∧ ∃ ps, s'.heap.get? b = some (PySem.W.tabObj ps)) := fun b o e => by
     rcases hO b with z | ⟨ob, xs, z, _⟩ | ⟨z, y⟩
     ·exact .inl (un.keep b o e z (by intro z; exact absurd (show b ∈ ([] : List Addr) from z) (by simp)) (by simp))
     ·have z2 := un.frzs b ob _ z
      obtain ⟨e1, _⟩ := hok b _ z
      obtain ⟨e2, _⟩ := hok' b _ z2
      rw [e] at e1; cases e1
      exact .inl e2
     ·obtain ⟨q, hq, rfl⟩ := List.mem_map.mp y
      obtain ⟨more, z2⟩ := un.tbls _ _ z
      exact .inr ⟨q, hq, rfl, _, hok' _ _ z2⟩
    refine ⟨rfl, ⟨fun b o e => ?_, fun b o e => ?_⟩, os, bare⟩
    ·rcases cases3 b o e with z | ⟨q, hq, rfl, ps, z⟩
     ·exact .inl z
     ·have e2 := (hT q hq).2
      rw [e] at e2
      cases e2
      exact .inr (.inl ⟨((hT q hq).1.tab (hT q hq).2).isCodeTable, rfl, #[], ps, rfl, by rw [Array.empty_append]; exact z⟩)
    ·rcases cases3 b o e with z | ⟨q, hq, rfl, ps, z⟩
     ·exact ⟨_, z⟩
     ·exact ⟨_, z⟩
 have memT : ∀ b, b ∈ tabs.map (·.2) → s₁.heap.get? b = some (PySem.W.tabObj #[]) := fun b hb => by
  obtain ⟨q, hq, rfl⟩ := List.mem_map.mp hb
  exact (hT q hq).2
 cases hk : K.lookup a with
 | some o =>
  have e := KX a o hk
  rw [ha] at e
  cases e
  refine core (fun b => if b ∈ tabs.map (·.2) then some (.tbl #[]) else none) (fun b => ?_) (fun q hq => if_pos (List.mem_map_of_mem hq)) (.inr ⟨_, vs.toArray, _, hk, rfl, rfl, rfl, by rw [List.size_toArray, lenV]; exact hl, by simpa using rv⟩) (fun b u z => ?_)
  ·by_cases hb : b ∈ tabs.map (·.2)
   ·exact .inr (.inr ⟨if_pos hb, hb⟩)
   ·exact .inl (if_neg hb)
  ·by_cases hb : b ∈ tabs.map (·.2)
   ·have z' := (if_pos hb).symm.trans z
    cases z'
    exact memT b hb
   ·have z' := (if_neg hb).symm.trans z
    cases z'
 | none =>
  refine core (fun b => if b = a then some (.frz { cls := .type "list", data := .seq vs.toArray } (.lst (ns.map V.int))) else if b ∈ tabs.map (·.2) then some (.tbl #[]) else none) (fun b => ?_) (fun q hq => ?_) (.inl (.inr ⟨{ cls := .type "list", data := .seq vs.toArray }, if_pos rfl⟩)) (fun b u z => ?_)
  ·by_cases hb : b = a
   ·exact .inr (.inl ⟨_, _, if_pos hb, hb, hk⟩)
   ·by_cases hb2 : b ∈ tabs.map (·.2)
    ·exact .inr (.inr ⟨(if_neg hb).trans (if_pos hb2), hb2⟩)
    ·exact .inl ((if_neg hb).trans (if_neg hb2))
  ·exact (if_neg (hPa q hq)).trans (if_pos (List.mem_map_of_mem hq))
  ·by_cases hb : b = a
   ·have z' := (if_pos hb).symm.trans z
    cases z'
    subst hb
    exact ⟨ha, by rw [List.length_map]; exact hl, vs, _, rv, ha⟩
   ·have z1 := (if_neg hb).symm.trans z
    by_cases hb2 : b ∈ tabs.map (·.2)
    ·have z' := (if_pos hb2).symm.trans z1
     cases z'
     exact memT b hb2
    ·have z' := (if_neg hb2).symm.trans z1
     cases z'
theorem walk_ofT {l : PySem.W.OpenLaw} {n k : Nat} {q : Program} {loose : List Str} {XP : (Str → Option Value) → Heap → Prop} {YP : World → Heap → Prop} {d : DefRec} {K : Params → PySem.W.Frag} {sp : World → Sp} {x : Str} {tabs : World → List (Addr × Addr)}
  (hn : l.most = some n) (hn2 : n ≤ sizeLine) (hdf : d.params.defaults = []) (hr : Room k callerA)
  (hY : ∀ (w : World) (h : Heap), YP w h → (K w.params).In h) (hK0 : ∀ w : World, PySem.W.noTabs (K w.params) = true)
  (hT : ∀ (w : World) (h : Heap), YP w h → PySem.W.TabsAt (tabs w) h)
  (F : ∀ (w : World) (mg : Str → Option Value) (fa : Addr) (h : Heap), (K w.params).In h → h.Ns mainGlobals mg → mg d.name = some (.ref fa) →
   ∃ fd : FuncData, (∀ (s : Shared) (u : Value), BindsTo s fd ⟨[u], []⟩ [(x, u)]) ∧
    ∀ base : Heap, (K w.params).In base → base.Ns mainGlobals mg → (∀ p ∈ tabs w, zfr mg base p.1 p.2) → FnOk l.prog w (K w.params) mg base CX0 k fa fd [x] (sp w))
  (hsp : ∀ (w : World) (H : Hp) (a : Addr) (ns : List Int), ns.length ≤ n → (∀ p ∈ tabs w, zc3 H p.2) → SqL (K w.params) H a (ns.map V.int) → sp w [.ref a] H (fun v _ => v = .bl true) fun _ _ _ => False) :
  PySem.W.WalkO q loose XP YP l.row.toRowW d [] (fun f vs => PySem.call f vs) := by
 refine Att.attach_call hn hdf fun w s₀ s₁ mg mb fa o pm cd doc a vs ns G Y ho hd hcd hmg hobj hints hlen hg => ?_
 have KX := hY w _ Y
 obtain ⟨fd, hb, hF⟩ := F w mg fa _ KX G.T.g hmg
 have hTT := hT w _ Y
 exact zpr KX G.T.g G.T.b G.T.builtins G.T.nolimit hg hTT (hK0 w) G.T.bmain hobj hints (Nat.le_trans hlen hn2) hr hF hb fun H hO hS => hsp w H a ns hlen hO hS
def zfy : Expr → Expr
 | .Call _ args _ _ => args.getLastD (.Constant .none 0 ⟨0, 0, 0, 0⟩)
 | e => e
def zc0 : Expr → Scope
 | .Lambda _ _ sc _ => sc
 | _ => { kind := .function, names := [], isGenerator := false, isCoroutine := false }
theorem zgi {x y : Str} {c cc : Addr} (h : [(y, c)].lookup x = some cc) : x = y ∧ cc = c := by
 have m := PySem.mem_of_lookup h
 rw [List.mem_singleton] at m
 cases m
 exact ⟨rfl, rfl⟩
end L2
set_option maxRecDepth 100000
set_option maxHeartbeats 4000000
namespace Wd
open PySem L2 Ow
theorem zdj {b : Bool} {A B : Prop} (hb : b = true) (h : A) : if b = true then A else B := by
 rw [if_pos hb]
 exact h
theorem zb3 {b : Bool} {A B : Prop} (hb : b = false) (h : B) : if b = true then A else B := by
 rw [if_neg (by rw [hb]; simp)]
 exact h
def spT (P0 : Addr) (sp : Sp) : Sp := fun vs H Q E => zc3 H P0 ∧ sp vs H Q E
def zcr (ts : List Tie) (il : List Nat) (m : Nat) (leaf : Nat → Nat → Option PyData) : Nat → Nat → Nat → PyData
 | f, y, n => match za7 ts il y n with
  | some t => .tuple [.str ("broken" : Str), .int (t : Int)]
  | none => match leaf y n with
   | some d => d
   | none => match zar m y n, f with
    | k :: _, f + 1 => .tuple [.str ("split" : Str), .int (k : Int), zcr ts il m leaf f (y ||| 2 ^ k) n, zcr ts il m leaf f y (n ||| 2 ^ k)]
    | _, _ => .tuple []
section
variable {ts : List Tie} {il : List Nat} {m f y n : Nat} {leaf : Nat → Nat → Option PyData}
theorem zc8 {i : Nat} (hb : za7 ts il y n = some i) : zcr ts il m leaf f y n = .tuple [.str ("broken" : Str), .int (i : Int)] := by
 unfold zcr
 simp [hb]
theorem zen {d : PyData} (hb : za7 ts il y n = none) (hl : leaf y n = some d) : zcr ts il m leaf f y n = d := by
 unfold zcr
 simp [hb, hl]
theorem zdk {k : Nat} {r : List Nat} (hb : za7 ts il y n = none) (hl : leaf y n = none) (ho : zar m y n = k :: r) : zcr ts il m leaf (f + 1) y n = .tuple [.str ("split" : Str), .int (k : Int), zcr ts il m leaf f (y ||| 2 ^ k) n, zcr ts il m leaf f y (n ||| 2 ^ k)] := by
 conv => lhs; unfold zcr
 simp only [hb, hl, ho]
end
def zgt (leaf : Nat → Nat → Option PyData) (y n : Nat) (H : Hp) (v : V) : Prop := match leaf y n with
 | none => v = .non
 | some d => Dn H d v ∧ ∃ p, v = .ref p
def zut (C : Hp → Prop) (leaf : Nat → Nat → Option PyData) : Sp := fun vs H Q _ => ∃ y n : Nat, vs = [.int y, .int n] ∧ C H ∧ ∀ (v : V) (H' : Hp), Same H H' → zgt leaf y n H' v → Q v H'
def EndsR (ts : List Tie) (il : List Nat) (m : Nat) (leaf : Nat → Nat → Option PyData) (y n : Nat) : Prop := ∃ R : Nat → Nat → Prop, R y n ∧ (∀ y n k, R y n → k ∈ zar m y n → R (y ||| 2 ^ k) n ∧ R y (n ||| 2 ^ k)) ∧ ∀ y n, R y n → za7 ts il y n = none → zar m y n = [] → leaf y n ≠ none
theorem EndsR.all {ts : List Tie} {il : List Nat} {m : Nat} {leaf : Nat → Nat → Option PyData} (h : ∀ y n, za7 ts il y n = none → zar m y n = [] → leaf y n ≠ none) (y n : Nat) : EndsR ts il m leaf y n := ⟨fun _ _ => True, trivial, fun _ _ _ _ _ => ⟨trivial, trivial⟩, fun y n _ => h y n⟩
def zk8 (f : Nat) (p : Addr) (C : Hp → Prop) (m : Nat) (leaf : Nat → Nat → Option PyData) : Sp := fun vs H Q _ => ∃ (wd : Addr) (ts : List Tie) (tl : Addr) (il : List Nat) (y n : Nat), vs = [.ref wd, .ref tl, .int y, .int n, .ref p] ∧ WoodT H wd m ts ∧ H tl = some (.lst (zav il)) ∧ (∀ i ∈ il, i < ts.length) ∧ (zar m y n).length ≤ f ∧ C H ∧ EndsR ts il m leaf y n ∧ ∀ (v : V) (H' : Hp), Same H H' → Dn H' (zcr ts il m leaf f y n) v → Q v H'
theorem zrj {P : Program} {w : World} {K : PySem.W.Frag} {mg : Str → Option Value} {base : Heap} {p c : Addr} {qual : Str} {params : Arguments} {body : Expr} {scope : Scope} {cl : List (Str × Addr)} {H1 : Hp} {ps fr : List Str} {fv : List V} {k : Nat} {leaf : Nat → Nat → Option PyData} (C0 : Hp → Prop)
  (hp : H1 p = some (.ext (zju p qual params body scope cl c)))
  (S : zjb ps fr scope) (hcl : ∀ x cc, cl.lookup x = some cc → ∃ v, base.IsCell cc v) (inj : ∀ x y cc, cl.lookup x = some cc → cl.lookup y = some cc → x = y) (has : ∀ y ∈ scope.names, y.2 = .free → ∃ cc, cl.lookup y.1 = some cc)
  (hfv : ∀ (i : Nat) (x : Str) (v : V), fr[i]? = some x → fv[i]? = some v → ∃ cc u, cl.lookup x = some cc ∧ RelV v u ∧ base.IsCell cc (some u)) (hlen : fv.length = fr.length)
  (hsame : ∀ pm ctv args, bindArgs (PySem.W.kla_fn "<lambda>" qual params body scope cl pm (.ref c) ctv) args = bindArgs (PySem.W.kla_fn "<lambda>" qual params body scope cl .none (.ref c) .none) args)
  (len2 : ps.length = 2)
  (hbody : ∀ (q : Str) (A : Around) (outer : List Env) (s : Shared) (H : Hp) (y n : Nat) (Q : VK), Room k (A.deeper (PySem.W.envX q scope s.heap.objs.size p (.ref c) cl)) → C0 H → (∀ (v : V) (H' : Hp), Same H H' → zgt leaf y n H' v → Q v H') →
   ∃ t, PE (zo0 P w K mg base (ps ++ fr) q scope p c cl A outer s H) body t ∧ t ([some (.int y), some (.int n)] ++ fv.map some) H Q) :
  FnOk P w K mg base CX0 (k + 1) p (PySem.W.kla_fn "<lambda>" qual params body scope cl .none (.ref c) .none) ps (zut (fun H => C0 H ∧ H p = some (.ext (zju p qual params body scope cl c)) ∧ H c = some (.ext (zft c))) leaf) := by
 refine zr4 S hcl inj has hfv hlen hsame (fun vs H Q E h => ?_) (fun vs H Q E h => ?_) (fun q A outer s H vs Q E hr h => ?_)
 ·obtain ⟨y, n, rfl, _⟩ := h
  exact len2.symm
 ·obtain ⟨y, n, rfl, ⟨_, h1, h2⟩, _⟩ := h
  exact ⟨h1, h2⟩
 ·obtain ⟨y, n, rfl, ⟨h0, _, _⟩, q'⟩ := h
  exact hbody q A outer s H y n Q hr h0 q'
theorem zlg {p : Addr} {qual : Str} {params : Arguments} {body : Expr} {scope : Scope} {cl : List (Str × Addr)} {c : Addr} (h : Heap) (x : zju p qual params body scope cl c h) : ∃ o fd', h.get? p = some o ∧ o.data = .func fd' := by
 obtain ⟨pm, ctv, e⟩ := x
 exact ⟨_, _, e, rfl⟩
def zcz (m : Nat) (y n : Nat) : Option PyData := if zar m y n = [] then some (.tuple [.str ("ware" : Str)]) else none
theorem zgf {ts : List Tie} {il : List Nat} {m : Nat} : ∀ (f y n : Nat), (zar m y n).length ≤ f → zcr ts il m (zcz m) f y n = (zba ts il m f y n).toD
 | f, y, n, hf => by
  cases hb : za7 ts il y n with
  | some i => rw [zc8 hb, zds hb]; rfl
  | none =>
   cases ho : zar m y n with
   | nil => rw [zen hb (by unfold zcz; rw [if_pos ho]), zfd hb ho]; rfl
   | cons k r =>
    cases f with
    | zero => rw [ho] at hf; simp at hf
    | succ f =>
     have hk : k ∈ zar m y n := by rw [ho]; exact List.mem_cons_self
     have l1 := zcd hk
     have l2 := zca hk
     rw [zdk hb (by unfold zcz; rw [if_neg (by rw [ho]; simp)]) ho, zew hb ho, zgf f _ _ (by omega), zgf f _ _ (by omega)]
     rfl
end Wd
set_option maxRecDepth 100000
set_option maxHeartbeats 4000000
namespace L2
open PySem PySem.Spec PyProof.Rows
section
variable {prog : Program} {w : World} {A : Around} {E : Value → Shared → Prop} {s : Shared}
end
end L2
namespace Wd
open PySem L2 Ow
end Wd
set_option maxRecDepth 100000
set_option maxHeartbeats 4000000
namespace Wd
open PySem L2 Ow
def zbh (m : Nat) (ts : List Tie) : List Nat := (List.range (2 ^ m)).filter fun s => zd3 ts s
theorem mem_wareL {m : Nat} {ts : List Tie} {s : Nat} : s ∈ zbh m ts ↔ s < 2 ^ m ∧ zd3 ts s = true := by
 unfold zbh
 rw [List.mem_filter, List.mem_range]
theorem zjh (m : Nat) (ts : List Tie) : (zbh m ts).Pairwise (· < ·) := List.Pairwise.filter _ List.pairwise_lt_range
theorem zp7 {m : Nat} {ts : List Tie} (m9 : m ≤ 9) : (zbh m ts).length ≤ 512 := by
 have h1 : (zbh m ts).length ≤ 2 ^ m := by
  have := List.length_filter_le (fun s => zd3 ts s) (List.range (2 ^ m))
  rwa [List.length_range] at this
 exact Nat.le_trans h1 (Nat.pow_le_pow_right (by decide) m9 : 2 ^ m ≤ 2 ^ 9)
theorem zex {m : Nat} {ts : List Tie} {il : List Nat} (ok : ∀ t ∈ ts, t.Ok m) : ∀ (f y n : Nat), (zar m y n).length ≤ f → Stand m y n → ((zba ts il m f y n).leaves y).Nodup
 | f, y, n, hf, S => by
  cases hb : za7 ts il y n with
  | some i => rw [zds hb]; exact List.nodup_nil
  | none =>
   cases ho : zar m y n with
   | nil => rw [zfd hb ho]; exact List.nodup_cons.mpr ⟨List.not_mem_nil, List.nodup_nil⟩
   | cons k r =>
    have hk : k ∈ zar m y n := by rw [ho]; exact List.mem_cons_self
    cases f with
    | zero => rw [ho] at hf; simp at hf
    | succ f =>
     have l1 := zcd hk
     have l2 := zca hk
     rw [zew hb ho]
     show ((zba ts il m f (y ||| 2 ^ k) n).leaves (y ||| 2 ^ k) ++ (zba ts il m f y (n ||| 2 ^ k)).leaves y).Nodup
     refine List.nodup_append.mpr ⟨zex ok f _ _ (by omega) (S.one hk), zex ok f _ _ (by omega) (S.other hk), fun a ha b hb' e => ?_⟩
     subst e
     have h1 := ((zdh ok f _ _ (by omega) (S.one hk) a).mp ha).2.1.1 k (by rw [Nat.testBit_or, Nat.testBit_two_pow_self, Bool.or_true])
     have h2 := ((zdh ok f _ _ (by omega) (S.other hk) a).mp hb').2.1.2 k (by rw [Nat.testBit_or, Nat.testBit_two_pow_self, Bool.or_true])
     rw [h1] at h2
     cases h2
theorem zfg {m : Nat} (m1 : 1 ≤ m) : Stand m 1 0 := ⟨fun _ _ => Nat.zero_testBit _, Nat.lt_of_lt_of_le (by decide) (Nat.pow_le_pow_right (by decide) m1 : 2 ^ 1 ≤ 2 ^ m), Nat.two_pow_pos m⟩
theorem zni {m : Nat} {ts : List Tie} (ok : ∀ t ∈ ts, t.Ok m) (m1 : 1 ≤ m) (f : Nat) (hf : (zar m 1 0).length ≤ f) : ((zba ts (zci ts) m f 1 0).leaves 1).Perm (zbh m ts) := by
 refine (List.perm_ext_iff_of_nodup (zex ok f 1 0 hf (zfg m1)) ((zjh m ts).imp fun h => Nat.ne_of_lt h)).mpr fun s => ?_
 rw [zdh ok f 1 0 hf (zfg m1), mem_wareL, zhv]
 unfold zd3
 rw [Bool.and_eq_true]
 constructor
 ·rintro ⟨h1, h2, h3⟩
  exact ⟨h1, h2.1 0 rfl, h3⟩
 ·rintro ⟨h1, h2, h3⟩
  refine ⟨h1, ⟨fun k hk => ?_, fun k hk => ?_⟩, h3⟩
  ·have : k = 0 := by
    rcases Nat.eq_zero_or_pos k with z | z
    ·exact z
    ·have e : (1 : Nat).testBit k = false := Nat.testBit_lt_two_pow (Nat.lt_of_lt_of_le (by decide : 1 < 2 ^ 1) (Nat.pow_le_pow_right (by decide) z))
     rw [e] at hk; cases hk
   rw [this]; exact h2
  ·rw [Nat.zero_testBit] at hk; cases hk
theorem zm8 {ms : List Int} {L M : List Nat} (p : ms.Perm (L.map fun k : Nat => (k : Int))) (so : ms.Pairwise (· ≤ ·)) (q : L.Perm M) (pw : M.Pairwise (· < ·)) : ms = M.map fun k : Nat => (k : Int) := by
 refine List.Perm.eq_of_pairwise (le := (· ≤ ·)) (fun a b _ _ h1 h2 => Int.le_antisymm h1 h2) so ?_ (p.trans (q.map _))
 rw [List.pairwise_map]
 exact pw.imp fun h => by omega
def ztg : Sp := fun vs H Q _ => ∃ (wd : Addr) (m : Nat) (ts : List Tie), vs = [.ref wd] ∧ WoodT H wd m ts ∧ 1 ≤ m ∧ m ≤ 9 ∧ ∀ (l : Addr) (H' : Hp), Same H H' → H l = none → H' l = some (.lst (zav (zbh m ts))) → Q (.ref l) H'
end Wd
set_option maxHeartbeats 4000000
namespace Srt
open PySem PyProof PyProof.Rows
def zsz : Bool → Keyed → Array Keyed → Nat → Nat → Nat → StateT SortSt Sem (Option Nat) := sortPriv% PySem.Builtin.gallop
def zru : Array Keyed → Array Keyed → StateT SortSt Sem (Array Keyed) := sortPriv% PySem.Builtin.mergeLo
def zq6 : Array Keyed → Array Keyed → StateT SortSt Sem (Array Keyed) := sortPriv% PySem.Builtin.mergeHi
def kn (p : Keyed) : Int := numOf p.1
def zf4 (p : Keyed) : Prop := ∃ n t, p.1 = .int n t
theorem zce {arr : Array Keyed} {i : Nat} {p : Keyed} (h : arr[i]? = some p) : K arr i = kn p := by unfold K; rw [h]; rfl
def gp (left : Bool) (key : Keyed) (arr : Array Keyed) (base i : Nat) : Bool := if left then decide (K arr (base + i) < kn key) else !decide (kn key < K arr (base + i))
section
variable {prog : Program} {w : World} {A : Around} {E : Value → Shared → Prop} {s : Shared}
theorem zjl {st : SortSt} {x y : Keyed} {Q : Option Bool → SortSt → Prop} (hk : kindOf st = oneType') (hx : zf4 x) (hy : zf4 y) (h : Q (some (decide (kn x < kn y))) st) :
  wpS (model prog w) A E s (lt' x y) Q st := by
 obtain ⟨a, t, e1⟩ := hx
 obtain ⟨b, u, e2⟩ := hy
 obtain ⟨x1, x2⟩ := x
 obtain ⟨y1, y2⟩ := y
 cases e1; cases e2
 rw [lt'_eq]
 refine wpS_bind (wpS_get ?_)
 rw [hk, keyLt'_oneType]
 refine wpS_bind (wpS_lift (wpAny_attempt (oneLt_int ⟨rfl, ?_⟩)))
 exact wpS_pure h
theorem za9 {st : SortSt} {arr : Array Keyed} {i : Nat} {p : Keyed} {Q : Keyed → SortSt → Prop} (hp : arr[i]? = some p) (h : Q p st) : wpS (model prog w) A E s (elem' arr i) Q st := by
 rw [elem'_eq, hp]; exact wpS_pure h
theorem zcu {st : SortSt} {left : Bool} {key : Keyed} {arr : Array Keyed} {base n hint : Nat} {Q : Option Nat → SortSt → Prop} (hk : kindOf st = oneType') (hkey : zf4 key)
  (hall : ∀ i, i < n → ∃ p, arr[base + i]? = some p ∧ zf4 p) (hs : ∀ i j, i ≤ j → j < n → K arr (base + i) ≤ K arr (base + j)) (hn : hint < n)
  (h : ∀ k, k ≤ n → (∀ i, i < k → gp left key arr base i = true) → (∀ i, k ≤ i → i < n → gp left key arr base i = false) → Q (some k) st) :
  wpS (model prog w) A E s (zsz left key arr base n hint) Q st := by
 have hb : ∀ (i : Nat) (R : Option Bool → SortSt → Prop), i < n → R (some (gp left key arr base i)) st →
   wpS (model prog w) A E s (elem' arr (base + i) >>= fun x => if left = true then lt' x key else lt' key x >>= fun b => pure (b.map (!·))) R st := by
  intro i R hi hR
  obtain ⟨p, hp, ip⟩ := hall i hi
  refine wpS_bind (za9 hp ?_)
  unfold gp at hR
  rw [zce hp] at hR
  cases left with
  | true => exact zjl hk ip hkey hR
  | false => exact wpS_bind (zjl hk hkey ip (wpS_pure hR))
 have mono : ∀ i j, i ≤ j → j < n → gp left key arr base j = true → gp left key arr base i = true := by
  intro i j hij hj hg
  have := hs i j hij hj
  unfold gp at hg ⊢
  cases left <;> simp at hg ⊢ <;> omega
 have anti : ∀ i j, i ≤ j → j < n → gp left key arr base i = false → gp left key arr base j = false := by
  intro i j hij hj hg
  cases hgj : gp left key arr base j with
  | false => rfl
  | true => rw [mono i j hij hj hgj] at hg; cases hg
 refine wpS_bind (hb hint _ hn ?_)
 dsimp only
 cases hr : gp left key arr base hint with
 | true =>
  rw [if_pos rfl]
  refine wpS_bind (wpS_mono (wpS_forRange
   (I := fun x c st' => st = st' ∧ ∃ la of, c = (none, la, of) ∧ la < of ∧ hint + la < n ∧ x + 1 ≤ of ∧ gp left key arr base (hint + la) = true)
   (Q := fun c st' => st = st' ∧ ∃ la of, c = (none, la, of) ∧ la < of ∧ hint + la < n ∧ gp left key arr base (hint + la) = true ∧ (of ≥ n - hint ∨ (hint + of < n ∧ gp left key arr base (hint + of) = false)))
   ?_ ?_ ⟨rfl, 0, 1, rfl, by omega, by omega, by omega, hr⟩) ?_)
  ·rintro x c st' _ hx ⟨rfl, la, of, rfl, k1, k2, k3, k4⟩
   dsimp only
   by_cases hge : of ≥ n - hint
   ·rw [if_pos hge]
    exact wpS_pure ⟨rfl, la, of, rfl, k1, k2, k4, .inl hge⟩
   ·rw [if_neg hge]
    refine wpS_bind (hb _ _ (by omega) ?_)
    dsimp only
    cases hm : gp left key arr base (hint + of) with
    | true => exact wpS_pure ⟨rfl, of, 2 * of + 1, rfl, by omega, by omega, by omega, hm⟩
    | false => exact wpS_pure ⟨rfl, la, of, rfl, k1, k2, k4, .inr ⟨by omega, hm⟩⟩
  ·rintro c st' ⟨rfl, la, of, rfl, k1, k2, k3, k4⟩
   exact ⟨rfl, la, of, rfl, k1, k2, k4, .inl (by omega)⟩
  ·rintro c st' ⟨rfl, la, of, rfl, k1, k2, k4, k5⟩
   dsimp only
   have g1 : hint + la + 1 ≤ hint + min of (n - hint) := by omega
   have g2 : hint + min of (n - hint) ≤ n := by omega
   have g3 : ∀ i, i < hint + la + 1 → gp left key arr base i = true := fun i hi => mono i _ (by omega) k2 k4
   have g4 : ∀ i, hint + min of (n - hint) ≤ i → i < n → gp left key arr base i = false := fun i h1 h2 => by
    rcases k5 with z | ⟨z, hz⟩
    ·omega
    ·exact anti _ i (by omega) h2 hz
   refine wpS_bind (wpS_mono (wpS_forRange
    (I := fun x c st' => st = st' ∧ ∃ lo hi, c = (none, lo, hi) ∧ lo ≤ hi ∧ hi ≤ n ∧ hi - lo ≤ n - x ∧ (∀ i, i < lo → gp left key arr base i = true) ∧ (∀ i, hi ≤ i → i < n → gp left key arr base i = false))
    (Q := fun c st' => st = st' ∧ ∃ hi, c = (none, hi, hi) ∧ hi ≤ n ∧ (∀ i, i < hi → gp left key arr base i = true) ∧ (∀ i, hi ≤ i → i < n → gp left key arr base i = false))
    ?_ ?_ ⟨rfl, _, _, rfl, g1, g2, by omega, g3, g4⟩) ?_)
   ·rintro x c st' _ hx ⟨rfl, lo, hi, rfl, k1, k2, k3, k4, k5⟩
    dsimp only
    by_cases hge : lo ≥ hi
    ·rw [if_pos hge]
     have : lo = hi := by omega
     subst this
     exact wpS_pure ⟨rfl, lo, rfl, k2, k4, k5⟩
    ·rw [if_neg hge]
     refine wpS_bind (hb _ _ (by omega) ?_)
     dsimp only
     by_cases hm : gp left key arr base (lo + (hi - lo) / 2) = true
     ·rw [if_pos hm]
      exact wpS_pure ⟨rfl, _, _, rfl, by omega, k2, by omega, fun i hi' => mono i _ (by omega) (by omega) hm, k5⟩
     ·rw [if_neg hm]
      exact wpS_pure ⟨rfl, _, _, rfl, by omega, by omega, by omega, k4, fun i h1 h2 => anti _ i h1 h2 (by simpa using hm)⟩
   ·rintro c st' ⟨rfl, lo, hi, rfl, k1, k2, k3, k4, k5⟩
    have : lo = hi := by omega
    subst this
    exact ⟨rfl, lo, rfl, k2, k4, k5⟩
   ·rintro c st' ⟨rfl, hi, rfl, k2, k4, k5⟩
    exact wpS_pure (h hi k2 k4 k5)
 | false =>
  rw [if_neg (by decide)]
  refine wpS_bind (wpS_mono (wpS_forRange
   (I := fun x c st' => st = st' ∧ ∃ la of, c = (none, la, of) ∧ la < of ∧ la ≤ hint ∧ x + 1 ≤ of ∧ gp left key arr base (hint - la) = false)
   (Q := fun c st' => st = st' ∧ ∃ la of, c = (none, la, of) ∧ la < of ∧ la ≤ hint ∧ gp left key arr base (hint - la) = false ∧ (of ≥ hint + 1 ∨ (of ≤ hint ∧ gp left key arr base (hint - of) = true)))
   ?_ ?_ ⟨rfl, 0, 1, rfl, by omega, by omega, by omega, hr⟩) ?_)
  ·rintro x c st' _ hx ⟨rfl, la, of, rfl, k1, k2, k3, k4⟩
   dsimp only
   by_cases hge : of ≥ hint + 1
   ·rw [if_pos hge]
    exact wpS_pure ⟨rfl, la, of, rfl, k1, k2, k4, .inl hge⟩
   ·rw [if_neg hge]
    refine wpS_bind (hb _ _ (by omega) ?_)
    dsimp only
    cases hm : gp left key arr base (hint - of) with
    | false => exact wpS_pure ⟨rfl, of, 2 * of + 1, rfl, by omega, by omega, by omega, hm⟩
    | true => exact wpS_pure ⟨rfl, la, of, rfl, k1, k2, k4, .inr ⟨by omega, hm⟩⟩
  ·rintro c st' ⟨rfl, la, of, rfl, k1, k2, k3, k4⟩
   exact ⟨rfl, la, of, rfl, k1, k2, k4, .inl (by omega)⟩
  ·rintro c st' ⟨rfl, la, of, rfl, k1, k2, k4, k5⟩
   dsimp only
   have g1 : hint + 1 - min of (hint + 1) ≤ hint - la := by omega
   have g2 : hint - la ≤ n := by omega
   have g3 : ∀ i, i < hint + 1 - min of (hint + 1) → gp left key arr base i = true := fun i hi => by
    rcases k5 with z | ⟨z, hz⟩
    ·omega
    ·exact mono i _ (by omega) (by omega) hz
   have g4 : ∀ i, hint - la ≤ i → i < n → gp left key arr base i = false := fun i h1 h2 => anti _ i h1 h2 k4
   refine wpS_bind (wpS_mono (wpS_forRange
    (I := fun x c st' => st = st' ∧ ∃ lo hi, c = (none, lo, hi) ∧ lo ≤ hi ∧ hi ≤ n ∧ hi - lo ≤ n - x ∧ (∀ i, i < lo → gp left key arr base i = true) ∧ (∀ i, hi ≤ i → i < n → gp left key arr base i = false))
    (Q := fun c st' => st = st' ∧ ∃ hi, c = (none, hi, hi) ∧ hi ≤ n ∧ (∀ i, i < hi → gp left key arr base i = true) ∧ (∀ i, hi ≤ i → i < n → gp left key arr base i = false))
    ?_ ?_ ⟨rfl, _, _, rfl, g1, g2, by omega, g3, g4⟩) ?_)
   ·rintro x c st' _ hx ⟨rfl, lo, hi, rfl, k1, k2, k3, k4, k5⟩
    dsimp only
    by_cases hge : lo ≥ hi
    ·rw [if_pos hge]
     have : lo = hi := by omega
     subst this
     exact wpS_pure ⟨rfl, lo, rfl, k2, k4, k5⟩
    ·rw [if_neg hge]
     refine wpS_bind (hb _ _ (by omega) ?_)
     dsimp only
     by_cases hm : gp left key arr base (lo + (hi - lo) / 2) = true
     ·rw [if_pos hm]
      exact wpS_pure ⟨rfl, _, _, rfl, by omega, k2, by omega, fun i hi' => mono i _ (by omega) (by omega) hm, k5⟩
     ·rw [if_neg hm]
      exact wpS_pure ⟨rfl, _, _, rfl, by omega, by omega, by omega, k4, fun i h1 h2 => anti _ i h1 h2 (by simpa using hm)⟩
   ·rintro c st' ⟨rfl, lo, hi, rfl, k1, k2, k3, k4, k5⟩
    have : lo = hi := by omega
    subst this
    exact ⟨rfl, lo, rfl, k2, k4, k5⟩
   ·rintro c st' ⟨rfl, hi, rfl, k2, k4, k5⟩
    exact wpS_pure (h hi k2 k4 k5)
end
end Srt
set_option maxHeartbeats 4000000
namespace Srt
open PySem PyProof PyProof.Rows
def kle (x y : Keyed) : Prop := kn x ≤ kn y
theorem zj8 {x y z : Keyed} (h : kle x y) (g : kle y z) : kle x z := Int.le_trans h g
structure MI (A B out : List Keyed) (ia ib : Nat) : Prop where
 perm : out.Perm (A.take ia ++ B.take ib)
 srt : out.Pairwise kle
 la : ∀ x ∈ out, ∀ y ∈ A.drop ia, kle x y
 lb : ∀ x ∈ out, ∀ y ∈ B.drop ib, kle x y
def SP (A B R : List Keyed) : Prop := R.Perm (A ++ B) ∧ R.Pairwise kle
theorem MI.swap {A B out : List Keyed} {ia ib : Nat} (m : MI A B out ia ib) : MI B A out ib ia :=
 ⟨m.perm.trans List.perm_append_comm, m.srt, m.lb, m.la⟩
theorem MI.more {A B out : List Keyed} {ia ib : Nat} (hA : A.Pairwise kle) (m : MI A B out ia ib) (k : Nat) (hx : ∀ x ∈ (A.drop ia).take k, ∀ y ∈ B.drop ib, kle x y) :
  MI A B (out ++ (A.drop ia).take k) (ia + k) ib := by
 have hd : (A.drop ia).Pairwise kle := hA.sublist (List.drop_sublist _ _)
 have hs : ((A.drop ia).take k ++ (A.drop ia).drop k).Pairwise kle := by rw [List.take_append_drop]; exact hd
 obtain ⟨p1, p2, p3⟩ := List.pairwise_append.mp hs
 refine ⟨?_, List.pairwise_append.mpr ⟨m.srt, p1, fun x h y g => m.la x h y (List.mem_of_mem_take g)⟩, fun x h y g => ?_, fun x h y g => ?_⟩
 ·rw [List.take_add]
  refine (List.Perm.append_right _ m.perm).trans ?_
  rw [List.append_assoc, List.append_assoc]
  exact List.Perm.append_left _ List.perm_append_comm
 ·rw [← List.drop_drop] at g
  rcases List.mem_append.mp h with z | z
  ·exact m.la x z y (List.mem_of_mem_drop g)
  ·exact p3 x z y g
 ·rcases List.mem_append.mp h with z | z
  ·exact m.lb x z y g
  ·exact hx x z y g
theorem MI.fin {A B out : List Keyed} {ia ib : Nat} (m : MI A B out ia ib) (ha : A.length ≤ ia) (hb : B.length ≤ ib) : SP A B out := by
 have := m.perm
 rw [List.take_of_length_le ha, List.take_of_length_le hb] at this
 exact ⟨this, m.srt⟩
theorem MI.done {A B out : List Keyed} {ia ib : Nat} (hA : A.Pairwise kle) (m : MI A B out ia ib) (hb : B.length ≤ ib) : SP A B (out ++ A.drop ia ++ B.drop ib) := by
 have h := m.more hA A.length (fun x _ y g => by rw [List.drop_of_length_le hb] at g; cases g)
 rw [List.take_of_length_le (by rw [List.length_drop]; omega)] at h
 rw [List.drop_of_length_le hb, List.append_nil]
 exact h.fin (by omega) hb
theorem MI.last {A B out : List Keyed} {ia ib : Nat} (hA : A.Pairwise kle) (hB : B.Pairwise kle) (m : MI A B out ia ib) (hx : ∀ x ∈ B.drop ib, ∀ y ∈ A.drop ia, kle x y) :
  SP A B (out ++ B.drop ib ++ A.drop ia) := by
 have h := (m.swap.more hB B.length (fun x g y g2 => hx x (List.mem_of_mem_take g) y g2)).swap
 rw [List.take_of_length_le (by rw [List.length_drop]; omega)] at h
 have := h.done hA (Nat.le_add_left _ _)
 rwa [List.drop_of_length_le (l := B) (Nat.le_add_left _ _), List.append_nil] at this
theorem zfx {a : Array Keyed} {i : Nat} : (a.extract i a.size).toList = a.toList.drop i := by
 rw [Array.toList_extract, List.extract_eq_drop_take]
 rw [List.take_of_length_le]
 rw [List.length_drop, Array.length_toList]
 exact Nat.le_refl _
theorem zv2 {a : Array Keyed} {i k : Nat} : (a.extract i (i + k)).toList = (a.toList.drop i).take k := by
 rw [Array.toList_extract, List.extract_eq_drop_take, Nat.add_sub_cancel_left]
theorem zd6 {a : Array Keyed} {i : Nat} {p : Keyed} (h : a[i]? = some p) : (a.toList.drop i).take 1 = [p] := by
 have hi : i < a.toList.length := by
  rw [Array.length_toList]; exact (Array.getElem?_eq_some_iff.mp h).1
 have e : a.toList[i] = p := by
  obtain ⟨h1, h2⟩ := Array.getElem?_eq_some_iff.mp h
  rw [← h2]; exact Array.getElem_toList h1
 rw [List.drop_eq_getElem_cons hi, e]; rfl
theorem zqm {a : Array Keyed} {i : Nat} {p : Keyed} (h : a[i]? = some p) : p ∈ a.toList := by
 obtain ⟨h1, h2⟩ := Array.getElem?_eq_some_iff.mp h
 rw [← h2]; exact Array.getElem_mem_toList h1
theorem MI.one {a b out : Array Keyed} {ia ib : Nat} {p : Keyed} (hA : a.toList.Pairwise kle) (m : MI a.toList b.toList out.toList ia ib) (hp : a[ia]? = some p) (hx : ∀ y ∈ b.toList.drop ib, kle p y) :
  MI a.toList b.toList (out.push p).toList (ia + 1) ib := by
 have := m.more hA 1 (by rw [zd6 hp]; intro x hx' y hy; rw [List.mem_singleton.mp hx']; exact hx y hy)
 rw [zd6 hp] at this
 rwa [Array.toList_push]
theorem MI.blk {a b out : Array Keyed} {ia ib k : Nat} (hA : a.toList.Pairwise kle) (m : MI a.toList b.toList out.toList ia ib) (hx : ∀ x ∈ (a.toList.drop ia).take k, ∀ y ∈ b.toList.drop ib, kle x y) :
  MI a.toList b.toList (out ++ a.extract ia (ia + k)).toList (ia + k) ib := by
 rw [Array.toList_append, zv2]
 exact m.more hA k hx
theorem MI.doneA {a b out : Array Keyed} {ia ib : Nat} (hA : a.toList.Pairwise kle) (m : MI a.toList b.toList out.toList ia ib) (hb : b.size ≤ ib) :
  SP a.toList b.toList (out ++ a.extract ia a.size ++ b.extract ib b.size).toList := by
 rw [Array.toList_append, Array.toList_append, zfx, zfx]
 exact m.done hA hb
theorem MI.doneB {a b out : Array Keyed} {ia ib : Nat} (hB : b.toList.Pairwise kle) (m : MI a.toList b.toList out.toList ia ib) (ha : a.size ≤ ia) :
  SP a.toList b.toList (out ++ a.extract ia a.size ++ b.extract ib b.size).toList := by
 rw [Array.toList_append, Array.toList_append, zfx, zfx, List.drop_of_length_le (l := a.toList) (by rw [Array.length_toList]; exact ha), List.append_nil]
 have h := m.swap.done hB (by rw [Array.length_toList]; exact ha)
 rw [List.drop_of_length_le (l := a.toList) (by rw [Array.length_toList]; exact ha), List.append_nil] at h
 exact ⟨h.1.trans List.perm_append_comm, h.2⟩
theorem MI.lastA {a b out : Array Keyed} {ia ib : Nat} (hA : a.toList.Pairwise kle) (hB : b.toList.Pairwise kle) (m : MI a.toList b.toList out.toList ia ib) (hx : ∀ x ∈ b.toList, ∀ y ∈ a.toList.drop ia, kle x y) :
  SP a.toList b.toList (out ++ b.extract ib b.size ++ a.extract ia a.size).toList := by
 rw [Array.toList_append, Array.toList_append, zfx, zfx]
 exact m.last hA hB fun x h => hx x (List.mem_of_mem_drop h)
theorem MI.lastE {a b out : Array Keyed} {ia ib : Nat} (hA : a.toList.Pairwise kle) (hB : b.toList.Pairwise kle) (m : MI a.toList b.toList out.toList ia ib) (e : ia + 1 = a.size)
  (hx : ∀ x ∈ b.toList, ∀ y ∈ a.toList.drop (a.size - 1), kle x y) : SP a.toList b.toList (out ++ b.extract ib b.size ++ a.extract ia a.size).toList :=
 m.lastA hA hB (by rw [show ia = a.size - 1 by omega]; exact hx)
section
variable {prog : Program} {w : World} {A : Around} {E : Value → Shared → Prop} {s : Shared}
theorem zao {α : Type} {c : Prop} [Decidable c] {t e : StateT SortSt Sem α} {Q : α → SortSt → Prop} {st : SortSt} (h1 : c → wpS (model prog w) A E s t Q st) (h2 : ¬ c → wpS (model prog w) A E s e Q st) :
  wpS (model prog w) A E s (if c then t else e) Q st := by
 by_cases hc : c
 ·rw [if_pos hc]; exact h1 hc
 ·rw [if_neg hc]; exact h2 hc
abbrev zd4 (st : SortSt) (g : Nat) : SortSt := SortSt.mk' (kindOf st) (arrOf st) (pendingOf st) g (failedOf st)
theorem zk0 {a b : Array Keyed} {i j : Nat} {p q : Keyed} (hB : b.toList.Pairwise kle) (hq : b[j]? = some q) (h : kle p q) : ∀ y ∈ b.toList.drop j, kle p y := by
 intro y hy
 obtain ⟨h1, h2⟩ := Array.getElem?_eq_some_iff.mp hq
 have hi : j < b.toList.length := by rw [Array.length_toList]; exact h1
 have e : b.toList[j] = q := by rw [← h2]; exact Array.getElem_toList h1
 have hd := hB.sublist (List.drop_sublist j b.toList)
 rw [List.drop_eq_getElem_cons hi, e] at hy hd
 rcases List.mem_cons.mp hy with z | z
 ·rw [z]; exact h
 ·exact zj8 h ((List.pairwise_cons.mp hd).1 y z)
theorem zqr {a : Array Keyed} (hA : a.toList.Pairwise kle) {i j : Nat} (hij : i ≤ j) (hj : j < a.size) : K a i ≤ K a j := by
 have hi : i < a.size := by omega
 rw [zce (Array.getElem?_eq_getElem hi), zce (Array.getElem?_eq_getElem hj)]
 by_cases e : i = j
 ·subst e; exact Int.le_refl _
 ·have := List.pairwise_iff_getElem.mp hA i j (by rw [Array.length_toList]; exact hi) (by rw [Array.length_toList]; exact hj) (by omega)
  rw [Array.getElem_toList, Array.getElem_toList] at this
  exact this
theorem zfe {a : Array Keyed} {i : Nat} {x : Keyed} (h : x ∈ a.toList.drop i) : ∃ j, i ≤ j ∧ j < a.size ∧ a[j]? = some x := by
 obtain ⟨j, hj, e⟩ := List.mem_iff_getElem.mp h
 rw [List.length_drop, Array.length_toList] at hj
 rw [List.getElem_drop, Array.getElem_toList] at e
 exact ⟨i + j, by omega, by omega, by rw [Array.getElem?_eq_getElem (by omega), e]⟩
theorem zdm {a : Array Keyed} {i k : Nat} {x : Keyed} (h : x ∈ (a.toList.drop i).take k) : ∃ j, j < k ∧ i + j < a.size ∧ a[i + j]? = some x := by
 obtain ⟨j, hj, e⟩ := List.mem_iff_getElem.mp h
 rw [List.length_take, List.length_drop, Array.length_toList] at hj
 rw [List.getElem_take, List.getElem_drop, Array.getElem_toList] at e
 exact ⟨j, by omega, by omega, by rw [Array.getElem?_eq_getElem (by omega), e]⟩
theorem zi3 {q : Keyed} {a : Array Keyed} {i j : Nat} {x : Keyed} (h : gp false q a i j = true) (hx : a[i + j]? = some x) : kle x q := by
 unfold gp at h; rw [zce hx] at h
 simp at h; exact h
theorem zhm {q : Keyed} {a : Array Keyed} {i j : Nat} {x : Keyed} (h : gp false q a i j = false) (hx : a[i + j]? = some x) : kle q x := by
 unfold gp at h; rw [zce hx] at h
 simp at h; exact Int.le_of_lt h
theorem zky {q : Keyed} {a : Array Keyed} {i j : Nat} {x : Keyed} (h : gp true q a i j = true) (hx : a[i + j]? = some x) : kle x q := by
 unfold gp at h; rw [zce hx] at h
 simp at h; exact Int.le_of_lt h
theorem zi7 {q : Keyed} {a : Array Keyed} {i j : Nat} {x : Keyed} (h : gp true q a i j = false) (hx : a[i + j]? = some x) : kle q x := by
 unfold gp at h; rw [zce hx] at h
 simp at h; exact h
structure MV (a b out : Array Keyed) (ia ib : Nat) : Prop where
 m : MI a.toList b.toList out.toList ia ib
 ha : ia + 2 ≤ a.size
 hb : ib < b.size
theorem zl5 {st : SortSt} {a b : Array Keyed} {Q : Array Keyed → SortSt → Prop} (hk : kindOf st = oneType') (iA : ∀ x ∈ a.toList, zf4 x) (iB : ∀ x ∈ b.toList, zf4 x)
  (hA : a.toList.Pairwise kle) (hB : b.toList.Pairwise kle) (na : 0 < a.size) (nb : 0 < b.size)
  (hb0 : ∀ x ∈ b.toList.take 1, ∀ y ∈ a.toList, kle x y) (hla : ∀ x ∈ b.toList, ∀ y ∈ a.toList.drop (a.size - 1), kle x y)
  (h : ∀ r g, SP a.toList b.toList r.toList → Q r (zd4 st g)) :
  wpS (model prog w) A E s (zru a b) Q st := by
 refine wpS_bind (wpS_lift (wpAny_rule ⟨rfl, ?_⟩))
 refine wpS_bind (za9 (Array.getElem?_eq_getElem nb) ?_)
 have m0 : MI a.toList b.toList (#[b[0]] : Array Keyed).toList 0 1 := by
  have z : MI b.toList a.toList (#[] : Array Keyed).toList 0 0 := ⟨List.Perm.refl _, List.Pairwise.nil, nofun, nofun⟩
  exact (z.one hB (Array.getElem?_eq_getElem nb) (fun y hy => hb0 _ (by have := zd6 (Array.getElem?_eq_getElem nb); rw [List.drop_zero] at this; rw [this]; exact List.mem_singleton.mpr rfl) y hy)).swap
 have pA : ∀ {i}, i < a.size → ∃ p, a[i]? = some p ∧ zf4 p := fun hi => ⟨_, Array.getElem?_eq_getElem hi, iA _ (Array.getElem_mem_toList hi)⟩
 have pB : ∀ {i}, i < b.size → ∃ p, b[i]? = some p ∧ zf4 p := fun hi => ⟨_, Array.getElem?_eq_getElem hi, iB _ (Array.getElem_mem_toList hi)⟩
 refine zao (fun c1 => wpS_pure (h _ (gallopOf st) (m0.doneA hA (Nat.le_of_eq (beq_iff_eq.mp c1).symm)))) (fun c1 => ?_)
 refine zao (fun c2 => wpS_pure (h _ (gallopOf st) (m0.lastE hA hB (beq_iff_eq.mp c2) hla))) (fun c2 => ?_)
 replace c1 : 1 ≠ b.size := fun z => c1 (beq_iff_eq.mpr z)
 replace c2 : 0 + 1 ≠ a.size := fun z => c2 (beq_iff_eq.mpr z)
 refine wpS_bind (wpS_get ?_)
 refine wpS_bind (wpS_mono (wpS_forRange
  (I := fun x c st' => (∃ g, zd4 st g = st') ∧ ∃ out ia ib mg, c = (none, out, ia, ib, mg) ∧ MV a b out ia ib ∧ x + 1 ≤ ia + ib)
  (Q := fun c st' => (∃ g, zd4 st g = st') ∧ ∃ r rest, c = (some r, rest) ∧ SP a.toList b.toList r.toList)
  ?_ ?_ ⟨⟨gallopOf st, rfl⟩, _, 0, 1, _, rfl, ⟨m0, by omega, by omega⟩, by omega⟩) ?_)
 ·rintro x0 c st' _ hx0 ⟨⟨g, rfl⟩, out, ia, ib, mg, rfl, v, hx⟩
  refine wpS_bind (wpS_mono (wpS_forRange
   (I := fun x c st' => zd4 st g = st' ∧ ∃ out ia ib ac bc, c = (none, out, ia, ib, ac, bc) ∧ MV a b out ia ib ∧ x0 + 1 + x ≤ ia + ib)
   (Q := fun c st' => zd4 st g = st' ∧ ((∃ r rest, c = (some r, rest) ∧ SP a.toList b.toList r.toList) ∨ ∃ out ia ib ac bc, c = (none, out, ia, ib, ac, bc) ∧ MV a b out ia ib ∧ x0 + 2 ≤ ia + ib))
   ?_ ?_ ⟨rfl, out, ia, ib, 0, 0, rfl, v, by omega⟩) ?_)
  ·rintro x c st' _ hx1 ⟨rfl, out, ia, ib, ac, bc, rfl, v, hx⟩
   obtain ⟨p, hp, ip⟩ := pA (show ia < a.size by have := v.ha; omega)
   obtain ⟨q, hq, iq⟩ := pB v.hb
   refine wpS_bind (za9 hq (wpS_bind (za9 hp (wpS_bind (zjl hk iq ip ?_)))))
   dsimp only
   have va := v.ha
   have vb := v.hb
   refine zao (fun c3 => ?_) (fun c3 => ?_)
   ·have c3' : kle q p := Int.le_of_lt (of_decide_eq_true c3)
    have m2 := (v.m.swap.one hB hq (zk0 (a := b) (i := ib) hA hp c3')).swap
    refine wpS_bind (za9 hq ?_)
    refine zao (fun c4 => wpS_pure ⟨rfl, .inl ⟨_, _, rfl, m2.doneA hA (Nat.le_of_eq (beq_iff_eq.mp c4).symm)⟩⟩) (fun c4 => ?_)
    have c4' : ib + 1 ≠ b.size := fun z => c4 (beq_iff_eq.mpr z)
    exact zao (fun c5 => wpS_pure ⟨rfl, .inr ⟨_, _, _, _, _, rfl, ⟨m2, va, by omega⟩, by omega⟩⟩) (fun c5 => wpS_pure ⟨rfl, _, _, _, _, _, rfl, ⟨m2, va, by omega⟩, by omega⟩)
   ·have c3' : kle p q := Int.not_lt.mp (fun z => c3 (decide_eq_true z))
    have m2 := v.m.one hA hp (zk0 (a := a) (i := ia) hB hq c3')
    refine wpS_bind (za9 hp ?_)
    refine zao (fun c4 => wpS_pure ⟨rfl, .inl ⟨_, _, rfl, m2.lastE hA hB (beq_iff_eq.mp c4) hla⟩⟩) (fun c4 => ?_)
    have c4' : ia + 1 + 1 ≠ a.size := fun z => c4 (beq_iff_eq.mpr z)
    exact zao (fun c5 => wpS_pure ⟨rfl, .inr ⟨_, _, _, _, _, rfl, ⟨m2, by omega, vb⟩, by omega⟩⟩) (fun c5 => wpS_pure ⟨rfl, _, _, _, _, _, rfl, ⟨m2, by omega, vb⟩, by omega⟩)
  ·rintro c st' ⟨rfl, out, ia, ib, ac, bc, rfl, v, hx⟩
   have va := v.ha
   have vb := v.hb
   omega
  ·rintro c st' ⟨rfl, ⟨r, rest, rfl, hr⟩ | ⟨out, ia, ib, ac, bc, rfl, v, hx⟩⟩
   ·exact wpS_pure ⟨⟨g, rfl⟩, r, _, rfl, hr⟩
   refine wpS_bind (wpS_lift (wpAny_rule ⟨rfl, ?_⟩))
   refine wpS_bind (wpS_mono (wpS_forRange
    (I := fun x c st' => (∃ g, zd4 st g = st') ∧ ∃ out ia ib mg ac bc, c = (none, out, ia, ib, mg, ac, bc) ∧ MV a b out ia ib ∧ x0 + 2 + x ≤ ia + ib)
    (Q := fun c st' => (∃ g, zd4 st g = st') ∧ ((∃ r rest, c = (some r, rest) ∧ SP a.toList b.toList r.toList) ∨ ∃ out ia ib mg ac bc, c = (none, out, ia, ib, mg, ac, bc) ∧ MV a b out ia ib ∧ x0 + 2 ≤ ia + ib))
    ?_ ?_ ⟨⟨g, rfl⟩, out, ia, ib, _, ac, bc, rfl, v, by omega⟩) ?_)
   ·rintro x c st' _ hx1 ⟨⟨g, rfl⟩, out, ia, ib, mg, ac, bc, rfl, v, hx⟩
    have va := v.ha
    have vb := v.hb
    obtain ⟨q, hq, iq⟩ := pB vb
    dsimp (config := { zeta := false, zetaHave := false, zetaUnused := false }) only
    extract_lets _ _ _ _ _ _ _ _ _ _ _ _ jp
    suffices hj : ∀ mg', wpS (model prog w) A E s (jp () mg') _ (zd4 st g) from zao (fun _ => hj _) (fun _ => hj _)
    intro mg'
    refine wpS_bind (wpS_modify ?_)
    refine wpS_bind (za9 hq ?_)
    refine wpS_bind (zcu (left := false) (arr := a) (base := ia) (n := a.size - ia) (hint := 0) hk iq (fun i hi => pA (i := ia + i) (by omega)) (fun i j hij hj => zqr hA (by omega) (by omega)) (by omega) fun k k1 k2 k3 => ?_)
    have le1 : ∀ x ∈ (a.toList.drop ia).take k, ∀ y ∈ b.toList.drop ib, kle x y := fun x hx y hy => by
     obtain ⟨j, h1, h2, h3⟩ := zdm hx
     exact zk0 (a := a) (i := 0) hB hq (zi3 (k2 j h1) h3) y hy
    have le2 : ∀ y ∈ a.toList.drop (ia + k), kle q y := fun y hy => by
     obtain ⟨j, h1, h2, h3⟩ := zfe hy
     exact zhm (k3 (j - ia) (by omega) (by omega)) (by rw [show ia + (j - ia) = j by omega]; exact h3)
    dsimp (config := { zeta := false, zetaHave := false, zetaUnused := false }) only
    extract_lets _ jp2
    suffices hj2 : ∀ (o2 : Array Keyed) (i2 : Nat), MI a.toList b.toList o2.toList i2 ib → i2 + 2 ≤ a.size → ia ≤ i2 → (∀ y ∈ a.toList.drop i2, kle q y) → wpS (model prog w) A E s (jp2 () o2 i2) _ (zd4 st mg') by
     refine zao (fun c3 => ?_) (fun c3 => hj2 out ia v.m va (Nat.le_refl _) (by rw [show ia = ia + k by omega]; exact le2))
     have m2 := v.m.blk hA le1
     refine zao (fun c4 => wpS_pure ⟨⟨mg', rfl⟩, .inl ⟨_, _, rfl, m2.lastE hA hB (beq_iff_eq.mp c4) hla⟩⟩) (fun c4 => ?_)
     refine zao (fun c5 => wpS_pure ⟨⟨mg', rfl⟩, .inl ⟨_, _, rfl, m2.doneB hB (Nat.le_of_eq (beq_iff_eq.mp c5).symm)⟩⟩) (fun c5 => ?_)
     have c4' : ia + k + 1 ≠ a.size := fun z => c4 (beq_iff_eq.mpr z)
     have c5' : ia + k ≠ a.size := fun z => c5 (beq_iff_eq.mpr z)
     exact hj2 _ (ia + k) m2 (by omega) (by omega) le2
    intro o2 i2 m2 hi2 hle qle
    obtain ⟨p, hp, ip⟩ := pA (show i2 < a.size by omega)
    refine wpS_bind (za9 hq ?_)
    have m3 := (m2.swap.one hB hq qle).swap
    refine zao (fun c4 => wpS_pure ⟨⟨mg', rfl⟩, .inl ⟨_, _, rfl, m3.doneA hA (Nat.le_of_eq (beq_iff_eq.mp c4).symm)⟩⟩) (fun c4 => ?_)
    have c4' : ib + 1 ≠ b.size := fun z => c4 (beq_iff_eq.mpr z)
    refine wpS_bind (za9 hp ?_)
    refine wpS_bind (zcu (left := true) (arr := b) (base := ib + 1) (n := b.size - (ib + 1)) (hint := 0) hk ip (fun i hi => pB (i := ib + 1 + i) (by omega)) (fun i j hij hj => zqr hB (by omega) (by omega)) (by omega) fun k' l1 l2 l3 => ?_)
    have le3 : ∀ x ∈ (b.toList.drop (ib + 1)).take k', ∀ y ∈ a.toList.drop i2, kle x y := fun x hx y hy => by
     obtain ⟨j, h1, h2, h3⟩ := zdm hx
     exact zk0 (a := a) (i := 0) hA hp (zky (l2 j h1) h3) y hy
    have le4 : ∀ y ∈ b.toList.drop (ib + 1 + k'), kle p y := fun y hy => by
     obtain ⟨j, h1, h2, h3⟩ := zfe hy
     exact zi7 (l3 (j - (ib + 1)) (by omega) (by omega)) (by rw [show ib + 1 + (j - (ib + 1)) = j by omega]; exact h3)
    dsimp (config := { zeta := false, zetaHave := false, zetaUnused := false }) only
    extract_lets _ _ jp3
    suffices hj3 : ∀ (o3 : Array Keyed) (i3 : Nat), MI a.toList b.toList o3.toList i2 i3 → i3 < b.size → ib + 1 ≤ i3 → (∀ y ∈ b.toList.drop i3, kle p y) → wpS (model prog w) A E s (jp3 () o3 i3) _ (zd4 st mg') by
     refine zao (fun c3 => ?_) (fun c3 => hj3 _ (ib + 1) m3 (by omega) (Nat.le_refl _) (by rw [show ib + 1 = ib + 1 + k' by omega]; exact le4))
     have m4 := (m3.swap.blk hB le3).swap
     refine zao (fun c5 => wpS_pure ⟨⟨mg', rfl⟩, .inl ⟨_, _, rfl, m4.doneA hA (Nat.le_of_eq (beq_iff_eq.mp c5).symm)⟩⟩) (fun c5 => ?_)
     have c5' : ib + 1 + k' ≠ b.size := fun z => c5 (beq_iff_eq.mpr z)
     exact hj3 _ (ib + 1 + k') m4 (by omega) (by omega) le4
    intro o3 i3 m4 hi3 hle3 ple
    refine wpS_bind (za9 hp ?_)
    have m5 := m4.one hA hp ple
    refine zao (fun c5 => wpS_pure ⟨⟨mg', rfl⟩, .inl ⟨_, _, rfl, m5.lastE hA hB (beq_iff_eq.mp c5) hla⟩⟩) (fun c5 => ?_)
    have c5' : i2 + 1 + 1 ≠ a.size := fun z => c5 (beq_iff_eq.mpr z)
    exact zao (fun c6 => wpS_pure ⟨⟨mg', rfl⟩, .inr ⟨_, _, _, _, _, _, rfl, ⟨m5, by omega, hi3⟩, by omega⟩⟩) (fun c6 => wpS_pure ⟨⟨mg', rfl⟩, _, _, _, _, _, _, rfl, ⟨m5, by omega, hi3⟩, by omega⟩)
   ·rintro c st' ⟨⟨g, rfl⟩, out, ia, ib, mg, ac, bc, rfl, v, hx⟩
    have va := v.ha
    have vb := v.hb
    omega
   ·rintro c st' ⟨⟨g, rfl⟩, ⟨r, rest, rfl, hr⟩ | ⟨out, ia, ib, mg, ac, bc, rfl, v, hx⟩⟩
    ·exact wpS_pure ⟨⟨g, rfl⟩, r, _, rfl, hr⟩
    ·exact wpS_bind (wpS_modify (wpS_pure ⟨⟨_, rfl⟩, _, _, _, _, rfl, v, by omega⟩))
 ·rintro c st' ⟨⟨g, rfl⟩, out, ia, ib, mg, rfl, v, hx⟩
  have va := v.ha
  have vb := v.hb
  omega
 ·rintro c st' ⟨⟨g, rfl⟩, r, rest, rfl, hr⟩
  exact wpS_pure (h r g hr)
end
end Srt
set_option maxHeartbeats 4000000
namespace Srt
open PySem PyProof PyProof.Rows
structure MH (A B out : List Keyed) (na nb : Nat) : Prop where
 perm : out.Perm (A.drop na ++ B.drop nb)
 srt : out.Pairwise fun x y => kle y x
 la : ∀ x ∈ out, ∀ y ∈ A.take na, kle y x
 lb : ∀ x ∈ out, ∀ y ∈ B.take nb, kle y x
theorem MH.swap {A B out : List Keyed} {na nb : Nat} (m : MH A B out na nb) : MH B A out nb na :=
 ⟨m.perm.trans List.perm_append_comm, m.srt, m.lb, m.la⟩
theorem MH.more {A B out : List Keyed} {na nb : Nat} (hA : A.Pairwise kle) (m : MH A B out na nb) {k : Nat} (hk : k ≤ na) (hn : na ≤ A.length) (hx : ∀ x ∈ (A.take na).drop k, ∀ y ∈ B.take nb, kle y x) :
    MH A B (out ++ ((A.take na).drop k).reverse) k nb := by
  have hd : (A.take na).Pairwise kle := hA.sublist (List.take_sublist _ _)
  have hs : ((A.take na).take k ++ (A.take na).drop k).Pairwise kle := by rw [List.take_append_drop]; exact hd
  obtain ⟨p1, p2, p3⟩ := List.pairwise_append.mp hs
  rw [List.take_take, Nat.min_eq_left hk] at p3
  have ed : A.drop k = (A.take na).drop k ++ A.drop na := by
    conv => lhs; rw [← List.take_append_drop na A]
    rw [List.drop_append_of_le_length (by rw [List.length_take]; omega)]
  refine ⟨?_, List.pairwise_append.mpr ⟨m.srt, List.pairwise_reverse.mpr p2, fun x h y g => m.la x h y (List.mem_of_mem_drop (List.mem_reverse.mp g))⟩, fun x h y g => ?_, fun x h y g => ?_⟩
  · rw [ed]
    refine (List.Perm.append m.perm (List.reverse_perm _)).trans ?_
    refine List.perm_append_comm.trans ?_
    rw [List.append_assoc]
  · rcases List.mem_append.mp h with z | z
    · exact m.la x z y (by have : A.take k = (A.take na).take k := by rw [List.take_take, Nat.min_eq_left hk]
                           rw [this] at g; exact List.mem_of_mem_take g)
    · exact p3 y g x (List.mem_reverse.mp z)
  · rcases List.mem_append.mp h with z | z
    · exact m.lb x z y g
    · exact hx x (List.mem_reverse.mp z) y g
theorem MH.fin {A B out : List Keyed} (m : MH A B out 0 0) : SP A B out.reverse :=
 ⟨(List.reverse_perm _).trans m.perm, List.pairwise_reverse.mpr m.srt⟩
theorem MH.allA {A B out : List Keyed} {na : Nat} (hA : A.Pairwise kle) (m : MH A B out na 0) (hn : na ≤ A.length) : SP A B (A.take na ++ out.reverse) := by
 have h := (m.more hA (Nat.zero_le _) hn (fun x _ y g => by rw [List.take_zero] at g; cases g)).fin
 rwa [List.drop_zero, List.reverse_append, List.reverse_reverse] at h
theorem MH.allB {A B out : List Keyed} {nb : Nat} (hB : B.Pairwise kle) (m : MH A B out 0 nb) (hn : nb ≤ B.length) : SP A B (B.take nb ++ out.reverse) := by
 have h := m.swap.allA hB hn
 exact ⟨h.1.trans List.perm_append_comm, h.2⟩
theorem MH.first {A B out : List Keyed} {na nb : Nat} (hA : A.Pairwise kle) (hB : B.Pairwise kle) (m : MH A B out na nb) (ha : na ≤ A.length) (hb : nb ≤ B.length) (hx : ∀ x ∈ B.take nb, ∀ y ∈ A.take na, kle x y) :
  SP A B (B.take nb ++ A.take na ++ out.reverse) := by
 have h := (m.more hA (Nat.zero_le _) ha (fun x g y g2 => hx y g2 x (by rwa [List.drop_zero] at g))).allB hB hb
 rwa [List.drop_zero, List.reverse_append, List.reverse_reverse, ← List.append_assoc] at h
theorem zpu {a : Array Keyed} {k : Nat} : (a.extract 0 k).toList = a.toList.take k := by
 rw [Array.toList_extract, List.extract_eq_drop_take, List.drop_zero, Nat.sub_zero]
theorem zk1 {a : Array Keyed} {i k : Nat} : (a.extract i k).toList = (a.toList.take k).drop i := by
 rw [Array.toList_extract, List.extract_eq_drop_take, List.drop_take]
theorem zkj {a : Array Keyed} {n : Nat} {p : Keyed} (h : a[n - 1]? = some p) (hn : 0 < n) (hs : n ≤ a.size) : (a.toList.take n).drop (n - 1) = [p] := by
 have := zd6 h
 rw [List.drop_take, show n - (n - 1) = 1 by omega]
 exact this
theorem MH.one {a b out : Array Keyed} {na nb : Nat} {p : Keyed} (hA : a.toList.Pairwise kle) (m : MH a.toList b.toList out.toList na nb) (hp : a[na - 1]? = some p) (hn : 0 < na) (hs : na ≤ a.size) (hx : ∀ y ∈ b.toList.take nb, kle y p) :
  MH a.toList b.toList (out.push p).toList (na - 1) nb := by
 have := m.more hA (k := na - 1) (by omega) (by rw [Array.length_toList]; exact hs) (by rw [zkj hp hn hs]; intro x hx' y hy; rw [List.mem_singleton.mp hx']; exact hx y hy)
 rw [zkj hp hn hs] at this
 rwa [Array.toList_push]
theorem MH.blk {a b out : Array Keyed} {na nb k : Nat} (hA : a.toList.Pairwise kle) (m : MH a.toList b.toList out.toList na nb) (hk : k ≤ na) (hs : na ≤ a.size) (hx : ∀ x ∈ (a.toList.take na).drop k, ∀ y ∈ b.toList.take nb, kle y x) :
  MH a.toList b.toList (out ++ (a.extract k na).reverse).toList k nb := by
 rw [Array.toList_append, Array.toList_reverse, zk1]
 exact m.more hA hk (by rw [Array.length_toList]; exact hs) hx
theorem MH.done0 {a b out : Array Keyed} {na nb : Nat} (hA : a.toList.Pairwise kle) (m : MH a.toList b.toList out.toList na nb) (e : nb = 0) (hs : na ≤ a.size) :
  SP a.toList b.toList (a.extract 0 na ++ b.extract 0 nb ++ out.reverse).toList := by
 subst e
 rw [Array.toList_append, Array.toList_append, Array.toList_reverse, zpu, zpu, List.take_zero, List.append_nil]
 exact m.allA hA (by rw [Array.length_toList]; exact hs)
theorem MH.doneZ {a b out : Array Keyed} {na nb : Nat} (hB : b.toList.Pairwise kle) (m : MH a.toList b.toList out.toList na nb) (e : na = 0) (hs : nb ≤ b.size) :
  SP a.toList b.toList (a.extract 0 na ++ b.extract 0 nb ++ out.reverse).toList := by
 subst e
 rw [Array.toList_append, Array.toList_append, Array.toList_reverse, zpu, zpu, List.take_zero, List.nil_append]
 exact m.allB hB (by rw [Array.length_toList]; exact hs)
theorem MH.firstB {a b out : Array Keyed} {na nb : Nat} (hA : a.toList.Pairwise kle) (hB : b.toList.Pairwise kle) (m : MH a.toList b.toList out.toList na nb) (e : nb = 1) (ha : na ≤ a.size) (hb : 0 < b.size)
  (hx : ∀ x ∈ b.toList.take 1, ∀ y ∈ a.toList, kle x y) : SP a.toList b.toList (b.extract 0 nb ++ a.extract 0 na ++ out.reverse).toList := by
 subst e
 rw [Array.toList_append, Array.toList_append, Array.toList_reverse, zpu, zpu]
 exact m.first hA hB (by rw [Array.length_toList]; exact ha) (by rw [Array.length_toList]; exact hb) fun x h y g => hx x h y (List.mem_of_mem_take g)
theorem zeh {a : Array Keyed} {n : Nat} {x : Keyed} (h : x ∈ a.toList.take n) : ∃ j, j < n ∧ j < a.size ∧ a[j]? = some x := by
 obtain ⟨j, h1, h2, h3⟩ := zdm (i := 0) (k := n) (by rw [List.drop_zero]; exact h)
 rw [Nat.zero_add] at h2 h3
 exact ⟨j, h1, h2, h3⟩
theorem zel {a : Array Keyed} {n k : Nat} {x : Keyed} (h : x ∈ (a.toList.take n).drop k) : ∃ j, k ≤ j ∧ j < n ∧ j < a.size ∧ a[j]? = some x := by
 rw [List.drop_take] at h
 obtain ⟨j, h1, h2, h3⟩ := zdm h
 exact ⟨k + j, by omega, by omega, h2, h3⟩
theorem zlb {b : Array Keyed} {n : Nat} {p q : Keyed} (hB : b.toList.Pairwise kle) (hq : b[n - 1]? = some q) (h : kle q p) (hn : n ≤ b.size) (h0 : 0 < n) : ∀ y ∈ b.toList.take n, kle y p := by
 intro y hy
 obtain ⟨j, h1, h2, h3⟩ := zeh hy
 have := zqr hB (i := j) (j := n - 1) (by omega) (by omega)
 rw [zce h3, zce hq] at this
 exact zj8 this h
structure MW (a b out : Array Keyed) (na nb : Nat) : Prop where
 m : MH a.toList b.toList out.toList na nb
 a1 : 1 ≤ na
 a2 : na ≤ a.size
 b1 : 2 ≤ nb
 b2 : nb ≤ b.size
section
variable {prog : Program} {w : World} {A : Around} {E : Value → Shared → Prop} {s : Shared}
theorem zmz {st : SortSt} {a b : Array Keyed} {Q : Array Keyed → SortSt → Prop} (hk : kindOf st = oneType') (iA : ∀ x ∈ a.toList, zf4 x) (iB : ∀ x ∈ b.toList, zf4 x)
  (hA : a.toList.Pairwise kle) (hB : b.toList.Pairwise kle) (na0 : 0 < a.size) (nb0 : 0 < b.size)
  (hb0 : ∀ x ∈ b.toList.take 1, ∀ y ∈ a.toList, kle x y) (hla : ∀ x ∈ b.toList, ∀ y ∈ a.toList.drop (a.size - 1), kle x y)
  (h : ∀ r g, SP a.toList b.toList r.toList → Q r (zd4 st g)) :
  wpS (model prog w) A E s (zq6 a b) Q st := by
 have pA : ∀ {i}, i < a.size → ∃ p, a[i]? = some p ∧ zf4 p := fun hi => ⟨_, Array.getElem?_eq_getElem hi, iA _ (Array.getElem_mem_toList hi)⟩
 have pB : ∀ {i}, i < b.size → ∃ p, b[i]? = some p ∧ zf4 p := fun hi => ⟨_, Array.getElem?_eq_getElem hi, iB _ (Array.getElem_mem_toList hi)⟩
 obtain ⟨z, hz, iz⟩ := pA (show a.size - 1 < a.size by omega)
 refine wpS_bind (wpS_lift (wpAny_rule ⟨rfl, ?_⟩))
 refine wpS_bind (za9 hz ?_)
 have m0 : MH a.toList b.toList (#[z] : Array Keyed).toList (a.size - 1) b.size := by
  have e : MH a.toList b.toList (#[] : Array Keyed).toList a.size b.size := ⟨by rw [List.drop_of_length_le (Nat.le_of_eq Array.length_toList), List.drop_of_length_le (Nat.le_of_eq Array.length_toList)]; exact List.Perm.refl _, List.Pairwise.nil, nofun, nofun⟩
  exact e.one hA hz na0 (Nat.le_refl _) fun y hy => hla y (List.mem_of_mem_take hy) z (List.mem_of_mem_take (i := 1) (by rw [zd6 hz]; exact List.mem_singleton.mpr rfl))
 refine zao (fun c1 => wpS_pure (h _ (gallopOf st) (m0.doneZ hB (beq_iff_eq.mp c1) (Nat.le_refl _)))) (fun c1 => ?_)
 refine zao (fun c2 => wpS_pure (h _ (gallopOf st) (m0.firstB hA hB (beq_iff_eq.mp c2) (by omega) nb0 hb0))) (fun c2 => ?_)
 replace c1 : a.size - 1 ≠ 0 := fun z => c1 (beq_iff_eq.mpr z)
 replace c2 : b.size ≠ 1 := fun z => c2 (beq_iff_eq.mpr z)
 refine wpS_bind (wpS_get ?_)
 refine wpS_bind (wpS_mono (wpS_forRange
  (I := fun x c st' => (∃ g, zd4 st g = st') ∧ ∃ na nb out mg, c = (none, na, nb, out, mg) ∧ MW a b out na nb ∧ x + 1 + na + nb ≤ a.size + b.size)
  (Q := fun c st' => (∃ g, zd4 st g = st') ∧ ∃ r rest, c = (some r, rest) ∧ SP a.toList b.toList r.toList)
  ?_ ?_ ⟨⟨gallopOf st, rfl⟩, _, _, _, _, rfl, ⟨m0, by omega, by omega, by omega, by omega⟩, by omega⟩) ?_)
 ·rintro x0 c st' _ hx0 ⟨⟨g, rfl⟩, na, nb, out, mg, rfl, v, hx⟩
  refine wpS_bind (wpS_mono (wpS_forRange
   (I := fun x c st' => zd4 st g = st' ∧ ∃ na nb out ac bc, c = (none, na, nb, out, ac, bc) ∧ MW a b out na nb ∧ x0 + 1 + x + na + nb ≤ a.size + b.size)
   (Q := fun c st' => zd4 st g = st' ∧ ((∃ r rest, c = (some r, rest) ∧ SP a.toList b.toList r.toList) ∨ ∃ na nb out ac bc, c = (none, na, nb, out, ac, bc) ∧ MW a b out na nb ∧ x0 + 2 + na + nb ≤ a.size + b.size))
   ?_ ?_ ⟨rfl, na, nb, out, 0, 0, rfl, v, by omega⟩) ?_)
  ·rintro x c st' _ hx1 ⟨rfl, na, nb, out, ac, bc, rfl, v, hx⟩
   obtain ⟨vm, a1, a2, b1, b2⟩ := v
   obtain ⟨p, hp, ip⟩ := pA (show na - 1 < a.size by omega)
   obtain ⟨q, hq, iq⟩ := pB (show nb - 1 < b.size by omega)
   refine wpS_bind (za9 hq (wpS_bind (za9 hp (wpS_bind (zjl hk iq ip ?_)))))
   dsimp only
   refine zao (fun c3 => ?_) (fun c3 => ?_)
   ·have c3' : kle q p := Int.le_of_lt (of_decide_eq_true c3)
    have m2 := vm.one hA hp a1 a2 (zlb hB hq c3' b2 (by omega))
    refine wpS_bind (za9 hp ?_)
    refine zao (fun c4 => wpS_pure ⟨rfl, .inl ⟨_, _, rfl, m2.doneZ hB (beq_iff_eq.mp c4) b2⟩⟩) (fun c4 => ?_)
    have c4' : na - 1 ≠ 0 := fun z => c4 (beq_iff_eq.mpr z)
    exact zao (fun c5 => wpS_pure ⟨rfl, .inr ⟨_, _, _, _, _, rfl, ⟨m2, by omega, by omega, b1, b2⟩, by omega⟩⟩) (fun c5 => wpS_pure ⟨rfl, _, _, _, _, _, rfl, ⟨m2, by omega, by omega, b1, b2⟩, by omega⟩)
   ·have c3' : kle p q := Int.not_lt.mp (fun z => c3 (decide_eq_true z))
    have m2 := (vm.swap.one hB hq (by omega) b2 (zlb hA hp c3' a2 a1)).swap
    refine wpS_bind (za9 hq ?_)
    refine zao (fun c4 => wpS_pure ⟨rfl, .inl ⟨_, _, rfl, m2.firstB hA hB (beq_iff_eq.mp c4) a2 nb0 hb0⟩⟩) (fun c4 => ?_)
    have c4' : nb - 1 ≠ 1 := fun z => c4 (beq_iff_eq.mpr z)
    exact zao (fun c5 => wpS_pure ⟨rfl, .inr ⟨_, _, _, _, _, rfl, ⟨m2, a1, a2, by omega, by omega⟩, by omega⟩⟩) (fun c5 => wpS_pure ⟨rfl, _, _, _, _, _, rfl, ⟨m2, a1, a2, by omega, by omega⟩, by omega⟩)
  ·rintro c st' ⟨rfl, na, nb, out, ac, bc, rfl, ⟨vm, a1, a2, b1, b2⟩, hx⟩
   omega
  ·rintro c st' ⟨rfl, ⟨r, rest, rfl, hr⟩ | ⟨na, nb, out, ac, bc, rfl, v, hx⟩⟩
   ·exact wpS_pure ⟨⟨g, rfl⟩, r, _, rfl, hr⟩
   refine wpS_bind (wpS_lift (wpAny_rule ⟨rfl, ?_⟩))
   refine wpS_bind (wpS_mono (wpS_forRange
    (I := fun x c st' => (∃ g, zd4 st g = st') ∧ ∃ na nb out mg ac bc, c = (none, na, nb, out, mg, ac, bc) ∧ MW a b out na nb ∧ x0 + 2 + x + na + nb ≤ a.size + b.size)
    (Q := fun c st' => (∃ g, zd4 st g = st') ∧ ((∃ r rest, c = (some r, rest) ∧ SP a.toList b.toList r.toList) ∨ ∃ na nb out mg ac bc, c = (none, na, nb, out, mg, ac, bc) ∧ MW a b out na nb ∧ x0 + 2 + na + nb ≤ a.size + b.size))
    ?_ ?_ ⟨⟨g, rfl⟩, na, nb, out, _, ac, bc, rfl, v, by omega⟩) ?_)
   ·rintro x c st' _ hx1 ⟨⟨g, rfl⟩, na, nb, out, mg, ac, bc, rfl, ⟨vm, a1, a2, b1, b2⟩, hx⟩
    obtain ⟨q, hq, iq⟩ := pB (show nb - 1 < b.size by omega)
    dsimp (config := { zeta := false, zetaHave := false, zetaUnused := false }) only
    extract_lets _ _ _ _ _ _ _ _ _ _ _ _ jp
    suffices hj : ∀ mg', wpS (model prog w) A E s (jp () mg') _ (zd4 st g) from zao (fun _ => hj _) (fun _ => hj _)
    intro mg'
    refine wpS_bind (wpS_modify ?_)
    refine wpS_bind (za9 hq ?_)
    refine wpS_bind (zcu (left := false) (arr := a) (base := 0) (n := na) (hint := na - 1) hk iq (fun i hi => by rw [Nat.zero_add]; exact pA (i := i) (by omega)) (fun i j hij hj => by rw [Nat.zero_add, Nat.zero_add]; exact zqr hA hij (by omega)) (by omega) fun k k1 k2 k3 => ?_)
    have le1 : ∀ x ∈ (a.toList.take na).drop k, ∀ y ∈ b.toList.take nb, kle y x := fun x hx y hy => by
     obtain ⟨j, h1, h2, h3, h4⟩ := zel hx
     exact zlb hB hq (zhm (k3 j h1 h2) (by rw [Nat.zero_add]; exact h4)) b2 (by omega) y hy
    have le2 : ∀ y ∈ a.toList.take k, kle y q := fun y hy => by
     obtain ⟨j, h1, h2, h3⟩ := zeh hy
     exact zi3 (k2 j h1) (by rw [Nat.zero_add]; exact h3)
    dsimp (config := { zeta := false, zetaHave := false, zetaUnused := false }) only
    extract_lets _ _ jp2
    suffices hj2 : ∀ (n2 : Nat) (o2 : Array Keyed), MH a.toList b.toList o2.toList n2 nb → 1 ≤ n2 → n2 ≤ na → (∀ y ∈ a.toList.take n2, kle y q) → wpS (model prog w) A E s (jp2 () n2 o2) _ (zd4 st mg') by
     refine zao (fun c3 => ?_) (fun c3 => hj2 na out vm a1 (Nat.le_refl _) (by have c3' : ¬ (na - k > 0) := c3; rw [show na = k by omega]; exact le2))
     have m2 := vm.blk hA k1 a2 le1
     refine zao (fun c4 => wpS_pure ⟨⟨mg', rfl⟩, .inl ⟨_, _, rfl, m2.doneZ hB (beq_iff_eq.mp c4) b2⟩⟩) (fun c4 => ?_)
     have c4' : k ≠ 0 := fun z => c4 (beq_iff_eq.mpr z)
     exact hj2 k _ m2 (by omega) k1 le2
    intro n2 o2 m2 hn2 hle qle
    obtain ⟨p, hp, ip⟩ := pA (show n2 - 1 < a.size by omega)
    refine wpS_bind (za9 hq ?_)
    have m3 := (m2.swap.one hB hq (by omega) b2 qle).swap
    refine zao (fun c4 => wpS_pure ⟨⟨mg', rfl⟩, .inl ⟨_, _, rfl, m3.firstB hA hB (beq_iff_eq.mp c4) (by omega) nb0 hb0⟩⟩) (fun c4 => ?_)
    have c4' : nb - 1 ≠ 1 := fun z => c4 (beq_iff_eq.mpr z)
    refine wpS_bind (za9 hp ?_)
    refine wpS_bind (zcu (left := true) (arr := b) (base := 0) (n := nb - 1) (hint := nb - 1 - 1) hk ip (fun i hi => by rw [Nat.zero_add]; exact pB (i := i) (by omega)) (fun i j hij hj => by rw [Nat.zero_add, Nat.zero_add]; exact zqr hB hij (by omega)) (by omega) fun k' l1 l2 l3 => ?_)
    have le3 : ∀ x ∈ (b.toList.take (nb - 1)).drop k', ∀ y ∈ a.toList.take n2, kle y x := fun x hx y hy => by
     obtain ⟨j, h1, h2, h3, h4⟩ := zel hx
     exact zlb hA hp (zi7 (l3 j h1 h2) (by rw [Nat.zero_add]; exact h4)) (by omega) hn2 y hy
    have le4 : ∀ y ∈ b.toList.take k', kle y p := fun y hy => by
     obtain ⟨j, h1, h2, h3⟩ := zeh hy
     exact zky (l2 j h1) (by rw [Nat.zero_add]; exact h3)
    dsimp (config := { zeta := false, zetaHave := false, zetaUnused := false }) only
    extract_lets _ _ _ jp3
    suffices hj3 : ∀ (n3 : Nat) (o3 : Array Keyed), MH a.toList b.toList o3.toList n2 n3 → 2 ≤ n3 → n3 ≤ nb - 1 → (∀ y ∈ b.toList.take n3, kle y p) → wpS (model prog w) A E s (jp3 () n3 o3) _ (zd4 st mg') by
     refine zao (fun c3 => ?_) (fun c3 => hj3 (nb - 1) _ m3 (by omega) (Nat.le_refl _) (by have c3' : ¬ (nb - 1 - k' > 0) := c3; rw [show nb - 1 = k' by omega]; exact le4))
     have m4 := (m3.swap.blk hB l1 (by omega) le3).swap
     refine zao (fun c5 => wpS_pure ⟨⟨mg', rfl⟩, .inl ⟨_, _, rfl, m4.firstB hA hB (beq_iff_eq.mp c5) (by omega) nb0 hb0⟩⟩) (fun c5 => ?_)
     refine zao (fun c6 => wpS_pure ⟨⟨mg', rfl⟩, .inl ⟨_, _, rfl, m4.done0 hA (beq_iff_eq.mp c6) (by omega)⟩⟩) (fun c6 => ?_)
     have c5' : k' ≠ 1 := fun z => c5 (beq_iff_eq.mpr z)
     have c6' : k' ≠ 0 := fun z => c6 (beq_iff_eq.mpr z)
     exact hj3 k' _ m4 (by omega) l1 le4
    intro n3 o3 m4 hn3 hle3 ple
    refine wpS_bind (za9 hp ?_)
    have m5 := m4.one hA hp hn2 (by omega) ple
    refine zao (fun c5 => wpS_pure ⟨⟨mg', rfl⟩, .inl ⟨_, _, rfl, m5.doneZ hB (beq_iff_eq.mp c5) (by omega)⟩⟩) (fun c5 => ?_)
    have c5' : n2 - 1 ≠ 0 := fun z => c5 (beq_iff_eq.mpr z)
    exact zao (fun c6 => wpS_pure ⟨⟨mg', rfl⟩, .inr ⟨_, _, _, _, _, _, rfl, ⟨m5, by omega, by omega, hn3, by omega⟩, by omega⟩⟩) (fun c6 => wpS_pure ⟨⟨mg', rfl⟩, _, _, _, _, _, _, rfl, ⟨m5, by omega, by omega, hn3, by omega⟩, by omega⟩)
   ·rintro c st' ⟨⟨g, rfl⟩, na, nb, out, mg, ac, bc, rfl, ⟨vm, a1, a2, b1, b2⟩, hx⟩
    omega
   ·rintro c st' ⟨⟨g, rfl⟩, ⟨r, rest, rfl, hr⟩ | ⟨na, nb, out, mg, ac, bc, rfl, v, hx⟩⟩
    ·exact wpS_pure ⟨⟨g, rfl⟩, r, _, rfl, hr⟩
    ·exact wpS_bind (wpS_modify (wpS_pure ⟨⟨_, rfl⟩, _, _, _, _, rfl, v, by omega⟩))
 ·rintro c st' ⟨⟨g, rfl⟩, na, nb, out, mg, rfl, ⟨vm, a1, a2, b1, b2⟩, hx⟩
  omega
 ·rintro c st' ⟨⟨g, rfl⟩, r, rest, rfl, hr⟩
  exact wpS_pure (h r g hr)
end
end Srt
set_option maxHeartbeats 4000000
namespace Srt
open PySem PyProof PyProof.Rows
def AllI (xs : Array Keyed) : Prop := ∀ p ∈ xs.toList, zf4 p
theorem AllI.perm {xs ys : Array Keyed} (h : AllI xs) (hp : ys.Perm xs) : AllI ys := fun p hm => h p ((Array.perm_iff_toList_perm.mp hp).mem_iff.mp hm)
def za5 (xs : Array Keyed) (i j : Nat) : Prop := ∀ p q, i ≤ p → p ≤ q → q < j → K xs p ≤ K xs q
def ze9 (xs : Array Keyed) (at' n : Nat) (l : List Keyed) : Array Keyed := (l.zipIdx n).foldl (fun a (p : Keyed × Nat) => a.setIfInBounds (at' + p.2) p.1) xs
theorem zge : ∀ (l : List Keyed) (xs : Array Keyed) (at' n : Nat), at' + n + l.length ≤ xs.size → ∀ k : Nat,
  (ze9 xs at' n l)[k]? = if at' + n ≤ k ∧ k < at' + n + l.length then l[k - (at' + n)]? else xs[k]?
 | [], xs, at', n, _, k => by
  show xs[k]? = _
  rw [if_neg (by rw [List.length_nil]; omega)]
 | p :: l, xs, at', n, h, k => by
  rw [List.length_cons] at h ⊢
  show (ze9 (xs.setIfInBounds (at' + n) p) at' (n + 1) l)[k]? = _
  rw [zge l _ at' (n + 1) (by rw [Array.size_setIfInBounds]; omega) k]
  by_cases e : k = at' + n
  ·subst e
   rw [if_neg (by omega), if_pos (by omega), Nat.sub_self, List.getElem?_cons_zero, Array.getElem?_setIfInBounds_self_of_lt (by omega)]
  ·by_cases g : at' + n ≤ k ∧ k < at' + n + (l.length + 1)
   ·rw [if_pos g, if_pos (by omega), show k - (at' + n) = (k - (at' + (n + 1))) + 1 by omega, List.getElem?_cons_succ]
   ·rw [if_neg g, if_neg (by omega), Array.getElem?_setIfInBounds_ne (by omega)]
theorem zmd {xs : Array Keyed} {at' : Nat} {l : List Keyed} (h : at' + l.length ≤ xs.size) :
  (ze9 xs at' 0 l).toList = xs.toList.take at' ++ (l ++ xs.toList.drop (at' + l.length)) := by
 have hlt : (xs.toList.take at').length = at' := by rw [List.length_take, Array.length_toList]; omega
 apply List.ext_getElem?
 intro k
 have e := zge l xs at' 0 (by omega) k
 rw [Nat.add_zero] at e
 rw [Array.getElem?_toList, e]
 by_cases h1 : k < at'
 ·rw [if_neg (by omega), List.getElem?_append_left (by omega), List.getElem?_take, if_pos h1, Array.getElem?_toList]
 ·rw [List.getElem?_append_right (by omega), hlt]
  by_cases h2 : k < at' + l.length
  ·rw [if_pos (by omega), List.getElem?_append_left (by omega)]
  ·rw [if_neg (by omega), List.getElem?_append_right (by omega), List.getElem?_drop, Array.getElem?_toList, show at' + l.length + (k - at' - l.length) = k by omega]
theorem zrw {xs : Array Keyed} {i j : Nat} (h : i ≤ j) : xs.toList = xs.toList.take i ++ ((xs.extract i j).toList ++ xs.toList.drop j) := by
 rw [zk1, ← List.append_assoc]
 have : xs.toList.take i ++ (xs.toList.take j).drop i = xs.toList.take j := by
  conv => rhs; rw [← List.take_append_drop i (xs.toList.take j)]
  rw [List.take_take, Nat.min_eq_left h]
 rw [this, List.take_append_drop]
theorem ztw {xs : Array Keyed} {i j : Nat} (h : za5 xs i j) (hj : j ≤ xs.size) : (xs.extract i j).toList.Pairwise kle := by
 rw [List.pairwise_iff_getElem]
 intro p q hp hq hpq
 rw [zk1, List.length_drop, List.length_take, Array.length_toList] at hp hq
 simp only [zk1, List.getElem_drop, List.getElem_take, Array.getElem_toList]
 have := h (i + p) (i + q) (by omega) (by omega) (by omega)
 rw [zce (Array.getElem?_eq_getElem (by omega)), zce (Array.getElem?_eq_getElem (by omega))] at this
 exact this
section
variable {prog : Program} {w : World} {A : Around} {E : Value → Shared → Prop} {s : Shared}
theorem zl4 {st : SortSt} {i sa na sb nb pw pw2 : Nat} {Q : Bool → SortSt → Prop} (hk : kindOf st = oneType') (hf : failedOf st = none) (hI : AllI (arrOf st))
  (h1 : (pendingOf st)[i]? = some (sa, na, pw)) (h2 : (pendingOf st)[i + 1]? = some (sb, nb, pw2)) (hsb : sb = sa + na) (hna : 1 ≤ na) (hnb : 1 ≤ nb) (hsz : sb + nb ≤ (arrOf st).size)
  (s1 : za5 (arrOf st) sa sb) (s2 : za5 (arrOf st) sb (sb + nb))
  (h : ∀ xs g, xs.Perm (arrOf st) → za5 xs sa (sb + nb) → (∀ k, k < sa ∨ sb + nb ≤ k → K xs k = K (arrOf st) k) →
   Q true (SortSt.mk' oneType' xs (((pendingOf st).setIfInBounds i (sa, na + nb, pw)).eraseIdxIfInBounds (i + 1)) g none)) :
  wpS (model prog w) A E s (mergeAt' i) Q st := by
 obtain ⟨kd, xs, pd, g0, fl⟩ := st
 cases hk
 cases hf
 refine wpS_bind (wpS_get ?_)
 have h1' : pd[i]? = some (sa, na, pw) := h1
 have h2' : pd[i + 1]? = some (sb, nb, pw2) := h2
 replace hI : AllI xs := hI
 replace hsz : sb + nb ≤ xs.size := hsz
 replace s1 : za5 xs sa sb := s1
 replace s2 : za5 xs sb (sb + nb) := s2
 replace h : ∀ ys g, ys.Perm xs → za5 ys sa (sb + nb) → (∀ k, k < sa ∨ sb + nb ≤ k → K ys k = K xs k) →
   Q true (SortSt.mk' oneType' ys ((pd.setIfInBounds i (sa, na + nb, pw)).eraseIdxIfInBounds (i + 1)) g none) := h
 dsimp only
 rw [h1', h2']
 dsimp only
 have pX : ∀ {i}, i < xs.size → ∃ p, xs[i]? = some p ∧ zf4 p := fun hi => ⟨_, Array.getElem?_eq_getElem hi, hI _ (Array.getElem_mem_toList hi)⟩
 refine wpS_bind (wpS_modify ?_)
 obtain ⟨q, hq, iq⟩ := pX (show sb < xs.size by omega)
 refine wpS_bind (za9 hq ?_)
 refine wpS_bind (zcu (left := false) (arr := xs) (base := sa) (n := na) (hint := 0) rfl iq (fun i hi => pX (i := sa + i) (by omega)) (fun i j hij hj => s1 _ _ (by omega) (by omega) (by omega)) (by omega) fun k k1 k2 k3 => ?_)
 have f1 : ∀ p, sa ≤ p → p < sa + k → K xs p ≤ K xs sb := fun p p1 p2 => by
  obtain ⟨u, hu, _⟩ := pX (show p < xs.size by omega)
  rw [zce hu, zce hq]
  exact zi3 (k2 (p - sa) (by omega)) (by rw [show sa + (p - sa) = p by omega]; exact hu)
 have f2 : ∀ p, sa + k ≤ p → p < sb → K xs sb ≤ K xs p := fun p p1 p2 => by
  obtain ⟨u, hu, _⟩ := pX (show p < xs.size by omega)
  rw [zce hu, zce hq]
  exact zhm (k3 (p - sa) (by omega) (by omega)) (by rw [show sa + (p - sa) = p by omega]; exact hu)
 refine zao (fun c1 => wpS_pure ?_) (fun c1 => ?_)
 ·have c1' : na - k = 0 := beq_iff_eq.mp c1
  refine h xs g0 (Array.Perm.refl _) (fun p q' p1 p2 p3 => ?_) (fun _ _ => rfl)
  by_cases hp : q' < sb
  ·exact s1 _ _ p1 p2 hp
  ·by_cases hp2 : p < sb
   ·exact Int.le_trans (f1 p p1 (by omega)) (s2 _ _ (Nat.le_refl _) (by omega) p3)
   ·exact s2 _ _ (by omega) p2 p3
 have c1' : na - k ≠ 0 := fun z => c1 (beq_iff_eq.mpr z)
 obtain ⟨u, hu, iu⟩ := pX (show sb - 1 < xs.size by omega)
 have eu : sa + k + (na - k) - 1 = sb - 1 := by omega
 refine wpS_bind (za9 (p := u) (by rw [eu]; exact hu) ?_)
 refine wpS_bind (zcu (left := true) (arr := xs) (base := sb) (n := nb) (hint := nb - 1) rfl iu (fun i hi => pX (i := sb + i) (by omega)) (fun i j hij hj => s2 _ _ (by omega) (by omega) (by omega)) (by omega) fun n' n1 n2 n3 => ?_)
 have f3 : ∀ p, sb ≤ p → p < sb + n' → K xs p ≤ K xs (sb - 1) := fun p p1 p2 => by
  obtain ⟨v, hv, _⟩ := pX (show p < xs.size by omega)
  rw [zce hv, zce hu]
  exact zky (n2 (p - sb) (by omega)) (by rw [show sb + (p - sb) = p by omega]; exact hv)
 have f4 : ∀ p, sb + n' ≤ p → p < sb + nb → K xs (sb - 1) ≤ K xs p := fun p p1 p2 => by
  obtain ⟨v, hv, _⟩ := pX (show p < xs.size by omega)
  rw [zce hv, zce hu]
  exact zi7 (n3 (p - sb) (by omega) (by omega)) (by rw [show sb + (p - sb) = p by omega]; exact hv)
 refine zao (fun c2 => wpS_pure ?_) (fun c2 => ?_)
 ·have c2' : n' = 0 := beq_iff_eq.mp c2
  refine h xs g0 (Array.Perm.refl _) (fun p q' p1 p2 p3 => ?_) (fun _ _ => rfl)
  by_cases hp : q' < sb
  ·exact s1 _ _ p1 p2 hp
  ·by_cases hp2 : p < sb
   ·exact Int.le_trans (s1 p (sb - 1) p1 (by omega) (by omega)) (f4 _ (by omega) p3)
   ·exact s2 _ _ (by omega) p2 p3
 have c2' : n' ≠ 0 := fun z => c2 (beq_iff_eq.mpr z)
 have zX : (xs.extract (sa + k) sb).size = sb - (sa + k) := by rw [Array.size_extract]; omega
 have zY : (xs.extract sb (sb + n')).size = n' := by rw [Array.size_extract]; omega
 have gX : ∀ x ∈ (xs.extract (sa + k) sb).toList, ∃ j, sa + k ≤ j ∧ j < sb ∧ xs[j]? = some x := fun x hx => by
  rw [zk1] at hx
  obtain ⟨j, j1, j2, j3, j4⟩ := zel hx
  exact ⟨j, j1, j2, j4⟩
 have gY : ∀ x ∈ (xs.extract sb (sb + n')).toList, ∃ j, sb ≤ j ∧ j < sb + n' ∧ xs[j]? = some x := fun x hx => by
  rw [zk1] at hx
  obtain ⟨j, j1, j2, j3, j4⟩ := zel hx
  exact ⟨j, j1, j2, j4⟩
 have iX : ∀ x ∈ (xs.extract (sa + k) sb).toList, zf4 x := fun x hx => by
  obtain ⟨j, _, _, hj⟩ := gX x hx
  exact hI x (zqm hj)
 have iY : ∀ x ∈ (xs.extract sb (sb + n')).toList, zf4 x := fun x hx => by
  obtain ⟨j, _, _, hj⟩ := gY x hx
  exact hI x (zqm hj)
 have pwX : (xs.extract (sa + k) sb).toList.Pairwise kle := ztw (fun p q p1 p2 p3 => s1 p q (by omega) p2 p3) (by omega)
 have pwY : (xs.extract sb (sb + n')).toList.Pairwise kle := ztw (fun p q p1 p2 p3 => s2 p q p1 p2 (by omega)) (by omega)
 have hb0 : ∀ x ∈ (xs.extract sb (sb + n')).toList.take 1, ∀ y ∈ (xs.extract (sa + k) sb).toList, kle x y := fun x hx y hy => by
  have e0 : (xs.extract sb (sb + n'))[0]? = some q := by
   rw [Array.getElem?_extract, if_pos (by omega), Nat.add_zero]; exact hq
  have := zd6 e0
  rw [List.drop_zero] at this
  rw [this] at hx
  rw [List.mem_singleton.mp hx]
  obtain ⟨j, j1, j2, j3⟩ := gX y hy
  have := f2 j j1 j2
  rwa [zce hq, zce j3] at this
 have hla : ∀ x ∈ (xs.extract sb (sb + n')).toList, ∀ y ∈ (xs.extract (sa + k) sb).toList.drop ((xs.extract (sa + k) sb).size - 1), kle x y := fun x hx y hy => by
  have e0 : (xs.extract (sa + k) sb)[(xs.extract (sa + k) sb).size - 1]? = some u := by
   rw [zX, Array.getElem?_extract, if_pos (by omega), show sa + k + (sb - (sa + k) - 1) = sb - 1 by omega]; exact hu
  have hy' : y = u := by
   obtain ⟨j, j1, j2, j3⟩ := zfe hy
   have : j = (xs.extract (sa + k) sb).size - 1 := by omega
   rw [this, e0] at j3
   exact (Option.some.inj j3).symm
  rw [hy']
  obtain ⟨j, j1, j2, j3⟩ := gY x hx
  have := f3 j j1 j2
  rwa [zce hu, zce j3] at this
 have fin : ∀ (r : Array Keyed) (g : Nat), SP (xs.extract (sa + k) sb).toList (xs.extract sb (sb + n')).toList r.toList →
   Q true (SortSt.mk' oneType' (ze9 xs (sa + k) 0 r.toList) ((pd.setIfInBounds i (sa, na + nb, pw)).eraseIdxIfInBounds (i + 1)) g none) := by
  intro r g hr
  have hl : r.toList.length = sb - (sa + k) + n' := by
   rw [hr.1.length_eq, List.length_append, Array.length_toList, Array.length_toList, zX, zY]
  have hget := zge r.toList xs (sa + k) 0 (by omega)
  have hmid : ∀ p, sa + k ≤ p → p < sb + n' → ∃ x, (ze9 xs (sa + k) 0 r.toList)[p]? = some x ∧ r.toList[p - (sa + k)]? = some x ∧ x ∈ r.toList := fun p p1 p2 => by
   have e := hget p
   rw [if_pos (by omega), Nat.add_zero] at e
   have hp : p - (sa + k) < r.toList.length := by omega
   rw [List.getElem?_eq_getElem hp] at e ⊢
   exact ⟨_, e, rfl, List.getElem_mem hp⟩
  have hout : ∀ p, p < sa + k ∨ sb + n' ≤ p → K (ze9 xs (sa + k) 0 r.toList) p = K xs p := fun p hp => by
   have e := hget p
   rw [if_neg (by omega)] at e
   exact K_congr e
  have hbd : ∀ x ∈ r.toList, K xs sb ≤ kn x ∧ kn x ≤ K xs (sb - 1) := fun x hx => by
   rcases List.mem_append.mp (hr.1.mem_iff.mp hx) with z | z
   ·obtain ⟨j, j1, j2, j3⟩ := gX x z
    rw [← zce j3]
    exact ⟨f2 j j1 j2, s1 _ _ (by omega) (by omega) (by omega)⟩
   ·obtain ⟨j, j1, j2, j3⟩ := gY x z
    rw [← zce j3]
    exact ⟨s2 _ _ (Nat.le_refl _) j1 (by omega), f3 j j1 j2⟩
  have hKm : ∀ p, sa + k ≤ p → p < sb + n' → K xs sb ≤ K (ze9 xs (sa + k) 0 r.toList) p ∧ K (ze9 xs (sa + k) 0 r.toList) p ≤ K xs (sb - 1) := fun p p1 p2 => by
   obtain ⟨x, x1, x2, x3⟩ := hmid p p1 p2
   rw [zce x1]
   exact hbd x x3
  refine h _ g ?_ ?_ (fun p hp => hout p (by omega))
  ·refine Array.perm_iff_toList_perm.mpr ?_
   rw [zmd (by omega), hl, show sa + k + (sb - (sa + k) + n') = sb + n' by omega]
   conv => rhs; rw [zrw (xs := xs) (i := sa + k) (j := sb + n') (by omega)]
   refine List.Perm.append_left _ (List.Perm.append_right _ (hr.1.trans ?_))
   rw [zk1, zk1, zk1]
   have e1 : (xs.toList.take (sb + n')).drop (sa + k) = (xs.toList.take sb).drop (sa + k) ++ (xs.toList.take (sb + n')).drop sb := by
    conv => lhs; rw [← List.take_append_drop sb (xs.toList.take (sb + n'))]
    rw [List.take_take, Nat.min_eq_left (by omega), List.drop_append_of_le_length (by rw [List.length_take, Array.length_toList]; omega)]
   rw [e1]
  ·intro p q' p1 p2 p3
   by_cases a1 : q' < sa + k
   ·rw [hout p (.inl (by omega)), hout q' (.inl a1)]
    exact s1 _ _ p1 p2 (by omega)
   ·by_cases a2 : q' < sb + n'
    ·by_cases a3 : p < sa + k
     ·rw [hout p (.inl a3)]
      exact Int.le_trans (f1 p p1 a3) (hKm q' (by omega) a2).1
     ·obtain ⟨x, x1, x2, _⟩ := hmid p (by omega) (by omega)
      obtain ⟨y, y1, y2, _⟩ := hmid q' (by omega) a2
      rw [zce x1, zce y1]
      by_cases a4 : p = q'
      ·subst a4
       rw [x1] at y1
       rw [Option.some.inj y1]
       exact Int.le_refl _
      ·obtain ⟨i1, e1⟩ := List.getElem?_eq_some_iff.mp x2
       obtain ⟨i2, e2⟩ := List.getElem?_eq_some_iff.mp y2
       have := List.pairwise_iff_getElem.mp hr.2 _ _ i1 i2 (by omega)
       rwa [e1, e2] at this
    ·rw [hout q' (.inr (by omega))]
     by_cases a3 : p < sa + k
     ·rw [hout p (.inl a3)]
      exact Int.le_trans (f1 p p1 a3) (s2 _ _ (Nat.le_refl _) (by omega) p3)
     ·by_cases a4 : p < sb + n'
      ·exact Int.le_trans (hKm p (by omega) a4).2 (f4 q' (by omega) p3)
      ·rw [hout p (.inr (by omega))]
       exact s2 _ _ (by omega) p2 p3
 refine zao (fun c3 => ?_) (fun c3 => ?_)
 ·refine wpS_bind (zl5 rfl iX iY pwX pwY (by omega) (by omega) hb0 hla fun r g hr => ?_)
  exact wpS_bind (wpS_modify (wpS_bind (wpS_get (wpS_pure (fin r g hr)))))
 ·refine wpS_bind (zmz rfl iX iY pwX pwY (by omega) (by omega) hb0 hla fun r g hr => ?_)
  exact wpS_bind (wpS_modify (wpS_bind (wpS_get (wpS_pure (fin r g hr)))))
end
end Srt
set_option maxHeartbeats 4000000
namespace Srt
open PySem PyProof PyProof.Rows
theorem zu5 {xs : Array Keyed} {i : Nat} : za5 xs i (i + 1) := fun p q p1 p2 p3 => by
 have : p = q := by omega
 subst this; exact Int.le_refl _
def zmx (xs : Array Keyed) (i j : Nat) : Prop := ∀ p q, i ≤ p → p ≤ q → q < j → K xs q ≤ K xs p
section
variable {prog : Program} {w : World} {A : Around} {E : Value → Shared → Prop} {s : Shared}
theorem zfv {st : SortSt} {xs : Array Keyed} {i j : Nat} {Q : Option Bool → SortSt → Prop} (hk : kindOf st = oneType') (hI : AllI xs) (hi : i < xs.size) (hj : j < xs.size)
  (h : Q (some (decide (K xs i < K xs j))) (setArr st xs)) : wpS (model prog w) A E s (ltAt' i j) Q (setArr st xs) := by
 have e1 := Array.getElem?_eq_getElem hi
 have e2 := Array.getElem?_eq_getElem hj
 rw [ltAt'_eq]
 refine wpS_bind (wpS_get ?_)
 refine wpS_bind (za9 e1 (wpS_bind (za9 e2 (zjl hk (hI _ (Array.getElem_mem_toList hi)) (hI _ (Array.getElem_mem_toList hj)) ?_))))
 rw [zce e1, zce e2] at h
 exact h
theorem zjx {st : SortSt} {xs : Array Keyed} {lo nrem : Nat} {Q : Option Nat → SortSt → Prop} (hk : kindOf st = oneType') (hI : AllI xs) (hn : lo + nrem ≤ xs.size) (h1 : 1 ≤ nrem)
  (h : ∀ m ys, ys.Perm xs → (∀ k, k < lo → K ys k = K xs k) → 1 ≤ m → m ≤ nrem → za5 ys lo (lo + m) → Q (some m) (setArr st ys)) :
  wpS (model prog w) A E s (countRun' lo nrem) Q (setArr st xs) := by
 refine wpS_bind (wpS_mono (wpS_forRange
  (I := fun x c st' => setArr st xs = st' ∧ c = (none, x) ∧ x ≤ nrem ∧ za5 xs lo (lo + x))
  (Q := fun c st' => setArr st xs = st' ∧ ∃ n, c = (none, n) ∧ 1 ≤ n ∧ n ≤ nrem ∧ za5 xs lo (lo + n) ∧ (n = nrem ∨ K xs (lo + n) < K xs (lo + n - 1)))
  ?_ ?_ ⟨rfl, rfl, h1, zu5⟩) ?_)
 ·rintro x c st' hx1 hx2 ⟨rfl, rfl, hx, hs⟩
  dsimp only
  refine wpS_bind (zfv hk hI (by omega) (by omega) ?_)
  dsimp only
  refine zao (fun c1 => wpS_pure ⟨rfl, x, rfl, hx1, by omega, hs, .inr (of_decide_eq_true c1)⟩) (fun c1 => wpS_pure ⟨rfl, rfl, by omega, fun p q p1 p2 p3 => ?_⟩)
  have c1' : K xs (lo + x - 1) ≤ K xs (lo + x) := Int.not_lt.mp fun z => c1 (decide_eq_true z)
  by_cases hq : q < lo + x
  ·exact hs p q p1 p2 hq
  ·have : q = lo + x := by omega
   subst this
   by_cases hp : p = lo + x
   ·subst hp; exact Int.le_refl _
   ·exact Int.le_trans (hs p (lo + x - 1) p1 (by omega) (by omega)) c1'
 ·rintro c st' ⟨rfl, rfl, hx, hs⟩
  rw [show max 1 nrem = nrem by omega] at hs ⊢
  exact ⟨rfl, _, rfl, h1, Nat.le_refl _, hs, .inl rfl⟩
 rintro c st' ⟨rfl, n, rfl, n1, n2, hs, hor⟩
 refine zao (c := (n == nrem) = true) (fun c1 => wpS_pure (h n xs (Array.Perm.refl _) (fun _ _ => rfl) n1 n2 hs)) (fun c1 => ?_)
 have c1' : n ≠ nrem := fun z => c1 (beq_iff_eq.mpr z)
 have hlt := hor.resolve_left c1'
 extract_lets _ _ jp
 suffices hj : ∀ ys, ys.Perm xs → (∀ k, k < lo → K ys k = K xs k) → zmx ys lo (lo + (n + 1)) → wpS (model prog w) A E s (jp ()) Q (setArr st ys) by
  refine zao (fun c2 => ?_) (fun c2 => ?_)
  ·refine wpS_bind (zfv hk hI (by omega) (by omega) ?_)
   refine zao (c := decide (K xs lo < K xs (lo + n - 1)) = true) (fun c3 => wpS_pure (h n xs (Array.Perm.refl _) (fun _ _ => rfl) n1 n2 hs)) (fun c3 => ?_)
   have c3' : K xs (lo + n - 1) ≤ K xs lo := Int.not_lt.mp fun z => c3 (decide_eq_true z)
   have all : ∀ k, lo ≤ k → k < lo + n → K xs k = K xs (lo + n - 1) := fun k k1 k2 => by
    have a1 := hs lo k (Nat.le_refl _) k1 k2
    have a2 := hs k (lo + n - 1) k1 (by omega) (by omega)
    omega
   refine wpS_bind (wpS_modify ?_)
   have e := K_mirror_equal (i := lo) (j := lo + n) (xs := xs) (by omega) all
   refine hj (mirror xs lo (lo + n) ((lo + n - lo) / 2)) (mirror_perm _ _ _ _) (fun k _ => e k) (fun p q p1 p2 p3 => ?_)
   rw [e, e]
   by_cases hq : q < lo + n
   ·rw [all q (by omega) hq, all p p1 (by omega)]; exact Int.le_refl _
   ·have : q = lo + n := by omega
    subst this
    by_cases hp : p = lo + n
    ·subst hp; exact Int.le_refl _
    ·rw [all p p1 (by omega)]; exact Int.le_of_lt hlt
  ·refine hj xs (Array.Perm.refl _) (fun _ _ => rfl) (fun p q p1 p2 p3 => ?_)
   have c2' : ¬ n > 1 := c2
   have : n = 1 := by omega
   subst this
   by_cases hp : p = q
   ·subst hp; exact Int.le_refl _
   ·have : p = lo := by omega
    have : q = lo + 1 := by omega
    subst p q
    exact Int.le_of_lt hlt
 intro ys yp yl yd
 have yz : ys.size = xs.size := yp.size_eq
 refine wpS_bind (wpS_lift (wpAny_rule ⟨rfl, ?_⟩))
 refine wpS_bind (wpS_mono (wpS_forRange
  (I := fun x c st' => ∃ zs neq, setArr st zs = st' ∧ c = (none, x, neq) ∧ zs.Perm xs ∧ (∀ k, k < lo → K zs k = K xs k) ∧ zmx zs lo (lo + x) ∧ x ≤ nrem ∧ neq + 1 ≤ x ∧ (∀ i, lo + x - (neq + 1) ≤ i → i < lo + x → K zs i = K zs (lo + x - 1)))
  (Q := fun c st' => ∃ zs m neq, setArr st zs = st' ∧ c = (none, m, neq) ∧ zs.Perm xs ∧ (∀ k, k < lo → K zs k = K xs k) ∧ zmx zs lo (lo + m) ∧ 1 ≤ m ∧ m ≤ nrem ∧ neq + 1 ≤ m ∧ (∀ i, lo + m - (neq + 1) ≤ i → i < lo + m → K zs i = K zs (lo + m - 1)))
  ?_ ?_ ⟨ys, 0, rfl, rfl, yp, yl, yd, by omega, by omega, fun i i1 i2 => by rw [show i = lo + (n + 1) - 1 by omega]⟩) ?_)
 ·rintro x c st' hx1 hx2 ⟨zs, neq, rfl, rfl, zp, zl, zd, z1, z2, z3⟩
  have zz : zs.size = xs.size := zp.size_eq
  have hx1' : n + 1 ≤ x := hx1
  refine wpS_bind (zfv hk (hI.perm zp) (by show lo + x < zs.size; omega) (by show lo + x - 1 < zs.size; omega) ?_)
  have grow : ∀ us : Array Keyed, (∀ k, K us k = K zs k) → K zs (lo + x) ≤ K zs (lo + x - 1) → zmx us lo (lo + (x + 1)) := fun us hu hle p q p1 p2 p3 => by
   rw [hu, hu]
   by_cases hq : q < lo + x
   ·exact zd p q p1 p2 hq
   ·have : q = lo + x := by omega
    subst this
    by_cases hp : p = lo + x
    ·subst hp; exact Int.le_refl _
    ·exact Int.le_trans hle (zd p (lo + x - 1) p1 (by omega) (by omega))
  refine zao (c := decide (K zs (lo + x) < K zs (lo + x - 1)) = true) (fun c3 => ?_) (fun c3 => ?_)
  ·have c3' := of_decide_eq_true c3
   have e := K_mirror_equal (i := lo + x - (neq + 1)) (j := lo + x) (xs := zs) (by omega) z3
   refine zao (c := neq > 0) (fun c4 => ?_) (fun c4 => ?_)
   ·exact wpS_bind (wpS_modify (wpS_pure ⟨mirror zs (lo + x - (neq + 1)) (lo + x) ((lo + x - (lo + x - (neq + 1))) / 2), 0, rfl, rfl, (mirror_perm _ _ _ _).trans zp, fun k hk' => by rw [e]; exact zl k hk', grow _ e (Int.le_of_lt c3'), by omega, by omega, fun i i1 i2 => by rw [show i = lo + (x + 1) - 1 by omega]⟩))
   ·exact wpS_pure ⟨zs, 0, rfl, rfl, zp, zl, grow _ (fun _ => rfl) (Int.le_of_lt c3'), by omega, by omega, fun i i1 i2 => by rw [show i = lo + (x + 1) - 1 by omega]⟩
  ·have c3' := Int.not_lt.mp fun z => c3 (decide_eq_true z)
   refine wpS_bind (zfv hk (hI.perm zp) (by show lo + x - 1 < zs.size; omega) (by show lo + x < zs.size; omega) ?_)
   refine zao (c := decide (K zs (lo + x - 1) < K zs (lo + x)) = true) (fun c4 => wpS_pure ⟨zs, x, neq, rfl, rfl, zp, zl, zd, by omega, z1, z2, z3⟩) (fun c4 => ?_)
   have c4' := Int.not_lt.mp fun z => c4 (decide_eq_true z)
   have ex : K zs (lo + x) = K zs (lo + x - 1) := by omega
   refine wpS_pure ⟨zs, neq + 1, rfl, rfl, zp, zl, grow _ (fun _ => rfl) c4', by omega, by omega, fun i i1 i2 => ?_⟩
   rw [show lo + (x + 1) - 1 = lo + x by omega]
   by_cases hi : i = lo + x
   ·rw [hi]
   ·rw [ex]; exact z3 i (by omega) (by omega)
 ·rintro c st' ⟨zs, neq, rfl, rfl, zp, zl, zd, z1, z2, z3⟩
  have e : max (n + 1) nrem = nrem := by omega
  rw [e] at zd z2 z3
  exact ⟨zs, nrem, neq, rfl, by rw [e], zp, zl, zd, h1, Nat.le_refl _, z2, z3⟩
 rintro c st' ⟨zs, m, neq, rfl, rfl, zp, zl, zd, m1, z1, z2, z3⟩
 have zz : zs.size = xs.size := zp.size_eq
 dsimp (config := { zeta := false, zetaHave := false, zetaUnused := false }) only
 extract_lets
 rename_i jp2
 suffices hj2 : ∀ us, us.Perm xs → (∀ k, k < lo → K us k = K xs k) → zmx us lo (lo + m) → wpS (model prog w) A E s (jp2 ()) Q (setArr st us) by
  have e := K_mirror_equal (i := lo + m - (neq + 1)) (j := lo + m) (xs := zs) (by omega) z3
  refine zao (fun c4 => ?_) (fun c4 => hj2 zs zp zl zd)
  exact wpS_bind (wpS_modify (hj2 (mirror zs (lo + m - (neq + 1)) (lo + m) ((lo + m - (lo + m - (neq + 1))) / 2)) ((mirror_perm _ _ _ _).trans zp) (fun k hk' => by rw [e]; exact zl k hk') (fun p q p1 p2 p3 => by rw [e, e]; exact zd p q p1 p2 p3)))
 intro us up ul ud
 have uz : us.size = xs.size := up.size_eq
 refine wpS_bind (wpS_modify ?_)
 have hm := K_mirror (xs := us) (i := lo) (j := lo + m) (by omega)
 have vs : za5 (mirror us lo (lo + m) ((lo + m - lo) / 2)) lo (lo + m) := fun p q p1 p2 p3 => by
  rw [hm, hm, if_pos ⟨p1, by omega⟩, if_pos ⟨by omega, p3⟩]
  exact ud _ _ (by omega) (by omega) (by omega)
 have vl : ∀ k, k < lo → K (mirror us lo (lo + m) ((lo + m - lo) / 2)) k = K xs k := fun k hk' => by
  rw [hm, if_neg (by omega)]; exact ul k hk'
 have vp : (mirror us lo (lo + m) ((lo + m - lo) / 2)).Perm xs := (mirror_perm _ _ _ _).trans up
 show wpS _ _ _ _ _ _ (setArr st (mirror us lo (lo + m) ((lo + m - lo) / 2)))
 generalize mirror us lo (lo + m) ((lo + m - lo) / 2) = vv at vs vl vp
 have vz : vv.size = xs.size := vp.size_eq
 refine wpS_bind (wpS_mono (wpS_forRange
  (I := fun x c st' => setArr st vv = st' ∧ c = (none, x) ∧ x ≤ nrem ∧ za5 vv lo (lo + x))
  (Q := fun c st' => setArr st vv = st' ∧ ∃ n, c = (none, n) ∧ 1 ≤ n ∧ n ≤ nrem ∧ za5 vv lo (lo + n))
  ?_ ?_ ⟨rfl, rfl, z1, vs⟩) ?_)
 ·rintro x c st' hx1 hx2 ⟨rfl, rfl, hx, hs'⟩
  have hx1' : m ≤ x := hx1
  refine wpS_bind (zfv hk (hI.perm vp) (by show lo + x < vv.size; omega) (by show lo + x - 1 < vv.size; omega) ?_)
  refine zao (c := decide (K vv (lo + x) < K vv (lo + x - 1)) = true) (fun c1 => wpS_pure ⟨rfl, x, rfl, by omega, by omega, hs'⟩) (fun c1 => wpS_pure ⟨rfl, rfl, by omega, fun p q p1 p2 p3 => ?_⟩)
  have c1' : K vv (lo + x - 1) ≤ K vv (lo + x) := Int.not_lt.mp fun z => c1 (decide_eq_true z)
  by_cases hq : q < lo + x
  ·exact hs' p q p1 p2 hq
  ·have : q = lo + x := by omega
   subst this
   by_cases hp : p = lo + x
   ·subst hp; exact Int.le_refl _
   ·exact Int.le_trans (hs' p (lo + x - 1) p1 (by omega) (by omega)) c1'
 ·rintro c st' ⟨rfl, rfl, hx, hs'⟩
  have e : max m nrem = nrem := by omega
  rw [e] at hs'
  exact ⟨rfl, nrem, by rw [e], h1, Nat.le_refl _, hs'⟩
 ·rintro c st' ⟨rfl, n', rfl, n1', n2', hs'⟩
  exact wpS_pure (h n' vv vp vl n1' n2' hs')
end
end Srt
set_option maxHeartbeats 4000000
namespace Srt
open PySem PyProof PyProof.Rows
def Chain (xs : Array Keyed) : Nat → List (Nat × Nat × Nat) → Nat → Prop
 | a, [], b => a = b
 | a, p :: l, b => p.1 = a ∧ 1 ≤ p.2.1 ∧ za5 xs a (a + p.2.1) ∧ Chain xs (a + p.2.1) l b
theorem Chain.len {xs : Array Keyed} : ∀ {l : List (Nat × Nat × Nat)} {a b : Nat}, Chain xs a l b → a + l.length ≤ b
 | [], a, b, h => by cases h; exact Nat.le_refl _
 | p :: l, a, b, h => by
  have := Chain.len h.2.2.2
  have := h.2.1
  rw [List.length_cons]; omega
theorem Chain.congr {xs ys : Array Keyed} : ∀ {l : List (Nat × Nat × Nat)} {a b : Nat}, Chain xs a l b → (∀ k, a ≤ k → k < b → K ys k = K xs k) → Chain ys a l b
 | [], a, b, h, _ => h
 | p :: l, a, b, h, e => by
  have hl := Chain.len h.2.2.2
  exact ⟨h.1, h.2.1, fun i j i1 i2 i3 => by rw [e i (by omega) (by omega), e j (by omega) (by omega)]; exact h.2.2.1 i j i1 i2 i3, Chain.congr h.2.2.2 fun k k1 k2 => e k (by omega) k2⟩
theorem Chain.app {xs : Array Keyed} : ∀ {l m : List (Nat × Nat × Nat)} {a b c : Nat}, Chain xs a l b → Chain xs b m c → Chain xs a (l ++ m) c
 | [], m, a, b, c, h, g => by cases h; exact g
 | p :: l, m, a, b, c, h, g => ⟨h.1, h.2.1, h.2.2.1, Chain.app h.2.2.2 g⟩
theorem Chain.split {xs : Array Keyed} : ∀ {l m : List (Nat × Nat × Nat)} {a c : Nat}, Chain xs a (l ++ m) c → ∃ b, Chain xs a l b ∧ Chain xs b m c
 | [], m, a, c, h => ⟨a, rfl, h⟩
 | p :: l, m, a, c, h => by
  obtain ⟨b, h1, h2⟩ := Chain.split h.2.2.2
  exact ⟨b, ⟨h.1, h.2.1, h.2.2.1, h1⟩, h2⟩
theorem Chain.pw {xs : Array Keyed} : ∀ {l m : List (Nat × Nat × Nat)} {a b : Nat}, l.map (fun p => (p.1, p.2.1)) = m.map (fun p => (p.1, p.2.1)) → Chain xs a l b → Chain xs a m b
 | [], [], a, b, _, h => h
 | [], q :: m, a, b, e, h => by cases e
 | p :: l, [], a, b, e, h => by cases e
 | p :: l, q :: m, a, b, e, h => by
  rw [List.map_cons, List.map_cons] at e
  obtain ⟨e1, e2⟩ := List.cons.inj e
  have e3 := (Prod.mk.inj e1)
  refine ⟨e3.1 ▸ h.1, e3.2 ▸ h.2.1, e3.2 ▸ h.2.2.1, ?_⟩
  rw [← e3.2]
  exact Chain.pw e2 h.2.2.2
theorem zps {α : Type} {l : List α} {i : Nat} (h : i + 1 < l.length) : ∃ l1 x y l2, l = l1 ++ x :: y :: l2 ∧ l1.length = i := by
 refine ⟨l.take i, l[i], l[i+1], l.drop (i + 2), ?_, by rw [List.length_take]; omega⟩
 rw [← List.drop_eq_getElem_cons, ← List.drop_eq_getElem_cons, List.take_append_drop]
theorem zml {α : Type} {pd : Array α} {l1 l2 : List α} {x y z : α} (h : pd.toList = l1 ++ x :: y :: l2) :
  ((pd.setIfInBounds l1.length z).eraseIdxIfInBounds (l1.length + 1)).toList = l1 ++ z :: l2 := by
 have hz : pd.size = l1.length + (l2.length + 2) := by rw [← Array.length_toList, h, List.length_append]; rfl
 rw [Array.eraseIdxIfInBounds, dif_pos (by rw [Array.size_setIfInBounds]; omega), Array.toList_eraseIdx, Array.toList_setIfInBounds, h]
 rw [List.set_append_right _ _ (Nat.le_refl _), Nat.sub_self, List.set_cons_zero, List.eraseIdx_append_of_length_le (by omega)]
 rw [show l1.length + 1 - l1.length = 1 by omega]
 rfl
structure SB (a₀ : Array Keyed) (st : SortSt) (lo : Nat) : Prop where
 perm : (arrOf st).Perm a₀
 kind : kindOf st = oneType'
 failed : failedOf st = none
 chain : Chain (arrOf st) 0 (pendingOf st).toList lo
 le : lo ≤ a₀.size
section
variable {prog : Program} {w : World} {A : Around} {E : Value → Shared → Prop} {s : Shared} {a₀ : Array Keyed}
theorem zi1 {st : SortSt} {i lo : Nat} {Q : Bool → SortSt → Prop} (h0 : AllI a₀) (hB : SB a₀ st lo) (hi : i + 1 < (pendingOf st).size)
  (h : ∀ st', SB a₀ st' lo → (pendingOf st').size + 1 = (pendingOf st).size → (∀ k, lo ≤ k → K (arrOf st') k = K (arrOf st) k) → Q true st') :
  wpS (model prog w) A E s (mergeAt' i) Q st := by
 obtain ⟨l1, ⟨sa, na, pw⟩, ⟨sb, nb, pw2⟩, l2, hl, rfl⟩ := zps (l := (pendingOf st).toList) (by rw [Array.length_toList]; exact hi)
 have hc := hB.chain
 rw [hl] at hc
 obtain ⟨b, c1, e1, n1, s1, e2, n2, s2, c2⟩ := hc.split
 dsimp only at e1 n1 s1 e2 n2 s2 c2
 subst e1
 subst e2
 have hl2 := c2.len
 have hsz : (arrOf st).size = a₀.size := hB.perm.size_eq
 have hle := hB.le
 refine zl4 (sa := sa) (na := na) (sb := sa + na) (nb := nb) (pw := pw) (pw2 := pw2) hB.kind hB.failed (h0.perm hB.perm) ?_ ?_ rfl n1 n2 (by omega) s1 s2 fun xs g xp xs1 xk => ?_
 ·rw [← Array.getElem?_toList, hl, List.getElem?_append_right (Nat.le_refl _), Nat.sub_self]; rfl
 ·rw [← Array.getElem?_toList, hl, List.getElem?_append_right (by omega), show l1.length + 1 - l1.length = 1 by omega]; rfl
 have hm := zml (z := (sa, na + nb, pw)) hl
 refine h _ ⟨xp.trans hB.perm, rfl, rfl, ?_, hle⟩ ?_ fun k hk => xk k (.inr (by omega))
 ·show Chain xs 0 (((pendingOf st).setIfInBounds l1.length (sa, na + nb, pw)).eraseIdxIfInBounds (l1.length + 1)).toList lo
  rw [hm]
  refine (c1.congr fun k _ k2 => xk k (.inl k2)).app ⟨rfl, by dsimp only; omega, ?_, ?_⟩
  ·dsimp only
   rw [← Nat.add_assoc]; exact xs1
  ·dsimp only
   rw [← Nat.add_assoc]; exact c2.congr fun k k1 _ => xk k (.inr k1)
 ·show (((pendingOf st).setIfInBounds l1.length (sa, na + nb, pw)).eraseIdxIfInBounds (l1.length + 1)).size + 1 = _
  rw [← Array.length_toList, hm, ← Array.length_toList, hl, List.length_append, List.length_append]
  rfl
theorem zie {st : SortSt} {xs : Array Keyed} {lo n ok : Nat} {Q : Bool → SortSt → Prop} (hk : kindOf st = oneType') (hI : AllI xs) (hn : lo + n ≤ xs.size) (hok : ok ≤ n) (h1 : 1 ≤ ok) (hs : za5 xs lo (lo + ok))
  (h : ∀ ys, ys.Perm xs → (∀ k, k < lo → K ys k = K xs k) → za5 ys lo (lo + n) → Q true (setArr st ys)) : wpS (model prog w) A E s (binarySort' lo n ok) Q (setArr st xs) := by
 rw [binarySort'_eq]
 refine wpS_bind (wpS_mono (wpS_forRange (I := fun k c st' => ∃ ys, c = (none, ()) ∧ setArr st ys = st' ∧ ys.Perm xs ∧ (∀ k, k < lo → K ys k = K xs k) ∧ za5 ys lo (lo + min k n))
  (Q := fun c st' => ∃ ys, c = (none, ()) ∧ setArr st ys = st' ∧ ys.Perm xs ∧ (∀ k, k < lo → K ys k = K xs k) ∧ za5 ys lo (lo + n)) ?step ?fin ?init) ?post)
 case post =>
  rintro c st' ⟨ys, rfl, rfl, yp, yl, ys1⟩
  exact wpS_pure (h ys yp yl ys1)
 case init => exact ⟨xs, rfl, rfl, Array.Perm.refl _, fun _ _ => rfl, by rw [show min (max ok 1) n = ok by omega]; exact hs⟩
 case fin =>
  rintro c st' ⟨ys, hc, he, yp, yl, ys1⟩
  refine ⟨ys, hc, he, yp, yl, ?_⟩
  rwa [show min (max (max ok 1) n) n = n by omega] at ys1
 case step =>
  rintro k c st' hak hkn ⟨ys, rfl, rfl, yp, yl, hs'⟩
  rw [show min k n = k by omega] at hs'
  have yz : ys.size = xs.size := yp.size_eq
  have hkz : lo + k < ys.size := by omega
  refine wpS_bind (wpS_mono (wpS_forRange (I := fun x c st'' => setArr st ys = st'' ∧ ∃ l r, c = (none, l, r) ∧ l ≤ r ∧ r ≤ k ∧ r - l ≤ k - x ∧
    (∀ i, i < l → K ys (lo + i) ≤ K ys (lo + k)) ∧ (∀ i, r ≤ i → i < k → K ys (lo + k) < K ys (lo + i)))
   (Q := fun c st'' => setArr st ys = st'' ∧ ∃ l r, c = (none, l, r) ∧ l ≤ k ∧
    (∀ i, i < l → K ys (lo + i) ≤ K ys (lo + k)) ∧ (∀ i, l ≤ i → i < k → K ys (lo + k) < K ys (lo + i))) ?istep ?ifin ?iinit) ?ipost)
  case iinit => exact ⟨rfl, 0, k, rfl, by omega, by omega, by omega, fun i hi => by omega, fun i h1 h2 => by omega⟩
  case ifin =>
   rintro c st'' ⟨rfl, l, r, rfl, hlr, hrk, hm, hlo, hhi⟩
   have : l = r := by omega
   subst this
   exact ⟨rfl, l, l, rfl, hrk, hlo, hhi⟩
  case istep =>
   rintro x c st'' _ hxk ⟨rfl, l, r, rfl, hlr, hrk, hm, hlo, hhi⟩
   refine zao (c := l ≥ r) (fun hge => ?_) (fun hge => ?_)
   ·have : l = r := by omega
    subst this
    exact wpS_pure ⟨rfl, l, l, rfl, hrk, hlo, hhi⟩
   ·refine wpS_bind (zfv hk (hI.perm yp) hkz (by show lo + (l + r) / 2 < ys.size; omega) ?_)
    refine zao (c := decide (K ys (lo + k) < K ys (lo + (l + r) / 2)) = true) (fun c1 => ?_) (fun c1 => ?_)
    ·have hless := of_decide_eq_true c1
     refine wpS_pure ⟨rfl, l, (l + r) / 2, rfl, by omega, by omega, by omega, hlo, fun i h1 h2 => ?_⟩
     exact Int.lt_of_lt_of_le hless (hs' _ _ (by omega) (by omega) (by omega))
    ·have hless := Int.not_lt.mp fun z => c1 (decide_eq_true z)
     refine wpS_pure ⟨rfl, (l + r) / 2 + 1, r, rfl, by omega, by omega, by omega, fun i h1 => ?_, hhi⟩
     exact Int.le_trans (hs' (lo + i) (lo + (l + r) / 2) (by omega) (by omega) (by omega)) hless
  case ipost =>
   rintro c st'' ⟨rfl, l, r, rfl, hlk, hlo, hhi⟩
   refine wpS_bind (wpS_modify (wpS_pure ⟨bubble ys (lo + k) (lo + k - (lo + l)), rfl, rfl, (bubble_perm _ _ _).trans yp, fun i hi => ?_, ?_⟩))
   ·rw [K_bubble hkz (by omega), if_neg (by omega), if_neg (by omega)]; exact yl i hi
   rw [show min (k + 1) n = k + 1 by omega]
   intro i j i1 hij hj
   rw [K_bubble hkz (by omega), K_bubble hkz (by omega), show lo + k - (lo + k - (lo + l)) = lo + l by omega]
   have lo' : ∀ i, lo ≤ i → i < lo + l → K ys i ≤ K ys (lo + k) := fun i a b => by
    have := hlo (i - lo) (by omega)
    rwa [show lo + (i - lo) = i by omega] at this
   have hi' : ∀ i, lo + l ≤ i → i < lo + k → K ys (lo + k) ≤ K ys i := fun i a b => by
    have := hhi (i - lo) (by omega) (by omega)
    rw [show lo + (i - lo) = i by omega] at this
    exact Int.le_of_lt this
   repeat' split
   all_goals first
    | (exfalso; omega)
    | exact Int.le_refl _
    | exact lo' _ (by omega) (by omega)
    | exact hi' _ (by omega) (by omega)
    | exact hs' _ _ (by omega) (by omega) (by omega)
end
end Srt
set_option maxHeartbeats 4000000
namespace Srt
open PySem PyProof PyProof.Rows
section
variable {prog : Program} {w : World} {A : Around} {E : Value → Shared → Prop} {s : Shared} {a₀ : Array Keyed}
theorem zjw {st : SortSt} {Q : Unit → SortSt → Prop} (h0 : AllI a₀) (hB : SBase a₀ st)
  (h : ∀ st', (arrOf st').Perm a₀ → failedOf st' = none → SortedTo (arrOf st') a₀.size → Q () st') : wpS (model prog w) A E s sortRuns' Q st := by
 rw [sortRuns'_eq]
 refine wpS_bind (wpS_get ?_)
 have hz := hB.size
 extract_lets size mr
 have hz' : size = a₀.size := hz
 clear_value size mr
 subst hz'
 have hS0 : SB a₀ st 0 := ⟨hB.perm, hB.kind, hB.failed, by rw [hB.pend]; rfl, Nat.zero_le _⟩
 refine wpS_bind (wpS_mono (wpS_forRange
  (I := fun x c st' => ∃ lo, c = (none, lo) ∧ x ≤ lo ∧ SB a₀ st' lo)
  (Q := fun c st' => c = (none, a₀.size) ∧ SB a₀ st' a₀.size) ?step ?fin ⟨0, rfl, Nat.le_refl _, hS0⟩) ?post)
 case fin =>
  rintro c st' ⟨lo, rfl, h1, h2⟩
  have := h2.le
  have : lo = a₀.size := by omega
  subst this
  exact ⟨rfl, h2⟩
 case step =>
  rintro x c st' _ hx ⟨lo, rfl, hxl, hS⟩
  have hle := hS.le
  dsimp (config := { zeta := false, zetaHave := false, zetaUnused := false }) only
  refine zao (c := lo ≥ a₀.size) (fun c1 => ?_) (fun c1 => ?_)
  ·have : lo = a₀.size := by omega
   subst this
   exact wpS_pure ⟨rfl, hS⟩
  have hsz : (arrOf st').size = a₀.size := hS.perm.size_eq
  obtain ⟨R, hR⟩ : ∃ R : ForInStep (Option Unit × Nat) → SortSt → Prop, R = fun r st'' => ∃ lo, r = ForInStep.yield (none, lo) ∧ x + 1 ≤ lo ∧ SB a₀ st'' lo := ⟨_, rfl⟩
  refine wpS_mono (Q := R) ?_ (by rw [hR]; rintro r st'' ⟨lo, rfl, h1, h2⟩; exact ⟨lo, rfl, h1, h2⟩)
  refine wpS_bind (zjx (st := st') (xs := arrOf st') hS.kind (h0.perm hS.perm) (by omega) (by omega) fun m ys yp yl m1 m2 ys1 => ?_)
  dsimp (config := { zeta := false, zetaHave := false, zetaUnused := false }) only
  extract_lets n jp force nf
  have hn : n = m := rfl
  clear_value n
  subst hn
  suffices hj : ∀ (n' : Nat) (zs : Array Keyed), zs.Perm (arrOf st') → (∀ k, k < lo → K zs k = K (arrOf st') k) → za5 zs lo (lo + n') → 1 ≤ n' → lo + n' ≤ a₀.size →
    wpS (model prog w) A E s (jp () n') R (setArr st' zs) by
   refine zao (fun c2 => ?_) (fun c2 => hj n ys yp yl ys1 m1 (by omega))
   refine wpS_bind (wpS_lift (wpAny_rule ⟨rfl, ?_⟩))
   have hf : force = min (a₀.size - lo) mr := rfl
   have yz : ys.size = (arrOf st').size := yp.size_eq
   refine wpS_bind (zie hS.kind ((h0.perm hS.perm).perm yp) (by omega) (by omega) m1 ys1 fun zs zp zl zs1 => ?_)
   exact hj force zs (zp.trans yp) (fun k hk => (zl k hk).trans (yl k hk)) zs1 (by omega) (by omega)
  clear ys yp yl ys1 m1 m2
  intro n' zs zp zl zs1 n1 n2
  have hS1 : SB a₀ (setArr st' zs) lo := ⟨zp.trans hS.perm, hS.kind, hS.failed, hS.chain.congr fun k _ hk => zl k hk, hle⟩
  have hs2 : za5 (arrOf (setArr st' zs)) lo (lo + n') := zs1
  generalize setArr st' zs = st2 at hS1 hs2
  clear zs zp zl zs1
  refine wpS_bind (wpS_get ?_)
  extract_lets lo2 jp2
  suffices hj2 : ∀ st3, SB a₀ st3 lo → za5 (arrOf st3) lo (lo + n') → wpS (model prog w) A E s (jp2 ()) R st3 by
   cases hb : (pendingOf st2).back? with
   | none => exact hj2 st2 hS1 hs2
   | some p =>
    obtain ⟨p1, p2, p3⟩ := p
    dsimp (config := { zeta := false, zetaHave := false, zetaUnused := false }) only
    extract_lets pw
    clear_value pw
    refine wpS_bind (wpS_mono (wpS_forRange (I := fun x c st'' => c = (none, ()) ∧ SB a₀ st'' lo ∧ za5 (arrOf st'') lo (lo + n')) (Q := fun c st'' => c = (none, ()) ∧ SB a₀ st'' lo ∧ za5 (arrOf st'') lo (lo + n')) ?_ (fun _ _ hh => hh) ⟨rfl, hS1, hs2⟩) ?_)
    ·rintro y c st3 _ hy ⟨rfl, hS3, hs3⟩
     refine wpS_bind (wpS_get ?_)
     extract_lets p
     by_cases hp : p.size > 1
     ·have hl : p.size - 2 < p.size := by omega
      rw [if_pos hp, Array.getElem?_eq_getElem hl]
      dsimp (config := { zeta := false, zetaHave := false, zetaUnused := false }) only
      refine zao (fun c3 => wpS_pure ⟨rfl, hS3, hs3⟩) (fun c3 => ?_)
      refine wpS_bind (zi1 h0 hS3 (show p.size - 2 + 1 < p.size by omega) fun st4 hS4 hp4 hk4 => ?_)
      exact wpS_pure ⟨rfl, hS4, fun i j i1 i2 i3 => by rw [hk4 i i1, hk4 j (by omega)]; exact hs3 i j i1 i2 i3⟩
     ·rw [if_neg hp]
      exact wpS_pure ⟨rfl, hS3, hs3⟩
    ·rintro c st3 ⟨rfl, hS3, hs3⟩
     refine wpS_bind (wpS_modify (hj2 _ ⟨hS3.perm, hS3.kind, hS3.failed, ?_, hle⟩ hs3))
     refine hS3.chain.pw ?_
     show _ = ((pendingOf st3).modify _ _).toList.map _
     rw [Array.toList_modify]
     generalize (pendingOf st3).toList = l
     generalize (pendingOf st3).size - 1 = i
     apply List.ext_getElem?
     intro k
     rw [List.getElem?_map, List.getElem?_map, List.getElem?_modify]
     cases l[k]? with
     | none => rfl
     | some q =>
      by_cases e : i = k
      ·simp [e]
      ·simp [e]
  intro st3 hS3 hs3
  refine wpS_bind (wpS_modify (wpS_pure ?_))
  rw [hR]
  refine ⟨lo + n', rfl, by omega, hS3.perm, hS3.kind, hS3.failed, ?_, n2⟩
  show Chain (arrOf st3) 0 ((pendingOf st3).push (lo, n', 0)).toList (lo + n')
  rw [Array.toList_push]
  exact hS3.chain.app ⟨rfl, n1, hs3, rfl⟩
 case post =>
  rintro c st' ⟨rfl, hS⟩
  dsimp (config := { zeta := false, zetaHave := false, zetaUnused := false }) only
  refine wpS_bind (wpS_mono (wpS_forRange (I := fun x c st'' => c = (none, ()) ∧ SB a₀ st'' a₀.size ∧ (pendingOf st'').size + x ≤ a₀.size) (Q := fun c st'' => c = (none, ()) ∧ SB a₀ st'' a₀.size ∧ (pendingOf st'').size ≤ 1) ?_ ?_ ?_) ?_)
  ·rintro x c st'' _ hx ⟨rfl, hS', hp⟩
   refine wpS_bind (wpS_get ?_)
   refine zao (c := (pendingOf st'').size ≤ 1) (fun c1 => wpS_pure ⟨rfl, hS', c1⟩) (fun c1 => ?_)
   extract_lets i before i'
   have hi' : i' + 1 < (pendingOf st'').size := by
    have : i' = i - 1 ∨ i' = i := by
     show (if _ then i - 1 else i) = i - 1 ∨ (if _ then i - 1 else i) = i
     split
     ·exact .inl rfl
     ·exact .inr rfl
    have hi : i = (pendingOf st'').size - 2 := rfl
    omega
   clear_value i'
   refine wpS_bind (zi1 h0 hS' hi' fun st3 hS3 hp3 _ => ?_)
   exact wpS_pure ⟨rfl, hS3, by omega⟩
  ·rintro c st'' ⟨hc, hS', hp⟩
   have : max 0 a₀.size = a₀.size := by omega
   rw [this] at hp
   exact ⟨hc, hS', by omega⟩
  ·have := hS.chain.len
   rw [Array.length_toList] at this
   exact ⟨rfl, hS, by omega⟩
  ·rintro c st'' ⟨rfl, hS', hp⟩
   refine wpS_pure (h _ hS'.perm hS'.failed ?_)
   have hc := hS'.chain
   have hl : (pendingOf st'').toList.length ≤ 1 := by rw [Array.length_toList]; exact hp
   generalize (pendingOf st'').toList = l at hc hl
   match l, hc, hl with
   | [], hc, _ =>
    have : a₀.size = 0 := hc.symm
    intro i j _ hj; omega
   | [p], hc, _ =>
    obtain ⟨_, _, hs, e⟩ := hc
    have e' : 0 + p.2.1 = a₀.size := e
    intro i j hij hj
    exact hs i j (Nat.zero_le _) hij (by omega)
end
end Srt
set_option maxHeartbeats 4000000
set_option maxRecDepth 100000
namespace Srt
open PySem PyProof PyProof.Rows
section
variable {prog : Program} {w : World} {A : Around} {E : Value → Shared → Prop} {s : Shared}
theorem zqq {a : Addr} {vs : List Value} {ns : List Int} {n : Nat} {P : Fin → Shared → Prop} (o0 : s.heap.get? a = some (seqObj "list" vs.toArray n)) (hI : IntsAre vs ns) (hz : vs.length ≤ sizeLine)
  (h : ∀ (out : Array Value) (ns' : List Int), IntsAre out.toList ns' → ns'.Perm ns → ns'.Pairwise (· ≤ ·) → P (.done (.ret .none)) { s with heap := sortedHeap s.heap a vs out }) :
  wpAny (model prog w) A (Builtin.«list.sort» ⟨[.ref a], []⟩) P E s := by
 rw [list_sort_plain]
 have la : a < s.heap.objs.size := Heap.lt_size o0
 obtain ⟨e1, o1⟩ : ∃ e, (s.heap.update a (Obj.mapSeq fun _ => #[])).get? a = some (seqObj "list" #[] e) := ⟨_, get?_update_seq o0 _⟩
 have o6 : (((s.heap.update a (Obj.mapSeq fun _ => #[])).push (seqObj "tuple" vs.toArray 0)).push (seqObj "list" #[] 0)).get? a = some (seqObj "list" #[] e1) := by
  rwa [Heap.get?_push_ne _ _ _ (by rw [size_push', Heap.size_update]; exact Nat.ne_of_lt (Nat.lt_succ_of_lt la)), Heap.get?_push_ne _ _ _ (by rw [Heap.size_update]; exact Nat.ne_of_lt la)]
 refine wpAny_bind (listItems_at o0 rfl (wpAny_bind (listUpdate_at o0 rfl ?_ (by simpa using hz) (Nat.zero_le _))))
 refine wpAny_bind (seqEpoch_at o1 rfl (wpAny_bind (wpAny_newTuple (wpAny_bind (wpAny_newList (wpAny_holding ?_))))))
 have fit : ∀ xs : Array Keyed, xs.Perm (pairsOf vs) → (xs.map (·.2)).size ≤ sizeLine := fun xs p => Nat.le_trans (Nat.le_of_eq ((Array.size_map ..).trans (p.size_eq.trans (pairsOf_size vs)))) hz
 have fin : ∀ xs : Array Keyed, xs.Perm (pairsOf vs) → SortedTo xs (pairsOf vs).size → P (.done (.ret .none)) { s with heap := sortedHeap s.heap a vs (xs.map (·.2)) } := fun xs p so => by
  obtain ⟨ms, m1, m2, m3⟩ := sorted_out hI p so
  exact h _ ms m1 m2 m3
 by_cases c : vs.toArray.size < 2
 ·rw [if_pos c, if_pos c]
  refine wpAny_bind (wpAny_pure (wpAny_bind (wpAny_pure ?_)))
  refine wpAny_bind (seqEpoch_at o6 rfl (wpAny_bind (listUpdate_at o6 rfl ?_ (Nat.zero_le _) (Nat.le_succ_of_le (fit _ (Array.Perm.refl _))))))
  simp only [bne_self_eq_false, Bool.false_eq_true, if_false]
  refine wpAny_pure (fin (pairsOf vs) (Array.Perm.refl _) fun i j i1 i2 => ?_)
  have hl : vs.length < 2 := by simpa using c
  have : i = j := by rw [pairsOf_size] at i2; omega
  subst this
  exact Int.le_refl _
 ·rw [if_neg c, if_neg c]
  obtain ⟨x, y, r, rfl⟩ : ∃ x y r, vs = x :: y :: r := by
   cases vs with
   | nil => exact absurd (show 0 < 2 by decide) c
   | cons x r => cases r with
    | nil => exact absurd (show 1 < 2 by decide) c
    | cons y r => exact ⟨x, y, r, rfl⟩
  rw [keyKind_ints hI]
  refine wpAny_bind (wpAny_pure (wpAny_bind (wpAny_mono (zjw (a₀ := pairsOf (x :: y :: r)) (st := SortSt.mk' oneType' (pairsOf (x :: y :: r)) #[] 7 none)
   (Q := fun _ st' => (arrOf st').Perm (pairsOf (x :: y :: r)) ∧ failedOf st' = none ∧ SortedTo (arrOf st') (pairsOf (x :: y :: r)).size) hI.intKeys ⟨Array.Perm.refl _, rfl, rfl, rfl⟩ fun _ b1 b2 b3 => ⟨b1, b2, b3⟩) ?_ fun _ _ e => e)))
  rintro ⟨u, st'⟩ s' ⟨rfl, b1, b2, b3⟩
  refine wpAny_bind (seqEpoch_at o6 rfl (wpAny_bind (listUpdate_at o6 rfl ?_ (Nat.zero_le _) (Nat.le_succ_of_le (fit _ b1)))))
  rw [b2]
  simp only [bne_self_eq_false, Bool.false_eq_true, if_false]
  exact wpAny_pure (fin _ b1 b3)
theorem sorted_any {l : Addr} {vs : List Value} {ns : List Int} {Q : Value → Shared → Prop} (hl : s.heap.IsList l vs.toArray) (hI : IntsAre vs ns) (hz : vs.length ≤ sizeLine)
  (h : ∀ (out : Array Value) (ns' : List Int), IntsAre out.toList ns' → ns'.Perm ns → ns'.Pairwise (· ≤ ·) → Q (.ref (s.heap.objs.size + 1)) { s with heap := sortedAll s.heap vs out }) :
  wpAny (model prog w) A (call (.builtin "sorted") [.ref l]) Q E s := by
 have ez : ((s.heap.push (seqObj "list" #[] 0)).update s.heap.objs.size (Obj.mapSeq (· ++ vs.toArray))).objs.size = s.heap.objs.size + 1 := by rw [Heap.size_update, size_push']
 have oL : (((s.heap.push (seqObj "list" #[] 0)).update s.heap.objs.size (Obj.mapSeq (· ++ vs.toArray))).push (seqObj "list" vs.toArray 0)).get? (s.heap.objs.size + 1) = some (seqObj "list" vs.toArray 0) := by
  rw [← ez]; exact Heap.get?_push_size _ rfl
 refine Calls.call_function_entry kind_sorted plain_sorted entry_sorted (args_sorted1 _) (wpAny_bind (m := checkCount "sorted" 1 1 _) (wpAny_pure (wpAny_bind (collect_list hl ?_ hz))))
 refine wpAny_bind (wpAny_newList ?_)
 rw [ez]
 refine wpAny_bind (wpAny_holding (wpAny_call_entry slot_list_sort ⟨_, oL, rfl⟩ entry_list_sort (zqq oL hI hz fun out ns' a1 a2 a3 => ⟨_, rfl, ?_⟩) (args_list_sort _)))
 exact wpAny_pure ⟨_, rfl, h out ns' a1 a2 a3⟩
end
end Srt
namespace L2
open PySem PySem.Spec PyProof.Rows
variable {X : Cx}
theorem zk7 : zc6 X (.builtin "sorted") (fun xs H Q => ∃ (p : Addr) (ns : List Int), xs = [.ref p] ∧ SqL X.K H p (ns.map V.int) ∧ ∀ ms : List Int, ms.Perm ns → ms.Pairwise (· ≤ ·) → ∀ l, H l = none → Q (.ref l) (upd H l (.lst (ms.map V.int)))) := by
 intro pins s σ H xs us Q I r h
 obtain ⟨p, ns, rfl, hq, q⟩ := h
 obtain ⟨u, rfl, rx⟩ := zd7 r
 cases rx
 obtain ⟨its, rv, pl, hz'⟩ := I.list hq
 have hlen := rv.length
 rw [List.length_map] at hlen hz'
 refine Srt.sorted_any pl.isList (zi0 rv) (by omega) fun out ms a1 a2 a3 => ?_
 obtain ⟨e, he⟩ := sortedAll_at s.heap its out
 have hm : ms.length = ns.length := a2.length_eq
 refine ⟨.ref (s.heap.objs.size + 1), _, I.laid (t' := s.toks) (fun b o => sortedAll_old) (Nat.le_succ _) (show ObjOk X.prog X.w _ _ _ (.lst (ms.map V.int)) from ⟨by rw [List.length_map, hm]; exact hz', out.toList, e, zhs a1, he⟩), rfl, q ms a2 a3 _ (I.hok.fresh (Nat.le_succ _))⟩
end L2
set_option maxRecDepth 100000
set_option maxHeartbeats 4000000
namespace Wd
open PySem L2 Ow
end Wd
set_option maxRecDepth 100000
set_option maxHeartbeats 4000000
namespace L2
open PySem PySem.Spec PyProof.Rows
end L2
set_option maxRecDepth 100000
set_option maxHeartbeats 4000000
namespace Wd
open PySem L2 Ow
end Wd
set_option maxRecDepth 100000
set_option maxHeartbeats 4000000
namespace L2
open PySem PySem.Spec PyProof.Rows
section
variable {X : Cx}
end
end L2
set_option maxRecDepth 100000
set_option maxHeartbeats 4000000
namespace Wd
open PySem L2 Ow
theorem zdz {α β : Type} {g : α → β} {l : List α} {i : Nat} {x : α} (h : l[i]? = some x) : (l.take (i + 1)).map g = (l.take i).map g ++ [g x] := by
 rw [List.take_add_one, h, Option.toList_some, List.map_append]
 rfl
theorem zo7 (A B : List Nat) : zav (A ++ B) = zav A ++ zav B := List.map_append
end Wd
namespace Wd
open PySem L2 Ow
end Wd
namespace Wd
open PySem L2 Ow
end Wd
set_option maxRecDepth 100000
set_option maxHeartbeats 4000000
namespace L2
open PySem PySem.Spec PyProof.Rows
section
variable {prog : Program} {w : World} {A : Around} {E : Value → Shared → Prop} {s : Shared}
end
section
variable {X : Cx} {pos : Pos}
end
section
variable {X : Cx}
def zth : V → List V → Hp → VK → Prop := fun x vs H Q => ∃ (l : Addr) (xs : List V) (i : Int) (y : V), x = .ref l ∧ vs = [.int i, y] ∧ H l = some (.lst xs) ∧ 0 ≤ i ∧ i ≤ xs.length ∧ xs.length < sizeLine ∧ Q .non (upd H l (.lst (xs.take i.toNat ++ y :: xs.drop i.toNat)))
theorem zpj : MtM X "list.insert" zth := by
 intro pins s σ H x vs v us Q I rx rv h
 obtain ⟨l, xs, i, y, rfl, rfl, hH, h0, hk, hz, q⟩ := h
 cases rx
 obtain ⟨u1, us1, rfl, r1, rr⟩ : ∃ u1 us1, us = u1 :: us1 ∧ RelV (.int i) u1 ∧ Vals [y] us1 := by
  cases rv with
  | cons a b => exact ⟨_, _, rfl, a, b⟩
 obtain ⟨u2, rfl, ru⟩ := rr.one
 obtain ⟨t, rfl⟩ := r1
 obtain ⟨z, its, n, r, hl, e⟩ := I.lstM hH
 have hsz : its.toArray.size ≤ sizeLine := by rw [List.size_toArray, ← hl]; exact z
 have b1 : -(2 ^ 63) ≤ i := Int.le_trans (by decide) h0
 have b2 : i < 2 ^ 63 := by
  have h63 : ((xs.length : Nat) : Int) < ((2 ^ 63 : Nat) : Int) := Int.ofNat_lt.mpr (Nat.lt_of_le_of_lt z ziv)
  exact Int.lt_of_le_of_lt hk h63
 have fit : ¬ (!Builtin.List.listFitsIndex i) = true := by
  rw [fitsIndex_both b1 b2]
  exact Bool.false_ne_true
 refine call_meets F.slot_list_insert ⟨_, e, rfl⟩ F.entry_list_insert (F.args_list_insert_3 _ _ _) (AutoListH.list_insert_list_int_val_1 l its.toArray n i t u2 fit hsz) ⟨e, ?_⟩
 have r2 : Vals (xs.take i.toNat ++ y :: xs.drop i.toNat) (its.take i.toNat ++ u2 :: its.drop i.toNat) := (r.take i.toNat).append (.cons ru (r.drop i.toNat))
 refine ⟨.non, _, I.lset (its' := its.take i.toNat ++ u2 :: its.drop i.toNat) hH e ?_ r2 ?_, rfl, q⟩
 ·have hn : ¬ (i < 0) := Int.not_lt.mpr h0
  have hm : i.toNat ≤ its.length := by omega
  simp [hn, Nat.min_eq_left hm]
  exact List.take_of_length_le (by rw [List.length_drop]; exact Nat.le_refl _)
 ·rw [List.length_append, List.length_cons, List.length_take, List.length_drop]
  omega
end
end L2
set_option maxRecDepth 100000
set_option maxHeartbeats 4000000
namespace Wd
open PySem L2 Ow
def zsu (l : List Stmt) : List (Nat × Bool) → List Stmt
 | [] => l
 | (i, e) :: p => match l[i]? with
  | some (Stmt.For _ _ b _ _) => zsu b p
  | some (Stmt.If _ b o _) => zsu (if e then o else b) p
  | _ => []
def zpt (K : PySem.W.Frag) : Sp := fun vs H Q _ => ∃ (pen sp : Addr) (ns : List Int) (m : Nat) (k : Int), vs = [.ref pen, .int (m : Int)] ∧ Pen K H pen sp ns k ∧ 0 ≤ k ∧ k ≤ 900000 ∧ 1 ≤ m ∧ m ≤ 9 ∧
 ∀ (l : Addr) (bs : List PyData) (xs : List V) (k' : Int) (H' : Hp), SameX pen H H' → H' pen = some (.lst [.ref sp, .int k']) → k ≤ k' → k' ≤ k + 80 → H' l = some (.lst xs) → H l = none → DnL H' bs xs → zr7 m bs → bs.length ≤ 8 → bs.all (zbe 3) = true → Q (.ref l) H'
end Wd
set_option maxRecDepth 100000
set_option maxHeartbeats 4000000
namespace Wd
open PySem L2 Ow
theorem _root_.Ow.GAt.ins {H0 H : Hp} {g l t : Addr} {pre post : List Grp} {u k : Int} (G : GAt H0 H g (pre ++ post)) (hf : H0 l = none) (hl : H l = none) (ht : upd H l (.lst [.int k]) t = none) :
  GAt H0 (upd (upd (upd H l (.lst [.int k])) t (.tup [.int u, .ref l])) g (.lst ((pre.map fun x => V.ref x.t) ++ V.ref t :: (post.map fun x => V.ref x.t)))) g (pre ++ ⟨t, u, l, [k]⟩ :: post) := by
 have A := GAt.add2 (u := u) (k := k) G hf hl ht
 have mem : ∀ x, x ∈ pre ++ ⟨t, u, l, [k]⟩ :: post ↔ x ∈ (pre ++ post) ++ [⟨t, u, l, [k]⟩] := fun x => by
  simp only [List.mem_append, List.mem_cons, List.not_mem_nil, or_false]
  constructor
  ·rintro (h | h | h)
   ·exact .inl (.inl h)
   ·exact .inr h
   ·exact .inl (.inr h)
  ·rintro ((h | h) | h)
   ·exact .inl h
   ·exact .inr (.inr h)
   ·exact .inr (.inl h)
 have other : ∀ (o o' : HO) (b : Addr), b ≠ g → (upd (upd (upd H l (.lst [.int k])) t (.tup [.int u, .ref l])) g o) b = (upd (upd (upd H l (.lst [.int k])) t (.tup [.int u, .ref l])) g o') b := fun o o' b n => by rw [zap n, zap n]
 refine ⟨?_, A.new, fun x hx => ?_, fun x hx => ?_, ?_⟩
 ·rw [zae, List.map_append]
  rfl
 ·have h := A.tup x ((mem x).mp hx)
  have n : x.t ≠ g := fun z => by rw [z, zae] at h; cases h
  rw [other _ _ _ n]
  exact h
 ·have h := A.lst x ((mem x).mp hx)
  refine ⟨?_, h.2⟩
  rw [other _ _ _ (Ne.symm h.2.2)]
  exact h.1
 ·have p : (pre ++ (⟨t, u, l, [k]⟩ : Grp) :: post).Perm ((pre ++ post) ++ [⟨t, u, l, [k]⟩]) := by
   rw [List.append_assoc]
   exact List.Perm.append_left _ (List.perm_append_singleton _ _).symm
  exact ((p.map (·.l)).nodup_iff).mpr A.nd
theorem _root_.Ow.GOk.ins {k : Nat} {pre post : List Grp} {t l : Addr} {u : Int} (G : GOk ((k : Int) + 1) (pre ++ post)) (u0 : 0 ≤ u) (u1 : u < (k : Int) + 1) : GOk ((k : Int) + 2) (pre ++ ⟨t, u, l, [(k : Int) + 1]⟩ :: post) := by
 have A := GOk.new (t := t) (l := l) G u0 u1
 have p : (pre ++ (⟨t, u, l, [(k : Int) + 1]⟩ : Grp) :: post).Perm ((pre ++ post) ++ [⟨t, u, l, [(k : Int) + 1]⟩]) := by
  rw [List.append_assoc]
  exact List.Perm.append_left _ (List.perm_append_singleton _ _).symm
 exact ⟨fun x hx => A.each x (p.mem_iff.mp hx), (List.Perm.flatMap_right _ p).trans A.perm⟩
end Wd
set_option maxRecDepth 100000
set_option maxHeartbeats 4000000
namespace HT
open PySem PySem.Spec PyProof.Rows
section
variable {prog : Program} {w : World} {A : Around} {E : Value → Shared → Prop} {s : Shared}
end
end HT
namespace HT
open PySem PySem.Spec PyProof.Rows
section
variable {prog : Program} {w : World} {A : Around} {E : Value → Shared → Prop} {s : Shared}
end
end HT
namespace L2
open PySem PySem.Spec PyProof.Rows
section
variable {X : Cx} {e st : Expr} {te tst : TE} {pos p2 : Pos}
end
end L2
namespace L2
open PySem PySem.Spec PyProof.Rows
section
variable {X : Cx}
end
end L2
namespace Wd
open PySem L2 Ow
mutual
theorem zro : ∀ (n : Nat) (d : PyData), zbe n d = true → PyData.canLay0 d = true ∧ PyData.depth d ≤ n + 1
 | _, .int i, _ => ⟨by simp [PyData.canLay0], by simp only [PyData.depth]; omega⟩
 | n, .str s, h => ⟨by cases n <;> simpa [PyData.canLay0] using (show PyData.strOk s = true from h), by simp only [PyData.depth]; omega⟩
 | n + 1, .tuple ds, h => by
  have z : (decide (ds.length ≤ 1000) && ds.all (zbe n)) = true := h
  rw [Bool.and_eq_true] at z
  obtain ⟨a, b⟩ := zh0 n ds z.2
  exact ⟨by simpa [PyData.canLay0] using a, by simp only [PyData.depth]; omega⟩
 | 0, .tuple _, h => by cases h
 | 0, .none, h => by cases h
 | n + 1, .none, h => by cases h
 | 0, .bool _, h => by cases h
 | n + 1, .bool _, h => by cases h
 | 0, .list _, h => by cases h
 | n + 1, .list _, h => by cases h
 | 0, .dict _, h => by cases h
 | n + 1, .dict _, h => by cases h
theorem zh0 : ∀ (n : Nat) (ds : List PyData), ds.all (zbe n) = true → PyData.canLayAll0 ds = true ∧ PyData.depthAll ds ≤ n + 1
 | _, [], _ => ⟨by simp [PyData.canLayAll0], by simp only [PyData.depthAll]; omega⟩
 | n, d :: ds, h => by
  rw [List.all_cons, Bool.and_eq_true] at h
  obtain ⟨a1, b1⟩ := zro n d h.1
  obtain ⟨a2, b2⟩ := zh0 n ds h.2
  exact ⟨by simp [PyData.canLayAll0, a1, a2], by simp only [PyData.depthAll]; omega⟩
end
end Wd
set_option maxRecDepth 100000
set_option maxHeartbeats 4000000
namespace Wd
open PySem L2 Ow
end Wd
set_option maxRecDepth 100000
set_option maxHeartbeats 4000000
namespace Wd
open PySem L2 Ow
end Wd
set_option maxRecDepth 100000
set_option maxHeartbeats 4000000
namespace Wd
open PySem L2 Ow
theorem root_in {s : Nat} : InS 1 0 s ↔ s.testBit 0 = true := by
 constructor
 ·intro h
  exact h.1 0 rfl
 ·intro h
  refine ⟨fun k hk => ?_, fun k hk => ?_⟩
  ·have : k = 0 := by
    rcases Nat.eq_zero_or_pos k with z | z
    ·exact z
    ·have e : (1 : Nat).testBit k = false := Nat.testBit_lt_two_pow (Nat.lt_of_lt_of_le (by decide : 1 < 2 ^ 1) (Nat.pow_le_pow_right (by decide) z))
     rw [e] at hk; cases hk
   rw [this]; exact h
  ·rw [Nat.zero_testBit] at hk; cases hk
end Wd
set_option maxRecDepth 100000
set_option maxHeartbeats 4000000
namespace L2
open PySem PySem.Spec PyProof.Rows
section
variable {κ : Type} [DecidableEq κ]
end
section
variable {P : Program} {w : World} {H : Hp} {h : Heap} {a : Addr}
end
section
variable {X : Cx} {pins : List (Addr × Obj)} {σ : St} {H : Hp} {s : Shared} {a : Addr} {y v : V} {u r : Value} {o : Option V} {A : Around} {E : Value → Shared → Prop}
end
section
variable {X : Cx} {pins : List (Addr × Obj)} {σ : St} {H : Hp} {s : Shared} {a : Addr} {kvs : List (Key × V)} {k : Key} {u : Value} {A : Around} {E : Value → Shared → Prop}
end
section
variable {X : Cx} {o i e value : Expr} {pos pos' tpos : Pos} {td ty tv : TE}
end
section
variable {X : Cx} {pos : Pos}
end
section
variable {X : Cx} {pins : List (Addr × Obj)} {σ : St} {H : Hp} {s : Shared} {a : Addr} {y d : V} {u r : Value} {o : Option V} {A : Around} {E : Value → Shared → Prop}
end
section
variable {X : Cx} {o e f : Expr} {apos cpos : Pos} {td ty tx : TE}
end
section
variable {X : Cx} {pins : List (Addr × Obj)} {σ : St} {H : Hp} {s : Shared} {a : Addr} {kvs : List (Key × V)} {A : Around} {E : Value → Shared → Prop}
end
section
variable {X : Cx} {pins : List (Addr × Obj)} {σ : St} {H : Hp} {s : Shared} {a : Addr} {y : V} {u : Value} {A : Around} {E : Value → Shared → Prop}
end
end L2
namespace L2
open PySem PySem.Spec PyProof.Rows
section
variable {X : Cx}
end
section
variable {κ : Type} [DecidableEq κ]
end
end L2
set_option maxRecDepth 100000
set_option maxHeartbeats 4000000
namespace L2
open PySem PySem.Spec
@[irreducible] def PEi (X : Cx) (e : Expr) (t : TE) : Prop := PE X e t
@[irreducible] def PSi (X : Cx) (e : Stmt) (t : TS) : Prop := PS X e t
@[irreducible] def PLi (X : Cx) (l : List Stmt) (t : TS) : Prop := PSs X l t
end L2
namespace Wd
open PySem L2 Ow
end Wd
set_option maxRecDepth 100000
set_option maxHeartbeats 4000000
namespace Wd
open PySem L2 Ow
end Wd
set_option maxRecDepth 100000
set_option maxHeartbeats 4000000
namespace L2
open PySem PySem.Spec PyProof.Rows
theorem zmb {X : Cx} : OpR X (compareOp .IsNot) (fun x y H Q => ∃ a b : Bool, x = .bl a ∧ y = .bl b ∧ Q (.bl (a != b)) H) := by
 intro pins s σ H x y v u Q I rx ry h
 obtain ⟨a, b, rfl, rfl, q⟩ := h
 cases rx
 cases ry
 exact isnot_bool (zbb I q rfl)
end L2
namespace Wd
open PySem L2 Ow
inductive WT where
 | leaf (w : Str)
 | broken (t : Int)
 | split (k : Int) (a b : WT)
def WT.toD : WT → PyData
 | .leaf w => .tuple [.str w]
 | .broken t => .tuple [.str ("broken" : Str), .int t]
 | .split k a b => .tuple [.str ("split" : Str), .int k, a.toD, b.toD]
def WT.depth : WT → Nat
 | .leaf _ => 0
 | .broken _ => 0
 | .split _ a b => max a.depth b.depth + 1
def WT.good : WT → Prop
 | .leaf w => ¬ V.str w = V.str ("broken" : Str) ∧ ¬ V.str w = V.str ("split" : Str)
 | .broken _ => True
 | .split _ a b => a.good ∧ b.good
def CT.toW : CT → WT
 | .broken t => .broken (t : Int)
 | .ware => .leaf ("ware" : Str)
 | .split k a b => .split (k : Int) a.toW b.toW
theorem zod : ∀ t : CT, t.toW.toD = t.toD
 | .broken _ => rfl
 | .ware => rfl
 | .split k a b => by
  show PyData.tuple [.str ("split" : Str), .int (k : Int), a.toW.toD, b.toW.toD] = PyData.tuple [.str ("split" : Str), .int (k : Int), a.toD, b.toD]
  rw [zod a, zod b]
theorem zf1 : ∀ t : CT, t.toW.depth = t.depth
 | .broken _ => rfl
 | .ware => rfl
 | .split k a b => by
  show max a.toW.depth b.toW.depth + 1 = max a.depth b.depth + 1
  rw [zf1 a, zf1 b]
def brB (ts : List Tie) (t : Int) (y n : Nat) : Bool := decide (0 ≤ t) && (decide (t < (ts.length : Int)) && zgc ts t.toNat y n)
def isT (ts : List Tie) (m : Nat) (lf : Str → Nat → Nat → Bool) : WT → Nat → Nat → Bool
 | .broken t, y, n => brB ts t y n
 | .leaf w, y, n => lf w y n
 | .split k a b, y, n => if 0 ≤ k ∧ k.toNat ∈ zar m y n then isT ts m lf a (y ||| 2 ^ k.toNat) n && isT ts m lf b y (n ||| 2 ^ k.toNat) else false
def zcc (ts : List Tie) (m : Nat) (w : Str) (y n : Nat) : Bool := decide (V.str w = V.str ("ware" : Str)) && (decide (zar m y n = []) && zd3 ts y)
theorem zon (k : Int) (op : List Nat) : inV (.int k) (zav op) = decide (0 ≤ k ∧ k.toNat ∈ op) := by
 by_cases h : 0 ≤ k
 ·obtain ⟨j, rfl⟩ : ∃ j : Nat, k = (j : Int) := ⟨k.toNat, by omega⟩
  rw [zrd, Int.toNat_natCast]
  by_cases c : j ∈ op
  ·rw [decide_eq_true c, decide_eq_true ⟨h, c⟩]
  ·rw [decide_eq_false c, decide_eq_false fun z => c z.2]
 ·rw [decide_eq_false fun z => h z.1]
  cases e : inV (.int k) (zav op) with
  | false => rfl
  | true =>
   exfalso
   have : ∀ l : List Nat, inV (.int k) (zav l) = false := by
    intro l
    induction l with
    | nil => rfl
    | cons a r ih =>
     show (eqV (.int (a : Int)) (.int k) || inV (.int k) (zav r)) = false
     rw [ih, Bool.or_false]
     show ((a : Int) == k) = false
     simpa using fun z : (a : Int) = k => h (by omega)
   rw [this] at e
   cases e
def zr6 : Sp := fun vs H Q _ => ∃ (wd : Addr) (m : Nat) (ts : List Tie) (y n : Nat) (t : Int), vs = [.ref wd, .int y, .int n, .int t] ∧ WoodT H wd m ts ∧ ∀ H', Same H H' → Q (.bl (brB ts t y n)) H'
def zs6 : Sp := fun vs H Q _ => ∃ (wd : Addr) (m : Nat) (ts : List Tie) (w : Str) (y n : Nat), vs = [.ref wd, .str w, .int y, .int n] ∧ WoodT H wd m ts ∧ ∀ H', Same H H' → Q (.bl (zcc ts m w y n)) H'
def WT.wares : WT → Prop
 | .leaf w => w = ("ware" : Str)
 | .broken _ => True
 | .split _ a b => a.wares ∧ b.wares
theorem zf2 : ∀ t : CT, t.toW.wares
 | .broken _ => trivial
 | .ware => rfl
 | .split k a b => ⟨zf2 a, zf2 b⟩
theorem ztm : PyData.strOk ("ware" : Str) = true := by decide +kernel
theorem zs2 : PyData.strOk ("broken" : Str) = true := by decide +kernel
theorem ztn : PyData.strOk ("split" : Str) = true := by decide +kernel
theorem zfs {ts : List Tie} {m : Nat} (ok : ∀ t ∈ ts, t.Ok m) : ∀ (f y n : Nat), (zar m y n).length ≤ f → Stand m y n → y.testBit 0 = true → isT ts m (zcc ts m) (zba ts (zci ts) m f y n).toW y n = true
 | f, y, n, hf, S, y0 => by
  cases hb : za7 ts (zci ts) y n with
  | some t =>
   rw [zds hb]
   obtain ⟨h1, h2⟩ := zej hb
   have tl := List.mem_range.mp h1
   show brB ts (t : Int) y n = true
   unfold brB
   rw [decide_eq_true (by omega), decide_eq_true (by omega), Int.toNat_natCast, h2]
   rfl
  | none =>
   have nsb := zey hb
   cases ho : zar m y n with
   | nil =>
    rw [zfd hb ho]
    show zcc ts m ("ware" : Str) y n = true
    unfold zcc zd3
    rw [decide_eq_true rfl, decide_eq_true ho, y0, Bool.true_and, Bool.true_and, Bool.true_and, List.all_eq_true]
    intro t ht
    obtain ⟨i, hi, e⟩ := List.mem_iff_getElem.mp ht
    have hti : ts[i]? = some t := by rw [List.getElem?_eq_getElem hi, e]
    have kp := zhf ok S.dj ho (nsb i (List.mem_range.mpr hi))
    unfold zem at kp
    rw [hti] at kp
    exact kp
   | cons k r =>
    cases f with
    | zero => rw [ho] at hf; simp at hf
    | succ f =>
     have hk : k ∈ zar m y n := by rw [ho]; exact List.mem_cons_self
     have l1 := zcd hk
     have l2 := zca hk
     rw [zew hb ho]
     show isT ts m (zcc ts m) (.split (k : Int) (zba ts (zci ts) m f (y ||| 2 ^ k) n).toW (zba ts (zci ts) m f y (n ||| 2 ^ k)).toW) y n = true
     unfold isT
     rw [if_pos ⟨by omega, by rw [Int.toNat_natCast]; exact hk⟩, Int.toNat_natCast, zfs ok f _ _ (by omega) (S.one hk) (by rw [Nat.testBit_or, y0]; rfl), zfs ok f _ _ (by omega) (S.other hk) y0]
     rfl
end Wd
set_option maxRecDepth 100000
set_option maxHeartbeats 4000000
namespace Wd
open PySem L2 Ow
section
variable {t1 t2 : List Tie} {m f y n : Nat}
end
theorem ziq {ts : List Tie} {m : Nat} {lf : Str → Nat → Nat → Bool} {k : Int} {a b : WT} {y n : Nat} (h : isT ts m lf (.split k a b) y n = true) : 0 ≤ k ∧ k.toNat ∈ zar m y n ∧ isT ts m lf a (y ||| 2 ^ k.toNat) n = true ∧ isT ts m lf b y (n ||| 2 ^ k.toNat) = true := by
 unfold isT at h
 split at h
 ·next c => exact ⟨c.1, c.2, (Bool.and_eq_true_iff.mp h).1, (Bool.and_eq_true_iff.mp h).2⟩
 ·cases h
theorem zse {y n k s : Nat} (h : InS y n s) (b : s.testBit k = true) : InS (y ||| 2 ^ k) n s := ⟨fun j hj => by
 rw [Nat.testBit_or, Nat.testBit_two_pow, Bool.or_eq_true, decide_eq_true_eq] at hj
 rcases hj with hj | hj
 ·exact h.1 j hj
 ·rw [← hj]; exact b, h.2⟩
theorem zp8 {y n k s : Nat} (h : InS y n s) (b : s.testBit k = false) : InS y (n ||| 2 ^ k) s := ⟨h.1, fun j hj => by
 rw [Nat.testBit_or, Nat.testBit_two_pow, Bool.or_eq_true, decide_eq_true_eq] at hj
 rcases hj with hj | hj
 ·exact h.2 j hj
 ·rw [← hj]; exact b⟩
end Wd
set_option maxRecDepth 100000
set_option maxHeartbeats 4000000
namespace L2
open PySem PySem.Spec PyProof.Rows
end L2
namespace Wd
open PySem L2 Ow
theorem zo6 {l : List Nat} {i s : Nat} (h : l[i]? = some s) (g : Nat → Bool) : zav ((l.take (i + 1)).filter g) = zav ((l.take i).filter g) ++ (if g s = true then [.int (s : Int)] else []) := by
 rw [List.take_add_one, h, Option.toList_some, List.filter_append]
 unfold zav
 rw [List.map_append]
 cases e : g s
 ·rw [List.filter_cons_of_neg (by rw [e]; decide)]; rfl
 ·rw [List.filter_cons_of_pos e]; rfl
theorem zl1 {K : PySem.W.Frag} {a : Addr} {l : List Nat} {σ0 σr : St} {H : Hp} {tc : TT} {Q : VK} (gB : Nat → Bool) (h0 : σ0 = none :: σr) (ha : H a = some (.lst (zav l))) (few : l.length ≤ 1000)
  (ht : ∀ s ∈ l, ∀ H2, Same H H2 → ∀ R : Bool → Hp → Prop, (∀ H3, Same H H3 → R (gB s) H3) → tc (some (.int (s : Int)) :: σr) H2 R)
  (hd : ∀ H2 p, Same H H2 → H2 p = none → Q (.ref p) (upd H2 p (.lst (zav (l.filter gB))))) :
  zj1 (Itl K a) (zjs 0) tc (zo4 0) σ0 H Q := by
 refine zdp (K := K) (a := a) (xs := zav l) (fun i ys σ H2 => (∃ v, σ = v :: σr) ∧ Same H H2 ∧ ys = zav ((l.take i).filter gB)) ⟨⟨none, h0⟩, Same.refl _, rfl⟩ (fun i ys σ H2 hi pv => ?_) (fun i ys σ H2 hi pv => ?_) (fun i x ys σ H2 hx pv => ?_) (fun ys σ H2 pv p hp => ?_)
 ·obtain ⟨_, _, rfl⟩ := pv
  rw [List.length_map]
  refine small (Nat.le_trans (List.length_filter_le _ _) ?_)
  rw [List.length_take]
  omega
 ·exact SqL.of (pv.2.1 _ _ ha)
 ·obtain ⟨⟨v, rfl⟩, s2, rfl⟩ := pv
  rw [List.getElem?_map] at hx
  obtain ⟨s, hs, rfl⟩ := Option.map_eq_some_iff.mp hx
  refine ht s (List.mem_of_getElem? hs) H2 s2 _ fun H3 s3 => ?_
  have e := zo6 hs gB
  cases c : gB s
  ·refine zib ?_
   rw [c, if_neg (by decide), List.append_nil] at e
   exact ⟨⟨_, rfl⟩, s3, e.symm⟩
  ·refine zqb ?_
   rw [c, if_pos rfl] at e
   exact ⟨_, rfl, ⟨_, rfl⟩, s3, e.symm⟩
 ·obtain ⟨_, s2, rfl⟩ := pv
  have e : l.take (zav l).length = l := by rw [show (zav l).length = l.length from List.length_map _, List.take_length]
  rw [e]
  exact hd H2 p s2 hp
theorem zqe {n : Nat} {σ0 σr : St} {H : Hp} {tc : TT} {Q : VK} (gB : Nat → Bool) (h0 : σ0 = none :: σr) (few : n ≤ 1000)
  (ht : ∀ s, s < n → ∀ R : Bool → Hp → Prop, R (gB s) H → tc (some (.int (s : Int)) :: σr) H R)
  (hd : ∀ p, H p = none → Q (.ref p) (upd H p (.lst (zav ((List.range n).filter gB))))) :
  zj1 (Itr 0 n) (zjs 0) tc (zo4 0) σ0 H Q := by
 refine zcs (k := n) (fun i ys σ H2 => (∃ v, σ = v :: σr) ∧ H2 = H ∧ ys = zav ((List.range i).filter gB)) ⟨⟨none, h0⟩, rfl, rfl⟩ (fun i ys σ H2 hi pv => ?_) (fun i ys σ H2 hi pv => ?_) (fun ys σ H2 pv p hp => ?_)
 ·obtain ⟨_, _, rfl⟩ := pv
  rw [List.length_map]
  refine small (Nat.le_trans (List.length_filter_le _ _) ?_)
  rw [List.length_range]
  omega
 ·obtain ⟨⟨v, rfl⟩, rfl, rfl⟩ := pv
  refine ht i hi _ ?_
  have e : zav ((List.range (i + 1)).filter gB) = zav ((List.range i).filter gB) ++ (if gB i = true then [.int (i : Int)] else []) := by
   rw [List.range_succ, List.filter_append]
   unfold zav
   rw [List.map_append]
   cases c : gB i
   ·rw [List.filter_cons_of_neg (by rw [c]; decide)]; rfl
   ·rw [List.filter_cons_of_pos c]; rfl
  cases c : gB i
  ·refine zib ?_
   rw [c, if_neg (by decide), List.append_nil] at e
   exact ⟨⟨_, rfl⟩, rfl, e.symm⟩
  ·refine zqb ?_
   rw [c, if_pos rfl] at e
   exact ⟨_, rfl, ⟨_, rfl⟩, rfl, e.symm⟩
 ·obtain ⟨_, rfl, rfl⟩ := pv
  exact hd p hp
theorem zb5 {H H1 H2 : Hp} (a : zgz H H1) (b : zgz H1 H2) : zgz H H2 := fun c xs h => b c xs (a c xs h)
end Wd
set_option maxRecDepth 100000
set_option maxHeartbeats 4000000
namespace L2
open PySem PySem.Spec PyProof.Rows
section
variable {X : Cx} {pins : List (Addr × Obj)} {σ : St} {H H' : Hp} {s s' : Shared} {h2 : Heap}
end
section
variable {X : Cx} {pins : List (Addr × Obj)} {σ : St} {H H' : Hp} {s s' : Shared} {h2 : Heap}
end
end L2
set_option maxRecDepth 100000
set_option maxHeartbeats 4000000
namespace L2
open PySem PySem.Spec PyProof.Rows
section
variable {prog : Program} {w : World} {A : Around} {E : Value → Shared → Prop} {h : Heap} {g : Array GenState} {d : Drawn} {t : Nat} {os : OsState} {a D : Addr} {o : Obj} {K : PySem.W.Frag} {bD : List Value}
end
end L2
namespace Wd
open PySem L2 Ow
end Wd
set_option maxRecDepth 100000
set_option maxHeartbeats 4000000
namespace Wd
open PySem L2 Ow
end Wd
set_option maxRecDepth 100000
set_option maxHeartbeats 4000000
namespace L2
open PySem PySem.Spec PyProof.Rows
end L2
set_option maxRecDepth 100000
set_option maxHeartbeats 4000000
namespace L2
open PySem PySem.Spec PyProof.Rows
section
variable {X : Cx} {k : Nat} {f : Addr} {fd : FuncData} {ps : List Str} {x : Str} {p pos : Pos} {e : Expr} {es : List Expr} {t : TA}
end
end L2
set_option maxRecDepth 100000
set_option maxHeartbeats 4000000
namespace Wd
open PySem L2 Ow
end Wd
set_option maxRecDepth 100000
set_option maxHeartbeats 4000000
namespace Ow
open PySem
end Ow
namespace Wd
open PySem L2 Ow
theorem zj9 (H : Hp) : zgz H H := fun _ _ h => h
theorem zlw {H : Hp} {a : Addr} {o o' : HO} (h : H a = some o) (no : ∀ xs, o ≠ .tup xs) : zgz H (upd H a o') := fun b xs hb => by
 have n : b ≠ a := fun z => by
  rw [z, h] at hb
  exact no xs (Option.some.inj hb)
 rw [zap n]
 exact hb
end Wd
set_option maxRecDepth 100000
set_option maxHeartbeats 4000000
namespace L2
open PySem PySem.Spec PyProof.Rows
end L2
namespace Wd
open PySem L2 Ow
end Wd
set_option maxRecDepth 100000
set_option maxHeartbeats 4000000
namespace Wd
open PySem L2 Ow
end Wd
set_option maxRecDepth 100000
set_option maxHeartbeats 4000000
namespace L2
open PySem PySem.Spec PyProof.Rows
end L2
namespace Wd
open PySem L2 Ow
theorem Pen.same {K : PySem.W.Frag} {H H' : Hp} {pen sp : Addr} {ns : List Int} {k : Int} (p : Pen K H pen sp ns k) (s : Same H H') : Pen K H' pen sp ns k := p.to (Same.x s) (s _ _ p.at_)
end Wd
set_option maxRecDepth 100000
set_option maxHeartbeats 4000000
namespace Wd
open PySem L2 Ow
end Wd
set_option maxRecDepth 100000
set_option maxHeartbeats 4000000
namespace L2
open PySem PySem.Spec
theorem zu8 {X : Cx} {K : PySem.W.Frag} (h : X.K = K := by rfl) : zc6 X (.type "tuple") (fun xs H Q => ∃ p ys, xs = [V.ref p] ∧ ((SqL K H p ys ∧ ∀ l, H l = none → Q (.ref l) (upd H l (.tup ys))) ∨ SqT K H p ys ∧ Q (.ref p) H)) := h ▸ zcw
end L2
namespace Wd
open PySem L2 Ow
def zrs (K : PySem.W.Frag) : Sp := fun vs H Q _ => ∃ (pen sp : Addr) (ns : List Int) (tk : Addr) (u : Int) (kids : List Int) (m : Int) (k : Int), vs = [.ref pen, .int u, .ref tk] ∧ Pen K H pen sp ns k ∧ 0 ≤ k ∧ k ≤ 950000 ∧ H tk = some (.tup (kids.map V.int)) ∧ kids.length ≤ 9 ∧ 0 ≤ u ∧ kids ≠ [] ∧ zbg m (kids.map PyData.int) u = true ∧
 ∀ (d : PyData) (v : V) (k' : Int) (H' : Hp), SameX pen H H' → H' pen = some (.lst [.ref sp, .int k']) → k ≤ k' → k' ≤ k + 3 → Dn H' d v → zeq m d = true → zbe 3 d = true → zlc d = kids → Q v H'
def zms (K : PySem.W.Frag) : Sp := fun vs H Q _ => ∃ (pen sp : Addr) (ns : List Int) (m : Nat) (k : Int), vs = [.ref pen, .int (m : Int)] ∧ Pen K H pen sp ns k ∧ 0 ≤ k ∧ k ≤ 900000 ∧ 1 ≤ m ∧ m ≤ 9 ∧
 ∀ (c : PyData) (v : V) (k' : Int) (H' : Hp), SameX pen H H' → H' pen = some (.lst [.ref sp, .int k']) → k ≤ k' → k' ≤ k + 30 → Dn H' c v → zh2 m c = true → zbe 3 c = true → Q v H'
def zrm (K : PySem.W.Frag) : Sp := fun vs H Q _ => ∃ (pen sp : Addr) (ns : List Int) (m : Nat) (k : Int), vs = [.ref pen, .int (m : Int)] ∧ Pen K H pen sp ns k ∧ 0 ≤ k ∧ k ≤ 800000 ∧ 1 ≤ m ∧ m ≤ 9 ∧
 ∀ (c : PyData) (v : V) (k' : Int) (H' : Hp), SameX pen H H' → H' pen = some (.lst [.ref sp, .int k']) → k ≤ k' → k' ≤ k + 31 → Dn H' c v → zh2 m c = true → zbe 3 c = true → Q v H'
def ztp (K : PySem.W.Frag) : Sp := fun vs H Q _ => ∃ (pen sp : Addr) (ns : List Int) (k : Int), vs = [.ref pen] ∧ Pen K H pen sp ns k ∧ 0 ≤ k ∧ k ≤ 700000 ∧
 ∀ (wd : Addr) (m : Nat) (bs cs : List PyData) (k' : Int) (H' : Hp), SameX pen H H' → H' pen = some (.lst [.ref sp, .int k']) → k ≤ k' → k' ≤ k + 400 → 1 ≤ m → m ≤ 9 → WoodX H' wd m bs cs → cs.length ≤ 8 → Q (.ref wd) H'
def zul : Sp := fun vs H Q _ => ∃ (n k : Nat), vs = [.int (n : Int), .int (k : Int)] ∧ k ≤ 20 ∧ Q (.bl (n.testBit k)) H
theorem ztb (n k : Nat) : decide (V.int ((n : Int) / ((2 ^ k : Nat) : Int) % 2) = V.int 1) = n.testBit k := by
 have e : (n : Int) / ((2 ^ k : Nat) : Int) % 2 = ((n / 2 ^ k % 2 : Nat) : Int) := by
  rw [Int.natCast_emod, Int.natCast_ediv]
  rfl
 rw [e, Nat.testBit_eq_decide_div_mod_eq, Bool.eq_iff_iff, decide_eq_true_iff, decide_eq_true_iff]
 constructor
 ·intro h
  injection h with h
  omega
 ·intro h
  rw [h]
  rfl
theorem zqo {m : Nat} {top : Int} {ps : List PyData} (pok : ps.all zhr = true) (pri : zbg (m : Int) (ps.map zp5) (-1) = true) (p0 : 0 < ps.length) : zh2 m (.tuple [.str ("most" : Str), .int top, .tuple ps]) = true := by
 show zpg m ("most" : Str) (.int top) (.tuple ps) = true
 unfold zpg
 rw [if_pos rfl]
 show (true && (decide (0 < ps.length) && ps.all zhr && zbg m (ps.map zp5) (-1))) = true
 rw [decide_eq_true p0, pok, pri]
 rfl
theorem zpn {m : Nat} {top : Int} {ps : List PyData} (pfl : ps.all (zbe 1) = true) (pfw : ps.length ≤ 1000) : zbe 3 (.tuple [.str ("most" : Str), .int top, .tuple ps]) = true := by
 have f2 : zbe 2 (.tuple ps) = true := by
  show (decide (ps.length ≤ 1000) && ps.all (zbe 1)) = true
  rw [decide_eq_true pfw, pfl]
  rfl
 show (true && (zbe 2 (.str ("most" : Str)) && (zbe 2 (.int top) && (zbe 2 (.tuple ps) && true)))) = true
 rw [show zbe 2 (.str ("most" : Str)) = true from zny, f2]
 rfl
theorem _root_.Ow.PairsTo.snoc {H : Hp} {i : Nat} {ps : List PyData} {xs : List V} {tp : Addr} {x : Int} (pt : PairsTo H i ps xs) (h : H tp = some (.tup [.int (i : Int), .int x])) : PairsTo H (i + 1) (ps ++ [.tuple [.int (i : Int), .int x]]) (xs ++ [.ref tp]) := by
 refine ⟨?_, ?_, ?_, ?_, ?_⟩
 ·exact pt.dn.append ⟨_, [], rfl, ⟨tp, _, rfl, h, _, _, rfl, rfl, _, _, rfl, rfl, rfl⟩, rfl⟩
 ·rw [List.all_append, pt.ok]
  rfl
 ·rw [List.all_append, pt.flat]
  rfl
 ·rw [List.map_append]
  show zbg ((i + 1 : Nat) : Int) (ps.map zp5 ++ [.int (i : Int)]) (-1) = true
  exact zdo (by omega) pt.ris (by omega)
 ·rw [List.length_append, List.length_singleton]
  have := pt.few
  omega
theorem _root_.Ow.PairsTo.up {H : Hp} {i : Nat} {ps : List PyData} {xs : List V} (pt : PairsTo H i ps xs) : PairsTo H (i + 1) ps xs := ⟨pt.dn, pt.ok, pt.flat, zdr (by omega) pt.ris, Nat.le_succ_of_le pt.few⟩
theorem _root_.Ow.PairsTo.tupS {H H' : Hp} (t : zgz H H') {i : Nat} {ps : List PyData} {xs : List V} (pt : PairsTo H i ps xs) : PairsTo H' i ps xs := ⟨DnL.tupS t pt.flat pt.dn, pt.ok, pt.flat, pt.ris, pt.few⟩
theorem zpx {H : Hp} {m : Nat} {tp : Addr} {o x : Int} (o0 : 0 ≤ o) (o1 : o < m) (h : H tp = some (.tup [.int o, .int x])) : PairsTo H m [.tuple [.int o, .int x]] [.ref tp] := by
 refine ⟨⟨_, [], rfl, ⟨tp, _, rfl, h, _, _, rfl, rfl, _, _, rfl, rfl, rfl⟩, rfl⟩, rfl, rfl, ?_, by show 1 ≤ m; omega⟩
 have := zdo (m := (m : Int)) (j := o) o1 (ks := []) (u := -1) rfl (by omega)
 exact this
end Wd
set_option maxRecDepth 100000
set_option maxHeartbeats 4000000
namespace L2
open PySem PySem.Spec PyProof.Rows
section
variable {X : Cx}
theorem zh7 {s : Shared} {p : Addr} {its : List Value} (pl : s.heap.IsList p its.toArray) : p < s.heap.objs.size := by
 obtain ⟨o, e, _⟩ := pl
 exact Heap.lt_size e
end
end L2
set_option maxRecDepth 100000
set_option maxHeartbeats 4000000
namespace L2
open PySem PySem.Spec PyProof.Rows
end L2
set_option maxRecDepth 100000
set_option maxHeartbeats 4000000
namespace Wd
open PySem L2 Ow
end Wd
set_option maxRecDepth 100000
set_option maxHeartbeats 4000000
namespace Wd
open PySem L2 Ow
end Wd
set_option maxRecDepth 100000
set_option maxHeartbeats 4000000
namespace L2
open PySem PySem.Spec
end L2
namespace Wd
open PySem L2 Ow
end Wd
set_option maxRecDepth 100000
set_option maxHeartbeats 4000000
namespace Wd
open PySem L2 Ow
end Wd
set_option maxRecDepth 100000
set_option maxHeartbeats 4000000
namespace Wd
open PySem L2 Ow
end Wd
set_option maxRecDepth 100000
set_option maxHeartbeats 4000000
namespace Wd
open PySem L2 Ow
theorem zqz : ∀ {A B : List Nat}, A.Pairwise (· < ·) → B.Pairwise (· < ·) → (∀ x, x ∈ A ↔ x ∈ B) → A = B
 | [], [], _, _, _ => rfl
 | [], b :: r, _, _, h => nomatch (h b).mpr List.mem_cons_self
 | a :: r, [], _, _, h => nomatch (h a).mp List.mem_cons_self
 | a :: r, b :: r', pa, pb, h => by
  rw [List.pairwise_cons] at pa pb
  have e : a = b := by
   rcases List.mem_cons.mp ((h a).mp List.mem_cons_self) with z | z
   ·exact z
   ·rcases List.mem_cons.mp ((h b).mpr List.mem_cons_self) with y | y
    ·exact y.symm
    ·have := pa.1 b y
     have := pb.1 a z
     omega
  subst e
  congr 1
  refine zqz pa.2 pb.2 fun x => ⟨fun hx => ?_, fun hx => ?_⟩
  ·rcases List.mem_cons.mp ((h x).mp (List.mem_cons_of_mem _ hx)) with z | z
   ·have := pa.1 x hx; omega
   ·exact z
  ·rcases List.mem_cons.mp ((h x).mpr (List.mem_cons_of_mem _ hx)) with z | z
   ·have := pb.1 x hx; omega
   ·exact z
end Wd
set_option maxRecDepth 100000
set_option maxHeartbeats 4000000
namespace L2
open PySem PySem.Spec PyProof.Rows
end L2
namespace Wd
open PySem L2 Ow
def zf5 (n : Nat) : List Nat := (List.range (Builtin.Int.intBits (n : Int))).filter fun k => n.testBit k
theorem zsk {n k : Nat} (h : n.testBit k = true) : k < Builtin.Int.intBits (n : Int) := by
 rcases Nat.lt_or_ge k (Builtin.Int.intBits (n : Int)) with z | z
 ·exact z
 ·exfalso
  unfold Builtin.Int.intBits at z
  by_cases e : n = 0
  ·rw [e, Nat.zero_testBit] at h
   cases h
  ·rw [if_neg (by simpa using e)] at z
   have h1 : (n : Int).natAbs = n := Int.natAbs_natCast n
   rw [h1] at z
   have h2 := Nat.lt_log2_self (n := n)
   have p : 2 ^ (n.log2 + 1) ≤ 2 ^ k := Nat.pow_le_pow_right (by decide) z
   rw [Nat.testBit_lt_two_pow (by omega)] at h
   cases h
theorem zlv {n : Nat} (h : n < 512) : Builtin.Int.intBits (n : Int) ≤ 9 := by
 have : ∀ n : _root_.Fin 512, Builtin.Int.intBits ((n.val : Nat) : Int) ≤ 9 := by decide +kernel
 exact this ⟨n, h⟩
theorem mem_bitsL {n k : Nat} : k ∈ zf5 n ↔ n.testBit k = true := by
 unfold zf5
 rw [List.mem_filter, List.mem_range]
 exact ⟨fun h => h.2, fun h => ⟨zsk h, h⟩⟩
def zrg : Sp := fun vs H Q _ => ∃ n : Nat, vs = [.int (n : Int)] ∧ n < 512 ∧ ∀ (l : Addr) (H' : Hp), Same H H' → H l = none → H' l = some (.lst (zav (zf5 n))) → Q (.ref l) H'
end Wd
set_option maxRecDepth 100000
set_option maxHeartbeats 4000000
namespace L2
open PySem PySem.Spec PyProof.Rows
theorem zua {K : PySem.W.Frag} {a : Addr} {xs : List V} {σ0 : St} {H : Hp} {g : TG} {tc : TT} {te : TE} {Q : VK} (hq : H a = some (.tup xs) ∨ H a = some (.lst xs)) (Pv : Nat → List V → St → Hp → Prop) (h0 : Pv 0 [] σ0 H) (hz : ∀ i ys σ H, i ≤ xs.length → Pv i ys σ H → ys.length ≤ sizeLine)
  (hl : ∀ i ys σ H2, i ≤ xs.length → Pv i ys σ H2 → H2 a = H a)
  (hs : ∀ i x ys σ H, xs[i]? = some x → Pv i ys σ H → g x σ H fun σ3 H3 => tc σ3 H3 fun b H4 => if b = true then te σ3 H4 fun v H5 => Pv (i + 1) (ys ++ [v]) σ3 H5 else Pv (i + 1) ys σ3 H4)
  (hd : ∀ ys σ H, Pv xs.length ys σ H → ∀ p, H p = none → Q (.ref p) (upd H p (.lst ys))) :
  ((∃ xs, SqL K H a xs) ∧ zj1 (Itl K a) g tc te σ0 H Q) ∨ ((∃ xs, SqT K H a xs) ∧ zj1 (Itt K a) g tc te σ0 H Q) := by
 rcases hq with h | h
 ·exact .inr ⟨⟨_, Wd.sqT h⟩, zn1 Pv h0 hz (fun i ys σ H2 hi pv => Wd.sqT ((hl i ys σ H2 hi pv).trans h)) hs hd⟩
 ·exact .inl ⟨⟨_, SqL.of h⟩, zdp Pv h0 hz (fun i ys σ H2 hi pv => SqL.of ((hl i ys σ H2 hi pv).trans h)) hs hd⟩
end L2
namespace Wd
open PySem L2 Ow
def zrb (f : List (Nat × Int) → Nat → Nat → Int) : Sp := fun vs H Q _ => ∃ (q : Addr) (xs : List V) (ps : List (Nat × Int)) (y n : Nat), vs = [.ref q, .int y, .int n] ∧ (H q = some (.tup xs) ∨ H q = some (.lst xs)) ∧ DnL H (ps.map zg2) xs ∧ ps.length ≤ 1000 ∧ ∀ H', Same H H' → Q (.int (f ps y n)) H'
theorem zo3 {f : List (Nat × Int) → Nat → Nat → Int} {vs : List V} {H : Hp} {Q : VK} {E : XK} (h : zt0 f vs H Q E) : zrb f vs H Q E := by
 obtain ⟨q, xs, ps, y, n, e, hq, r⟩ := h
 exact ⟨q, xs, ps, y, n, e, .inl hq, r⟩
end Wd
set_option maxRecDepth 100000
set_option maxHeartbeats 4000000
namespace Wd
open PySem L2 Ow
def zlh (C : Hp → Prop) (R : Nat → Nat → Prop) (lf : Str → Nat → Nat → Bool) : Sp := fun vs H Q _ => ∃ (w : Str) (y n : Nat), vs = [.str w, .int y, .int n] ∧ (C H ∧ R y n) ∧ ∀ H', Same H H' → Q (.bl (lf w y n)) H'
def zht (f : Nat) (p : Addr) (C : Hp → Prop) (R : Nat → Nat → Prop) (m : Nat) (ts : List Tie) (lf : Str → Nat → Nat → Bool) : Sp := fun vs H Q _ => ∃ (wd : Addr) (y n : Nat) (t : WT) (v : V), vs = [.ref wd, .int y, .int n, v, .ref p] ∧ WoodT H wd m ts ∧ Dn H t.toD v ∧ t.good ∧ t.depth < f ∧ (C H ∧ R y n) ∧ ∀ H', Same H H' → Q (.bl (isT ts m lf t y n)) H'
end Wd
set_option maxRecDepth 100000
set_option maxHeartbeats 4000000
namespace L2
open PySem PySem.Spec PyProof.Rows
section
variable {prog : Program} {w : World} {A : Around} {E : Value → Shared → Prop} {s : Shared}
theorem zpy {a : Addr} {Q : Option Obj → Shared → Prop} (q : Q (s.heap.get? a) s) : wpAny (model prog w) A (loadIfAlive a) Q E s := by
 intro Γ p _
 unfold loadIfAlive
 rw [Sem.wp_loadIfAlive, Sem.wp_pure]
 exact q
def zkm (h : Heap) (e it : Addr) (i : Int) : Prop := ∃ (z : Value) (f : Bool) (y : Value), (z = .none ∨ ∃ c : Nat, z = rawInt c) ∧
 h.get? e = some { cls := .type "enumerate", dict := none, data := .fields #[z, .bool f, .ref it, rawInt i, .none, y], slots := #[] }
theorem zjy {e it l : Addr} {i : Nat} {its : Array Value} {x : Value} {Q : Value → Shared → Prop}
  (he0 : zkm s.heap e it i) (hi : s.heap.IsListIter it l i) (hl : s.heap.IsList l its) (hx : its[i]? = some x) (ne : e ≠ it)
  (q : ∀ h', zkm h' e it ((i : Int) + 1) → h'.IsListIter it l (i + 1) → h'.get? s.heap.objs.size = some { cls := .type "tuple", data := .seq #[.int i s.toks, x] } → h'.objs.size = s.heap.objs.size + 1 →
   (∀ b o, b ≠ e → b ≠ it → s.heap.get? b = some o → h'.get? b = some o) → Q (.ref s.heap.objs.size) { s with heap := h', toks := s.toks + 1 }) :
  wpAny (model prog w) A (Builtin.«enumerate.__next__» ⟨[.ref e], []⟩) (fun r s' => ∃ v, r = .done (.ret v) ∧ Q v s') E s := by
 obtain ⟨hp, g, d, tk, os⟩ := s
 obtain ⟨z, f, y, hz, he⟩ := he0
 show wpAny _ _ (field (.ref e) 2 >>= _) _ _ _
 refine wpAny_bind (wpAny_field he rfl (x := .ref it) rfl ?_)
 refine wpAny_bind (wpAny_nextOf_list_item hi hl hx fun k1 hi1 t1 => ?_)
 have t1' : Heap.SameBut it hp k1 := t1
 have e1 := (t1'.2 e ne).trans he
 show wpAny _ _ (field (.ref e) 3 >>= _) _ _ ⟨k1, g, d, tk, os⟩
 refine wpAny_bind (wpAny_field e1 rfl (x := rawInt i) rfl ?_)
 show wpAny _ _ (field (.ref e) 4 >>= _) _ _ ⟨k1, g, d, tk, os⟩
 refine wpAny_bind (wpAny_field e1 rfl (x := .none) rfl ?_)
 show wpAny _ _ (mkInt i >>= _) _ _ ⟨k1, g, d, tk, os⟩
 refine wpAny_bind (wpAny_mkInt ?_)
 show wpAny _ _ (setField (.ref e) 3 (rawInt ((i : Int) + 1)) >>= _) _ _ ⟨k1, g, d, tk + 1, os⟩
 refine wpAny_bind (wpAny_setField_rec e1 (by simp) fun k2 e2 t2 => ?_)
 have t2' : Heap.SameBut e k1 k2 := t2
 show wpAny _ _ (setField (.ref e) 4 .none >>= _) _ _ ⟨k2, g, d, tk + 1, os⟩
 refine wpAny_bind (wpAny_setField_rec e2 (by simp) fun k3 e3 t3 => ?_)
 have t3' : Heap.SameBut e k2 k3 := t3
 have e3' : k3.get? e = some { cls := .type "enumerate", dict := none, data := .fields #[z, .bool f, .ref it, rawInt ((i : Int) + 1), .none, y], slots := #[] } := e3
 show wpAny _ _ (newTuple [.int i tk, x] >>= _) _ _ ⟨k3, g, d, tk + 1, os⟩
 refine wpAny_bind (wpAny_newTuple ?_)
 have sz : k3.objs.size = hp.objs.size := by rw [t3'.1, t2'.1, t1'.1]
 obtain ⟨k4, ek4⟩ : ∃ k4, k4 = k3.push { cls := .type "tuple", data := .seq #[.int i tk, x] } := ⟨_, rfl⟩
 have e4 : k4.get? e = some { cls := .type "enumerate", dict := none, data := .fields #[z, .bool f, .ref it, rawInt ((i : Int) + 1), .none, y], slots := #[] } := by rw [ek4]; exact Heap.get?_push_of_some _ e3'
 have u4 : k4.get? hp.objs.size = some { cls := .type "tuple", data := .seq #[.int i tk, x] } := by rw [ek4, ← sz]; exact Heap.get?_push_size _ rfl
 have z4 : k4.objs.size = hp.objs.size + 1 := by rw [ek4, Heap.size_push, sz]
 have keep : ∀ b o, b ≠ e → b ≠ it → hp.get? b = some o → k4.get? b = some o := fun b o n1 n2 hb => by
  rw [ek4]
  exact Heap.get?_push_of_some _ (t3'.extBut b o n1 (t2'.extBut b o n1 (t1'.extBut b o n2 hb)))
 have i4 : k4.IsListIter it l (i + 1) := by
  obtain ⟨o, ho, r⟩ := (hi1.extBut t2'.extBut (Ne.symm ne)).extBut t3'.extBut (Ne.symm ne)
  rw [ek4]
  exact ⟨o, Heap.get?_push_of_some _ ho, r⟩
 have el : e < hp.objs.size := Heap.lt_size he
 have enx : e ≠ hp.objs.size := Nat.ne_of_lt el
 show wpAny _ _ (Builtin.SmallTypes.ownedTupleIsFree (.ref e) >>= _) _ _ ⟨k3.push _, g, d, tk + 1, os⟩
 rw [← ek4, sz]
 clear ek4 e3 e3' e2 e1 t3 t2 t1 t3' t2' t1' hi1 sz k3 k2 k1
 have free : wpAny (model prog w) A (do rule "enumerate.__next__.owned-tuple-again"; let old ← field (.ref e) 5; setField (.ref e) 5 x; Builtin.SmallTypes.ownedTupleHandOut (.ref e) (.ref hp.objs.size); letGo [old] [.ref hp.objs.size]; ret (.ref hp.objs.size)) (fun r s' => ∃ v, r = .done (.ret v) ∧ Q v s') E ⟨k4, g, d, tk + 1, os⟩ := by
  refine wpAny_bind (wpAny_rule ?_)
  refine wpAny_bind (wpAny_field e4 rfl (x := y) rfl ?_)
  refine wpAny_bind (wpAny_setField_rec e4 (by simp) fun k5 e5 t5 => ?_)
  have t5' : Heap.SameBut e k4 k5 := t5
  refine wpAny_bind ?_
  unfold Builtin.SmallTypes.ownedTupleHandOut
  refine wpAny_bind (wpAny_setField_rec e5 (by simp) fun k6 e6 t6 => ?_)
  have t6' : Heap.SameBut e k5 k6 := t6
  refine wpAny_setField_rec e6 (by simp) fun k7 e7 t7 => ?_
  have t7' : Heap.SameBut e k6 k7 := t7
  refine wpAny_bind (wpAny_letGo (wpAny_pure ⟨_, rfl, q k7 ⟨_, _, _, .inr ⟨hp.objs.size, rfl⟩, e7⟩ ?_ ?_ ?_ ?_⟩))
  ·exact ((i4.extBut t5'.extBut (Ne.symm ne)).extBut t6'.extBut (Ne.symm ne)).extBut t7'.extBut (Ne.symm ne)
  ·exact t7'.extBut _ _ (Ne.symm enx) (t6'.extBut _ _ (Ne.symm enx) (t5'.extBut _ _ (Ne.symm enx) u4))
  ·rw [t7'.1, t6'.1, t5'.1, z4]
  ·exact fun b o n1 n2 hb => t7'.extBut b o n1 (t6'.extBut b o n1 (t5'.extBut b o n1 (keep b o n1 n2 hb)))
 refine wpAny_bind ?_
 unfold Builtin.SmallTypes.ownedTupleIsFree
 rcases hz with rfl | ⟨c, rfl⟩
 ·refine wpAny_bind (wpAny_field e4 rfl (x := .none) rfl (wpAny_pure ?_))
  exact free
 ·refine wpAny_bind (wpAny_field e4 rfl (x := rawInt (c : Nat)) rfl ?_)
  refine wpAny_bind (zpy ?_)
  rw [show ((c : Nat) : Int).toNat = c from Int.toNat_natCast c]
  cases hc : k4.get? c with
  | none => exact wpAny_pure free
  | some oc =>
   show wpAny _ _ (if (some oc).isNone = true then _ else _) _ _ _
   rw [if_neg (show ¬ ((some oc).isNone = true) from Bool.false_ne_true)]
   refine wpAny_bind (wpAny_field e4 rfl (x := .bool f) rfl ?_)
   cases f with
   | true =>
    refine wpAny_bind (wpAny_pure (wpAny_pure ?_))
    exact wpAny_pure ⟨_, rfl, q k4 ⟨_, _, _, .inr ⟨c, rfl⟩, e4⟩ i4 u4 z4 keep⟩
   | false =>
    refine wpAny_bind (wpAny_setField_rec e4 (by simp) fun k5 e5 t5 => wpAny_pure ?_)
    have t5' : Heap.SameBut e k4 k5 := t5
    refine wpAny_pure ⟨_, rfl, q k5 ⟨_, _, _, .inr ⟨c, rfl⟩, e5⟩ (i4.extBut t5'.extBut (Ne.symm ne)) (t5'.extBut _ _ (Ne.symm enx) u4) (by rw [t5'.1, z4]) fun b o n1 n2 hb => t5'.extBut b o n1 (keep b o n1 n2 hb)⟩
theorem zma {e it l : Addr} {i : Nat} {its : Array Value} {x : Value} {Q : Option Value → Shared → Prop}
  (he : zkm s.heap e it i) (hi : s.heap.IsListIter it l i) (hl : s.heap.IsList l its) (hx : its[i]? = some x) (ne : e ≠ it)
  (q : ∀ h', zkm h' e it ((i : Int) + 1) → h'.IsListIter it l (i + 1) → h'.get? s.heap.objs.size = some { cls := .type "tuple", data := .seq #[.int i s.toks, x] } → h'.objs.size = s.heap.objs.size + 1 →
   (∀ b o, b ≠ e → b ≠ it → s.heap.get? b = some o → h'.get? b = some o) → Q (some (.ref s.heap.objs.size)) { s with heap := h', toks := s.toks + 1 }) :
  wpAny (model prog w) A (pyNext (.ref e)) Q E s := by
 have ty : s.TypeIs (.ref e) "enumerate" := by
  obtain ⟨_, _, _, _, z⟩ := he
  exact ⟨_, z, rfl⟩
 unfold pyNext
 refine wpAny_bind (wpAny_attempt (wpAny_callSpecial?_slot (name := Str.ofString "__next__") ty F.slot_enumerate_next (wpAny_call_entry F.slot_enumerate_next ty F.entry_enumerate_next ?_ (F.args_enumerate_next_1 _))))
 exact zjy he hi hl hx ne fun h' a b c d k => wpAny_pure (q h' a b c d k)
theorem zhj {e it l : Addr} {i : Nat} {its : Array Value} {Q : Option Value → Shared → Prop} (hh : A.handled = none)
  (he : zkm s.heap e it i) (hi : s.heap.IsListIter it l i) (hl : s.heap.IsList l its) (hx : its[i]? = none)
  (q : ∀ h', Heap.ExtBut it s.heap h' → Q none { s with heap := h' }) : wpAny (model prog w) A (pyNext (.ref e)) Q E s := by
 obtain ⟨_, _, _, _, z⟩ := he
 have ty : s.TypeIs (.ref e) "enumerate" := ⟨_, z, rfl⟩
 unfold pyNext
 refine wpAny_bind (wpAny_attempt (wpAny_callSpecial?_slot (name := Str.ofString "__next__") ty F.slot_enumerate_next (wpAny_call_entry F.slot_enumerate_next ty F.entry_enumerate_next ?_ (F.args_enumerate_next_1 _))))
 show wpAny _ _ (field (.ref e) 2 >>= _) _ _ _
 refine wpAny_bind (wpAny_field z rfl (x := .ref it) rfl ?_)
 refine wpAny_bind (wpAny_nextOf_list_end hh hi hl hx fun h' v hv hs => ?_)
 obtain ⟨o, ho, hc⟩ := hs
 exact wpAny_bind (wpAny_isInstance (T := "StopIteration") (b := true) ⟨o, ho, hc⟩ isSubtype_stop (wpAny_pure (q _ hv)))
def zm2 (lo : Nat) (h : Heap) (its acc : Array Value) (i : Nat) : Prop := acc.size = i ∧ ∀ j, j < i → ∃ (T : Addr) (tk : Tok) (x : Value), acc[j]? = some (.ref T) ∧ its[j]? = some x ∧ lo ≤ T ∧ h.get? T = some { cls := .type "tuple", data := .seq #[.int j tk, x] }
end
section
variable {prog : Program} {w : World} {A : Around} {s : Shared} {R : Result → Shared → Prop}
theorem zjc {h : Heap} {a b : Addr} {o o' : Obj} (ha : h.get? a = some o) (hb : h.get? b = some o') (n : o.cls ≠ o'.cls) : a ≠ b := fun z => by
 rw [z, hb] at ha
 injection ha with ha
 exact n (by rw [ha])
theorem zpe {lo : Nat} {S e it l : Addr} {its : Array Value} (hh : A.in1.handled = none) (fit : its.size ≤ sizeLine) (nei : e ≠ it) (nSe : S ≠ e) (nSi : S ≠ it) (nSl : S ≠ l) (nle : l ≠ e) (nli : l ≠ it) (res : Value) :
  ∀ (k i : Nat) (s : Shared) (acc : Array Value) (c : Nat), its.size - i = k → i ≤ its.size → zkm s.heap e it i → s.heap.IsListIter it l i → s.heap.IsList l its →
   s.heap.get? S = some { cls := .type "list", dict := none, data := .seq acc c, slots := #[] } → lo ≤ s.heap.objs.size → zm2 lo s.heap its acc i →
   (∀ h' tk acc' c', h'.get? S = some { cls := .type "list", dict := none, data := .seq acc' c', slots := #[] } → zm2 lo h' its acc' its.size → (∀ b o, b ≠ S → b ≠ e → b ≠ it → s.heap.get? b = some o → h'.get? b = some o) → R (.ok (.ret res)) { s with heap := h', toks := tk }) →
   codeAny (model prog w) A (.builtin "list.extend.loop" ⟨[.ref S, .ref e, res], []⟩) R s := by
 intro k
 induction k with
 | zero =>
  intro i s acc c hk hi he hit hl hS hlo out q
  obtain rfl : i = its.size := by omega
  refine codeAny_builtin F.entry_extend_loop ?_
  rw [Around.under_plainId F.plain_extend_loop _]
  show wpAny _ A.in1 (pyNext (.ref e) >>= _) _ _ s
  refine wpAny_bind (zhj hh he hit hl (Array.getElem?_eq_none (Nat.le_refl _)) fun h' x => wpAny_pure ?_)
  have hitc : ∃ o, s.heap.get? it = some o ∧ o.cls = .type "list_iterator" := by
   obtain ⟨o, ho, hc, _⟩ := hit
   exact ⟨o, ho, hc⟩
  obtain ⟨oi, hoi, hci⟩ := hitc
  refine q h' s.toks acc c (x S _ nSi hS) ⟨out.1, fun j hj => ?_⟩ fun b o n1 n2 n3 hb => x b o n3 hb
  obtain ⟨T, t, y, a1, a2, a0, a3⟩ := out.2 j hj
  exact ⟨T, t, y, a1, a2, a0, x T _ (zjc a3 hoi (by rw [hci]; show (.type "tuple" : Value) ≠ .type "list_iterator"; decide)) a3⟩
 | succ k ih =>
  intro i s acc c hk hi he hit hl hS hlo out q
  have hlt : i < its.size := by omega
  have hx : its[i]? = some its[i] := Array.getElem?_eq_getElem hlt
  refine codeAny_builtin F.entry_extend_loop ?_
  rw [Around.under_plainId F.plain_extend_loop _]
  show wpAny _ A.in1 (pyNext (.ref e) >>= _) _ _ s
  refine wpAny_bind (zma he hit hl hx nei fun h' he' hit' hT hz keep => ?_)
  have hS' := keep S _ nSe nSi hS
  have hitc : ∃ o, s.heap.get? it = some o ∧ o.cls = .type "list_iterator" := by
   obtain ⟨o, ho, hc, _⟩ := hit
   exact ⟨o, ho, hc⟩
  obtain ⟨oi, hoi, hci⟩ := hitc
  have hec : ∃ o, s.heap.get? e = some o ∧ o.cls = .type "enumerate" := by
   obtain ⟨_, _, _, _, z⟩ := he
   exact ⟨_, z, rfl⟩
  obtain ⟨oe, hoe, hce⟩ := hec
  have hSl : S < s.heap.objs.size := Heap.lt_size hS
  show wpAny _ A.in1 (updateSeq S (·.push (.ref s.heap.objs.size)) >>= _) _ _ _
  refine wpAny_bind ?_
  have oth : ∀ b o, b ≠ S → h'.get? b = some o → (h'.update S (Obj.mapSeq (·.push (.ref s.heap.objs.size)))).get? b = some o := fun b o n hb => (Heap.get?_update_other _ _ (Ne.symm n)).trans hb
  refine wpAny_updateSeq hS' rfl (wpAny_pure ⟨plainId_quiet F.plain_extend_loop _, ih (i + 1) _ (acc.push (.ref s.heap.objs.size)) _ (by omega) hlt ?_ ?_ ?_ (Heap.get?_update_self _ hS' rfl) (by show lo ≤ (h'.update S _).objs.size; rw [(Heap.SameBut.update ..).1, hz]; exact Nat.le_succ_of_le hlo) ?_ fun h'' tk acc' c' hS'' out' k' => ?_⟩) (by rw [out.1]; omega) (by show (acc.push _).size ≤ sizeLine + 1; rw [Array.size_push, out.1]; omega)
  ·obtain ⟨z, f, y, hz', a⟩ := he'
   exact ⟨z, f, y, hz', oth e _ (Ne.symm nSe) a⟩
  ·exact hit'.at fun o a => oth it o (Ne.symm nSi) a
  ·exact hl.at fun o a => oth l o (Ne.symm nSl) (keep l o nle nli a)
  ·refine ⟨by rw [Array.size_push, out.1], fun j hj => ?_⟩
   by_cases z : j < i
   ·obtain ⟨T, t, y, a1, a2, a0, a3⟩ := out.2 j z
    refine ⟨T, t, y, ?_, a2, a0, oth T _ (zjc a3 hS (by show (.type "tuple" : Value) ≠ .type "list"; decide)) (keep T _ (zjc a3 hoe (by rw [hce]; show (.type "tuple" : Value) ≠ .type "enumerate"; decide)) (zjc a3 hoi (by rw [hci]; show (.type "tuple" : Value) ≠ .type "list_iterator"; decide)) a3)⟩
    rw [Array.getElem?_push_lt (by rw [out.1]; exact z)]
    rw [Array.getElem?_eq_getElem (by rw [out.1]; exact z)] at a1
    exact a1
   ·obtain rfl : j = i := by omega
    refine ⟨s.heap.objs.size, s.toks, its[j], ?_, hx, hlo, oth _ _ (Nat.ne_of_gt hSl) hT⟩
    rw [← out.1, Array.getElem?_push_size]
  ·exact q h'' tk acc' c' hS'' out' fun b o n1 n2 n3 hb => k' b o n1 n2 n3 (oth b o n1 (keep b o n2 n3 hb))
theorem znu : typeLookup (.type "enumerate") "__len__" = pure none := by rw [typeLookup_type, builtinLookup_eq_fast]; kernel_rfl
theorem zmw : typeLookup (.type "enumerate") "__length_hint__" = pure none := by rw [typeLookup_type, builtinLookup_eq_fast]; kernel_rfl
theorem zm0 {lo : Nat} {S e it l : Addr} {its : Array Value} {c0 : Nat} (res : Value) (hh : A.in1.handled = none) (fit : its.size ≤ sizeLine) (hlo0 : lo ≤ s.heap.objs.size) (nei : e ≠ it) (nSe : S ≠ e) (nSi : S ≠ it) (nSl : S ≠ l) (nle : l ≠ e) (nli : l ≠ it)
  (he : IsEnum s.heap e it 0 .none) (hit : s.heap.IsListIter it l 0) (hl : s.heap.IsList l its) (hS : s.heap.get? S = some { cls := .type "list", data := .seq #[] c0 })
  (q : ∀ h' tk acc' c', h'.get? S = some { cls := .type "list", dict := none, data := .seq acc' c', slots := #[] } → zm2 lo h' its acc' its.size → (∀ b o, b ≠ S → b ≠ e → b ≠ it → s.heap.get? b = some o → h'.get? b = some o) → R (.ok (.ret res)) { s with heap := h', toks := tk }) :
  wpAny (model prog w) A.in1 (Builtin.List.listExtendWith (.ref S) (.ref e) res)
   (fun fin s' => match fin with | .done f => R (.ok f) s' | .again c' => c'.quiet = true ∧ codeAny (model prog w) A c' R s') (fun e s' => R (.error e) s') s := by
 have ty : s.TypeIs (.ref e) "enumerate" := ⟨_, he, rfl⟩
 unfold Builtin.List.listExtendWith
 refine wpAny_bind (wpAny_typeOf ty ?_)
 have n1 : Builtin.List.listSameRef (.ref S) (.ref e) = false := by simp [Builtin.List.listSameRef, nSe]
 have n2 : (Value.type "enumerate" == Value.type "list") = false := by decide
 have n3 : (Value.type "enumerate" == Value.type "tuple") = false := by decide
 simp only [n1, n2, n3, Bool.or_false, Bool.false_eq_true, if_false]
 refine wpAny_bind (wpAny_pyIter_enum he ?_)
 refine wpAny_bind (wpAny_holding ?_)
 unfold Builtin.List.listLengthHint
 refine wpAny_bind (wpAny_specialOf ty znu ?_)
 show wpAny _ A.in1 (specialOf (Value.ref e) (Str.ofString "__length_hint__") >>= _) _ _ _
 refine wpAny_bind (wpAny_specialOf ty zmw (wpAny_pure ?_))
 show wpAny _ A.in1 (rule "list.extend.makes-room" >>= fun _ => Builtin.List.listTouch (.ref S) >>= fun _ => again (.builtin "list.extend.loop" ⟨[.ref S, .ref e, res], []⟩)) _ _ _
 refine wpAny_bind (wpAny_rule (wpAny_bind ?_))
 show wpAny _ A.in1 (updateSeq S (·.push .none) >>= fun _ => updateSeq S (·.pop)) _ _ _
 refine wpAny_bind (wpAny_updateSeq hS rfl ?_)
 have hS2 := Heap.get?_update_self (Obj.mapSeq (·.push Value.none)) hS rfl
 refine wpAny_updateSeq (hz := by seq_fits) hS2 rfl ?_
 have hS3 := Heap.get?_update_self (Obj.mapSeq (·.pop)) hS2 rfl
 have oth : ∀ b o, b ≠ S → s.heap.get? b = some o → ((s.heap.update S (Obj.mapSeq (·.push Value.none))).update S (Obj.mapSeq (·.pop))).get? b = some o := fun b o n hb => (Heap.get?_update_other _ _ (Ne.symm n)).trans ((Heap.get?_update_other _ _ (Ne.symm n)).trans hb)
 refine wpAny_pure ⟨plainId_quiet F.plain_extend_loop _, zpe hh fit nei nSe nSi nSl nle nli res its.size 0 _ _ _ (by omega) (Nat.zero_le _) ⟨_, _, _, .inl rfl, oth e _ (Ne.symm nSe) he⟩ (hit.at fun o a => oth it o (Ne.symm nSi) a) (hl.at fun o a => oth l o (Ne.symm nSl) a) hS3 (by show lo ≤ ((s.heap.update S _).update S _).objs.size; rw [(Heap.SameBut.update ..).1, (Heap.SameBut.update ..).1]; exact hlo0) ⟨rfl, fun j hj => absurd hj (Nat.not_lt_zero _)⟩ fun h' tk acc' c' g1 g2 g3 => ?_⟩
 exact q h' tk acc' c' g1 g2 fun b o m1 m2 m3 hb => g3 b o m1 m2 m3 (oth b o m1 hb)
theorem zqc {lo : Nat} {S e it l : Addr} {its : Array Value} (hh : A.in1.handled = none) (fit : its.size ≤ sizeLine) (hlo0 : lo ≤ s.heap.objs.size) (nei : e ≠ it) (nSe : S ≠ e) (nSi : S ≠ it) (nSl : S ≠ l) (nle : l ≠ e) (nli : l ≠ it)
  (he : IsEnum s.heap e it 0 .none) (hit : s.heap.IsListIter it l 0) (hl : s.heap.IsList l its) (hS : s.heap.get? S = some { cls := .type "list", data := .seq #[] })
  (q : ∀ h' tk acc' c', h'.get? S = some { cls := .type "list", dict := none, data := .seq acc' c', slots := #[] } → zm2 lo h' its acc' its.size → (∀ b o, b ≠ S → b ≠ e → b ≠ it → s.heap.get? b = some o → h'.get? b = some o) → R (.ok (.ret .none)) { s with heap := h', toks := tk }) :
  wpAny (model prog w) A.in1 (Builtin.«list.__init__» ⟨[.ref S, .ref e], []⟩)
   (fun fin s' => match fin with | .done f => R (.ok f) s' | .again c' => c'.quiet = true ∧ codeAny (model prog w) A c' R s') (fun e s' => R (.error e) s') s := by
 show wpAny _ A.in1 (do let old ← Builtin.List.listItems (.ref S); Builtin.List.listUpdate (.ref S) (fun _ => #[]); letGo old.toList.reverse; Builtin.List.listExtendWith (.ref S) (.ref e) .none) _ _ s
 refine wpAny_bind ?_
 unfold Builtin.List.listItems
 refine wpAny_bind (wpAny_seqItems hS rfl (wpAny_pure ?_))
 show wpAny _ A.in1 (updateSeq S (fun _ => #[]) >>= fun _ => letGo (#[] : Array Value).toList.reverse >>= fun _ => Builtin.List.listExtendWith (.ref S) (.ref e) .none) _ _ s
 refine wpAny_bind (wpAny_updateSeq hS rfl ?_)
 have hS2 := Heap.get?_update_self (Obj.mapSeq (fun _ => (#[] : Array Value))) hS rfl
 have oth : ∀ b o, b ≠ S → s.heap.get? b = some o → (s.heap.update S (Obj.mapSeq (fun _ => (#[] : Array Value)))).get? b = some o := fun b o n hb => (Heap.get?_update_other _ _ (Ne.symm n)).trans hb
 refine wpAny_bind (wpAny_letGo ?_)
 exact zm0 .none hh fit (by show lo ≤ (s.heap.update S _).objs.size; rw [(Heap.SameBut.update ..).1]; exact hlo0) nei nSe nSi nSl nle nli (oth e _ (Ne.symm nSe) he) (hit.at fun o a => oth it o (Ne.symm nSi) a) (hl.at fun o a => oth l o (Ne.symm nSl) a) hS2 fun h' tk acc' c' g1 g2 g3 => q h' tk acc' c' g1 g2 fun b o m1 m2 m3 hb => g3 b o m1 m2 m3 (oth b o m1 hb)
end
section
variable {prog : Program} {w : World} {A : Around} {E : Value → Shared → Prop} {s : Shared}
theorem zjn {lo : Nat} {e it l : Addr} {its : Array Value} {Q : Value → Shared → Prop} (hh : A.in1.in1.handled = none) (fit : its.size ≤ sizeLine) (hlo0 : lo ≤ s.heap.objs.size) (nei : e ≠ it) (nle : l ≠ e) (nli : l ≠ it)
  (he : IsEnum s.heap e it 0 .none) (hit : s.heap.IsListIter it l 0) (hl : s.heap.IsList l its)
  (q : ∀ h' tk acc' c', h'.get? s.heap.objs.size = some { cls := .type "list", dict := none, data := .seq acc' c', slots := #[] } → zm2 lo h' its acc' its.size → (∀ b o, b ≠ e → b ≠ it → s.heap.get? b = some o → h'.get? b = some o) → Q (.ref s.heap.objs.size) { s with heap := h', toks := tk }) :
  wpAny (model prog w) A (call (.type "list") [.ref e]) Q E s := by
 have le : e < s.heap.objs.size := Heap.lt_size he
 have lit : it < s.heap.objs.size := by obtain ⟨_, z, _⟩ := hit; exact Heap.lt_size z
 have ll : l < s.heap.objs.size := by obtain ⟨_, z, _⟩ := hl; exact Heap.lt_size z
 refine callType_codes (Q₁ := fun obj s1 => obj = .ref s.heap.objs.size ∧ s1 = { s with heap := s.heap.push { cls := .type "list", data := .seq #[] } }) F.called_list (F.typeCall_list_1 _) F.entry_list_init (code_list_new _ ⟨rfl, rfl⟩) fun obj s1 h1 => ?_
 obtain ⟨rfl, rfl⟩ := h1
 have hS : (s.heap.push { cls := .type "list", data := .seq #[] }).get? s.heap.objs.size = some { cls := .type "list", data := .seq #[] } := Heap.get?_push_size _ rfl
 refine ⟨⟨_, hS, rfl⟩, F.args_list_init_2 _ _, zqc hh fit (by show lo ≤ (s.heap.push _).objs.size; rw [Heap.size_push]; exact Nat.le_succ_of_le hlo0) nei (Nat.ne_of_gt le) (Nat.ne_of_gt lit) (Nat.ne_of_gt ll) nle nli (Heap.get?_push_of_some _ he) (hit.at fun o a => Heap.get?_push_of_some _ a) (hl.at fun o a => Heap.get?_push_of_some _ a) hS fun h' tk acc' c' g1 g2 g3 => ?_⟩
 exact ⟨rfl, q h' tk acc' c' g1 g2 fun b o m1 m2 hb => g3 b o (Nat.ne_of_lt (Heap.lt_size hb)) m1 m2 (Heap.get?_push_of_some _ hb)⟩
end
section
variable {X : Cx} {pins : List (Addr × Obj)} {σ : List (Option V)} {H H' : Hp} {s : Shared} {h' : Heap}
theorem Inv.many {t' : Nat} (I : Inv X pins σ H s) (k : ∀ b u, s.heap.get? b = some u → h'.get? b = some u) (old : ∀ b, b < s.heap.objs.size → H' b = H b) (new : ∀ b o, s.heap.objs.size ≤ b → H' b = some o → ObjOk X.prog X.w H' h' b o) :
  Inv X pins σ H' { s with heap := h', toks := t' } := by
 have ext : ∀ b o, H b = some o → H' b = some o := fun b o q => by
  rw [old b (I.hok.lt q)]
  exact q
 refine I.un ⟨fun b u q _ _ _ => k b u q, fun b u q _ _ _ => ⟨u.slots, k b u q⟩, fun b u q n _ => by rw [old b (Heap.lt_size q)]; exact n, fun b u q _ => ⟨u, k b u q⟩, fun b xs q => ext _ _ q, fun b o u q => ext _ _ q, fun b ps q => ⟨#[], by rw [ext _ _ q]; simp⟩⟩ fun b o e => ?_
 by_cases z : b < s.heap.objs.size
 ·rw [old b z] at e
  exact (I.hok b o e).stay (fun c v _ q => k c v q) (fun c q => ext _ _ q) fun c xs q => ext _ _ q
 ·exact new b o (Nat.le_of_not_lt z) e
end
def EnV (H : Hp) (ys xs : List V) : Prop := xs.length = ys.length ∧ ∀ j x, ys[j]? = some x → ∃ T, xs[j]? = some (.ref T) ∧ H T = some (.tup [.int (j : Nat), x])
def zpz (K : PySem.W.Frag) (ta : TA) : TE := fun σ H Q => ta σ H fun vs H1 => ∃ p ys, vs = [.ref p] ∧ SqL K H1 p ys ∧ ∀ l xs H', Same H1 H' → H1 l = none → H' l = some (.lst xs) → EnV H' ys xs → Q (.ref l) H'
open Classical in
noncomputable def enH (H : Hp) (lo : Nat) (S : Addr) (ys xs : List V) : Hp := fun b => if b < lo then H b else if b = S then some (.lst xs) else if z : ∃ j : Nat, xs[j]? = some (.ref b) ∧ j < ys.length then some (.tup [.int (Classical.choose z : Nat), (ys[Classical.choose z]?).getD .non]) else none
section
variable {X : Cx}
theorem zka : ∀ L : List Value, (∀ v ∈ L, ∃ T, v = .ref T) → Vals (L.map fun v => match v with | .ref T => V.ref T | _ => V.non) L
 | [], _ => .nil
 | v :: r, h => by
  obtain ⟨T, rfl⟩ := h v List.mem_cons_self
  exact .cons rfl (zka r fun u hu => h u (List.mem_cons_of_mem _ hu))
theorem zmo {K : PySem.W.Frag} {p p2 pos pos2 : Pos} {a : Expr} {ta : TA} (hc : X.calm = true) (hgl : Gl X "list") (hml : X.mg "list" = none) (hg : Gl X "enumerate") (hm : X.mg "enumerate" = none) (ha : PA X [a] ta) (hK : X.K = K := by rfl)
  (hs : starEach [a] X.env = [(false, eval a X.env)] := by rfl) (hs2 : starEach [.Call (.Name "enumerate" p2) [a] [] pos2] X.env = [(false, eval (.Call (.Name "enumerate" p2) [a] [] pos2) X.env)] := by rfl) :
  PE X (.Call (.Name "list" p) [.Call (.Name "enumerate" p2) [a] [] pos2] [] pos) (zpz K ta) := by
 subst hK
 intro pins s σ H Q I h
 refine wpAny_Call_Name_kw (ze2 I hgl hml PyProof.Rows.boot_list ?_ (by decide) (by decide))
 refine PyProof.Rows.callWith_type1 ?_ hs2 rfl
 rw [hs2]
 show wpAny _ _ (spliced ((false, eval _ X.env) :: [])) _ _ s
 refine Calls.spliced_cons (wpAny_Call_Name_kw (ze2 I hg hm PyProof.Rows.boot_enumerate (PyProof.Rows.callWith_type1 (thn (ha pos2 pins s σ H _ I h) fun us s1 ⟨vs, H1, I1, r1, q1⟩ => ?_) hs rfl) (by decide) (by decide)))
 obtain ⟨pl, ys, rfl, hq, q⟩ := q1
 obtain ⟨u, rfl, ru⟩ := zd7 r1
 cases ru
 obtain ⟨its, rv, pls, hz⟩ := I1.list hq
 have hl := pls.isList
 have ll : pl < s1.heap.objs.size := by obtain ⟨o, e, _⟩ := hl; exact Heap.lt_size e
 refine call_enumerate_list hl fun g he hi gz kk => Calls.spliced_nil ?_
 have hn := rv.length
 have lo0 : s1.heap.objs.size ≤ g.objs.size := by rw [gz]; exact Nat.le_add_right _ _
 refine zjn (lo := g.objs.size) (its := its.toArray) (show X.A.in1.in1.handled = none from I.ok.hd hc) (by rw [List.size_toArray]; omega) (Nat.le_refl _) (Nat.succ_ne_self _) (Nat.ne_of_lt (Nat.lt_succ_of_lt ll)) (Nat.ne_of_lt ll) he hi (hl.at fun o e => kk pl o e) fun h' tk acc c gS out keep => ?_
 rw [List.size_toArray] at out
 obtain ⟨xs, exs⟩ : ∃ xs : List V, xs = acc.toList.map fun v => match v with | .ref T => V.ref T | _ => V.non := ⟨_, rfl⟩
 have lacc : acc.toList.length = its.length := by rw [Array.length_toList]; exact out.1
 have lxs : xs.length = ys.length := by rw [exs, List.length_map, lacc]; omega
 have at_ : ∀ j, j < its.length → ∃ (T : Addr) (t : Tok) (x : Value), acc[j]? = some (.ref T) ∧ xs[j]? = some (.ref T) ∧ its[j]? = some x ∧ g.objs.size ≤ T ∧ h'.get? T = some { cls := .type "tuple", data := .seq #[.int j t, x] } := fun j hj => by
  obtain ⟨T, t, x, a1, a2, a0, a3⟩ := out.2 j hj
  refine ⟨T, t, x, a1, ?_, by rw [List.getElem?_toArray] at a2; exact a2, a0, a3⟩
  rw [exs, List.getElem?_map, Array.getElem?_toList, a1]
  rfl
 have un : ∀ j k T, j < its.length → k < its.length → xs[j]? = some (.ref T) → xs[k]? = some (.ref T) → j = k := fun j k T hj hk e1 e2 => by
  obtain ⟨T1, t1, x1, _, b1, _, _, c1⟩ := at_ j hj
  obtain ⟨T2, t2, x2, _, b2, _, _, c2⟩ := at_ k hk
  rw [e1] at b1
  rw [e2] at b2
  injection b1 with b1
  injection b1 with b1
  injection b2 with b2
  injection b2 with b2
  rw [← b1] at c1
  rw [← b2, c1] at c2
  injection c2 with c2
  injection c2 with _ _ c2
  injection c2 with c2
  injection c2 with c2
  injection c2 with c2
  injection c2 with c2
  omega
 have nS : ∀ T (t : Tok) (x : Value) (j : Nat), h'.get? T = some { cls := .type "tuple", data := .seq #[.int j t, x] } → T ≠ g.objs.size := fun T t x j e => zjc e gS (by show (.type "tuple" : Value) ≠ .type "list"; decide)
 have hT : ∀ j T, j < its.length → xs[j]? = some (.ref T) → enH H1 s1.heap.objs.size g.objs.size ys xs T = some (.tup [.int (j : Nat), (ys[j]?).getD .non]) := fun j T hj e => by
  obtain ⟨T1, t1, x1, _, b1, _, b0, c1⟩ := at_ j hj
  rw [e] at b1
  injection b1 with b1
  injection b1 with b1
  rw [← b1] at b0 c1
  have ex : ∃ j : Nat, xs[j]? = some (.ref T) ∧ j < ys.length := ⟨j, e, by omega⟩
  unfold enH
  rw [if_neg (Nat.not_lt_of_le (Nat.le_trans lo0 b0)), if_neg (nS T _ _ _ c1), dif_pos ex]
  have := Classical.choose_spec ex
  rw [un _ _ _ (by omega) hj this.1 e]
 have sl : (1000 : Nat) ≤ sizeLine := by decide
 have HS : enH H1 s1.heap.objs.size g.objs.size ys xs g.objs.size = some (.lst xs) := by
  unfold enH
  rw [if_neg (Nat.not_lt_of_le lo0), if_pos rfl]
 have old : ∀ b, b < s1.heap.objs.size → enH H1 s1.heap.objs.size g.objs.size ys xs b = H1 b := fun b hb => by
  unfold enH
  rw [if_pos hb]
 have vals : Vals xs acc.toList := by
  rw [exs]
  refine zka _ fun v hv => ?_
  obtain ⟨j, hj, e⟩ := List.getElem_of_mem hv
  obtain ⟨T, _, _, a1, _⟩ := at_ j (by omega)
  rw [← Array.getElem?_toList, List.getElem?_eq_getElem hj, e] at a1
  injection a1 with a1
  exact ⟨T, a1⟩
 have I2 : Inv X pins σ (enH H1 s1.heap.objs.size g.objs.size ys xs) { s1 with heap := h', toks := tk } := by
  refine I1.many (fun b u e => keep b u (Nat.ne_of_lt (Nat.lt_succ_of_lt (Heap.lt_size e))) (Nat.ne_of_lt (Heap.lt_size e)) (kk b u e)) old fun b o hb e => ?_
  by_cases eS : b = g.objs.size
  ·rw [eS, HS] at e
   injection e with e
   rw [← e, eS]
   exact ⟨by omega, acc.toList, c, vals, by rw [Array.toArray_toList]; exact gS⟩
  ·have e' := e
   unfold enH at e'
   rw [if_neg (Nat.not_lt_of_le hb), if_neg eS] at e'
   by_cases ex : ∃ j : Nat, xs[j]? = some (.ref b) ∧ j < ys.length
   ·obtain ⟨j, h1, h2⟩ := ex
    rw [hT j b (by omega) h1] at e
    injection e with e
    rw [← e]
    obtain ⟨T, t, x, _, b1, b2, _, c1⟩ := at_ j (by omega)
    rw [h1] at b1
    injection b1 with b1
    injection b1 with b1
    rw [← b1] at c1
    obtain ⟨u, hu, ru⟩ := rv.get (i := j) (x := ys[j]) (List.getElem?_eq_getElem h2)
    rw [b2] at hu
    injection hu with hu
    refine ⟨by show 2 ≤ sizeLine; omega, [.int j t, x], ?_, ?_⟩
    ·rw [List.getElem?_eq_getElem h2]
     exact .cons ⟨t, rfl⟩ (.cons (by rw [hu]; exact ru) .nil)
    ·exact ⟨_, c1, rfl, _, rfl⟩
   ·rw [dif_neg ex] at e'
    cases e'
 refine ⟨.ref g.objs.size, _, I2, rfl, q _ xs _ (zik fun b o e => by rw [old b (I1.hok.lt e)]; exact e) (I1.hok.fresh lo0) HS ⟨lxs, fun j x hx => ?_⟩⟩
 have hj := (List.getElem?_eq_some_iff.mp hx).1
 obtain ⟨T, _, _, _, b1, _⟩ := at_ j (by omega)
 refine ⟨T, b1, ?_⟩
 rw [hT j T (by omega) b1, hx]
 rfl
end
end L2
set_option maxRecDepth 100000
set_option maxHeartbeats 4000000
namespace Wd
open PySem L2 Ow
def za6 (ps : List Int) (s : Nat) : Int := ((zf5 s).map fun k => ps.getD k 0).sum
def zto : Sp := fun vs H Q _ => ∃ (lp : Addr) (ps : List Int) (s : Nat), vs = [.ref lp, .int (s : Int)] ∧ H lp = some (.lst (ps.map V.int)) ∧ ps.length ≤ 9 ∧ s < 2 ^ ps.length ∧ ∀ H', Same H H' → Q (.int (za6 ps s)) H'
end Wd
set_option maxRecDepth 100000
set_option maxHeartbeats 4000000
namespace L2
open PySem PySem.Spec PyProof.Rows
section
variable {X : Cx} {pins : List (Addr × Obj)} {σ : St} {H : Hp} {s : Shared}
theorem Inv.nowAt (I : Inv X pins σ H s) {B : Heap} (up : ∀ b o, X.base.get? b = some o → B.get? b = some o) (bs : ∀ b o, B.get? b = some o → s.heap.get? b = some o ∧ H b = none) (bz : B.objs.size ≤ s.heap.objs.size) (nf : ∀ b ∈ frs X.stack, B.get? b = none) : zpc X.prog X.w X.K X.mg B X.A.in1 X.stack s H := by
 obtain ⟨mb, h1, h2⟩ := I.mod.blt
 refine ⟨I.ok.frames, ⟨I.mod.kin.keeps up, I.mod.glob.keeps up, ⟨mb, h1.keeps up, h2⟩, I.mod.nolimit.keeps up⟩, bs, bz, ?_, I.stkFree, I.hok, I.bare⟩
 have go : ∀ l : List Env, (∀ b ∈ frs l, b ∈ frs X.stack) → s.heap.FunFrames X.base l → s.heap.FunFrames B l := by
  intro l
  induction l with
  | nil => intro _ _; trivial
  | cons env r ih =>
   intro hs hl
   obtain ⟨hk, ⟨L, o, hf, hn, ho, hd⟩, hr⟩ := hl
   have hL : L ∈ frs X.stack := hs L (by unfold frs; rw [List.filterMap_cons, hf]; exact List.mem_cons_self)
   exact ⟨hk, ⟨L, o, hf, nf L hL, ho, hd⟩, ih (fun b hb => hs b (by unfold frs; rw [List.filterMap_cons, hf]; exact List.mem_cons_of_mem _ hb)) hr⟩
 exact go X.stack (fun _ h => h) I.stack
structure MkC (X : Cx) (B : Heap) (pins : List (Addr × Obj)) (H0 : Hp) (S J : Addr) : Prop where
 ne : S ≠ J
 fS : zhp X pins H0 S
 fJ : zhp X pins H0 J
 bS : B.objs.size ≤ S
 bJ : B.objs.size ≤ J
 up : ∀ b o, X.base.get? b = some o → B.get? b = some o
 nf : ∀ b ∈ frs X.stack, B.get? b = none
structure MkI (X : Cx) (B : Heap) (pins : List (Addr × Obj)) (σ : St) (H0 : Hp) (S J : Addr) (oS oJ : Obj) (H : Hp) (s : Shared) : Prop where
 inv : Inv X (pins ++ [(S, oS), (J, oJ)]) σ H s
 same : Same H0 H
 bs : ∀ b o, B.get? b = some o → s.heap.get? b = some o ∧ H b = none
variable {B : Heap} {H0 : Hp} {S J : Addr} {oS oJ oS' oJ' : Obj}
theorem MkI.pS (M : MkI X B pins σ H0 S J oS oJ H s) : s.heap.get? S = some oS ∧ H S = none := ⟨(M.inv.pin (S, oS) (by simp)).1, (M.inv.pin (S, oS) (by simp)).2.1⟩
theorem MkI.pJ (M : MkI X B pins σ H0 S J oS oJ H s) : s.heap.get? J = some oJ ∧ H J = none := ⟨(M.inv.pin (J, oJ) (by simp)).1, (M.inv.pin (J, oJ) (by simp)).2.1⟩
theorem MkI.mk2 {h' : Heap} {tk : Nat} (C : MkC X B pins H0 S J) (I : Inv X pins σ H { s with heap := h', toks := tk }) (sm : Same H0 H) (bs : ∀ b o, B.get? b = some o → s.heap.get? b = some o ∧ H b = none) (nS : H S = none) (nJ : H J = none) (k : ∀ b o, b ≠ S → b ≠ J → s.heap.get? b = some o → h'.get? b = some o) (hS : h'.get? S = some oS') (hJ : h'.get? J = some oJ') (dS : ∀ v, oS'.data ≠ .cell v) (dJ : ∀ v, oJ'.data ≠ .cell v) :
  MkI X B pins σ H0 S J oS' oJ' H { s with heap := h', toks := tk } := by
 refine ⟨I.pins_of fun p hp => ?_, sm, fun b o e => ⟨k b o (fun z => ?_) (fun z => ?_) (bs b o e).1, (bs b o e).2⟩⟩
 ·rcases List.mem_append.mp hp with z | z
  ·exact I.pin p (List.mem_append_right _ z)
  ·rcases List.mem_cons.mp z with rfl | z
   ·exact ⟨hS, nS, C.fS.2.1, C.fS.2.2.1, dS⟩
   ·rw [List.mem_singleton.mp z]
    exact ⟨hJ, nJ, C.fJ.2.1, C.fJ.2.2.1, dJ⟩
 ·rw [z, Heap.get?_none_of_le C.bS] at e
  cases e
 ·rw [z, Heap.get?_none_of_le C.bJ] at e
  cases e
theorem MkI.turn {h' : Heap} {tk : Nat} {it : Addr} (C : MkC X B pins H0 S J) (M : MkI X B pins σ H0 S J oS oJ H s) (hi : it = S ∨ it = J) (k : ∀ b o, b ≠ it → s.heap.get? b = some o → h'.get? b = some o) (hS : h'.get? S = some oS') (hJ : h'.get? J = some oJ') (dS : ∀ v, oS'.data ≠ .cell v) (dJ : ∀ v, oJ'.data ≠ .cell v) :
  MkI X B pins σ H0 S J oS' oJ' H { s with heap := h', toks := tk } := by
 have fp : H it = none ∧ (zhp X pins H0 it) := by
  rcases hi with rfl | rfl
  ·exact ⟨M.pS.2, C.fS⟩
  ·exact ⟨M.pJ.2, C.fJ⟩
 refine MkI.mk2 C (M.inv.unpinned.turned k fp.1 fp.2.2.1 fp.2.2.2.2.1 fp.2.2.2.2.2.1 fp.2.2.2.2.2.2) M.same M.bs M.pS.2 M.pJ.2 (fun b o n1 n2 e => k b o (fun z => ?_) e) hS hJ dS dJ
 rcases hi with y | y
 ·exact n1 (z.trans y)
 ·exact n2 (z.trans y)
variable {k : Nat} {q l : Addr} {fd : FuncData} {ps : List Str} {sp : Sp} {xs : List V} {kf : Nat → Int} {R : Result → Shared → Prop}
theorem MkI.ask {v : V} {u : Value} {n : Int} {Q : Value → Shared → Prop} {E : Value → Shared → Prop} (C : MkC X B pins H0 S J) (M : MkI X B pins σ H0 S J oS oJ H s) (F : FnOk X.prog X.w X.K X.mg B CX0 k q fd ps sp) (hr : Room k X.A.in1) (hb : Binds X.K fd ps []) (rv : RelV v u)
  (hs : sp [v] H (fun r H2 => r = .int n ∧ Same H H2) E0) (h : ∀ t H1 s1, MkI X B pins σ H0 S J oS oJ H1 s1 → Q (.int n t) s1) : wpAny (model X.prog X.w) X.A.in1 (call (.ref q) [u]) Q E s := by
 have e0 := M.inv.nowAt C.up M.bs (Nat.le_trans C.bS (Nat.le_of_lt (Heap.lt_size M.pS.1))) C.nf
 have hl : ([u] : List Value).length = ps.length := F.len _ _ _ _ hs
 have hbb := hb s [u] M.inv.kIn hl
 refine wpAny_call (codeAny_mono (F.run X.A.in1 X.stack s H ⟨[u], []⟩ [u] [v] _ E0 hr e0 hbb (.cons rv .nil) hs) fun r s' hq => ?_)
 cases r with
 | error e => exact hq.elim
 | ok fl =>
  cases fl with
  | ret u' =>
   obtain ⟨v2, H1, os, bare, un1, hok, r1, e1, sm1⟩ := hq
   subst e1
   obtain ⟨t, rfl⟩ := r1
   have r2 : RelV (.int n) (.int n t) := ⟨t, rfl⟩
   have af := M.inv.after (Q := fun r H2 => r = V.int n ∧ H2 = H1) ⟨_, H1, os, bare, un1, hok, r2, rfl, rfl⟩
   obtain ⟨v3, H3, I3, r3, e3, e4⟩ := af
   subst e4
   refine h t _ _ ⟨I3, M.same.trans sm1, fun b o e => ?_⟩
   have nb : b ∉ frs X.stack := fun z => by
    rw [C.nf b z] at e
    cases e
   exact ⟨un1.1 b o (M.bs b o e).1 (M.bs b o e).2 nb (by simp), un1.3 b o (M.bs b o e).1 (M.bs b o e).2 (by simp)⟩
  | next => exact False.elim hq
  | brk => exact False.elim hq
  | cont => exact False.elim hq
theorem zl6 (C : MkC X B pins H0 S J) (hh : X.A.handled = none) (F : FnOk X.prog X.w X.K X.mg B CX0 k q fd ps sp) (hr : Room k X.A.in1) (hb : Binds X.K fd ps []) (hl : H0 l = some (.lst xs))
  (ask : ∀ j v H1, xs[j]? = some v → Same H0 H1 → sp [v] H1 (fun r H2 => r = .int (kf j) ∧ Same H1 H2) E0)
  (done : ∀ i v u H1 s1, xs[i]? = some v → RelV v u → (∀ j, j < xs.length → kf i ≤ kf j ∧ (j < i → kf i < kf j)) → Same H0 H1 → Inv X pins σ H1 s1 → R (.ok (.ret u)) s1) :
  ∀ (r j i : Nat) (xb : V) (vb : Value) (tb : Tok) (c : Nat) (oJ : Obj) (H : Hp) (s : Shared), xs.length - (j + 1) = r → j + 1 ≤ xs.length → MkI X B pins σ H0 S J (seqObj "list" #[vb, .int (kf i) tb] c) oJ H s → s.heap.IsListIter J l (j + 1) →
   xs[i]? = some xb → RelV xb vb → i ≤ j → (∀ j', j' ≤ j → kf i ≤ kf j' ∧ (j' < i → kf i < kf j')) → codeAny (model X.prog X.w) X.A (.builtin "min.loop" ⟨[.ref J, .ref q, .ref S], []⟩) R s := by
 have nm : (toString "min" ++ toString ".loop" : String) = "min.loop" := by decide
 intro r
 induction r with
 | zero =>
  intro j i xb vb tb c oJ H s hr0 hj M hit hx rb hij best
  obtain ⟨its, rv, pl, hz⟩ := M.inv.list (SqL.of (M.same _ _ hl))
  have T := pl.isList
  have lJ : l ≠ J := fun z => by
   have y : H l = some (.lst xs) := M.same _ _ hl
   rw [z, M.pJ.2] at y
   cases y
  have W := Walks.list (prog := X.prog) (w := X.w) (A := X.A.in1) hh J l lJ its.toArray
  refine codeAny_builtin PySem.F.entry_min_loop ?_
  rw [Around.under_plainId PySem.F.plain_min_loop _]
  refine wpAny_bind (m := seqItems? (.ref S)) (wpAny_seqItems M.pS.1 rfl ?_)
  refine wpAny_bind (m := tryCatch (pyNext (.ref J)) _) (wpAny_tryCatch (W.done _ _ _ ⟨by rw [List.size_toArray, ← rv.length, show xs.length = j + 1 by omega]; exact hit, T⟩ fun h' tk' hk' => ?_))
  have kJ : ∀ b o, b ≠ J → s.heap.get? b = some o → h'.get? b = some o := fun b o n e => hk' b o (by simpa using n) e
  have I1 := M.inv.unpinned.turned (t' := tk') kJ M.pJ.2 C.fJ.2.1 C.fJ.2.2.2.1 C.fJ.2.2.2.2.1 C.fJ.2.2.2.2.2
  have gS := kJ S _ C.ne M.pS.1
  refine wpAny_bind (m := updateSeq S (fun _ => #[])) ?_
  refine wpAny_updateSeq gS rfl (wpAny_bind (wpAny_letGo (wpAny_pure ?_)))
  have sb := Heap.SameBut.update h' S (Obj.mapSeq fun _ => (#[] : Array Value))
  have I2 := I1.turned (t' := tk') (h' := h'.update S (Obj.mapSeq fun _ => (#[] : Array Value))) (fun b o n e => (sb.2 b n).trans e) M.pS.2 C.fS.2.1 C.fS.2.2.2.1 C.fS.2.2.2.2.1 C.fS.2.2.2.2.2
  exact done i xb vb H _ hx rb (fun j' hj' => best j' (by omega)) M.same I2
 | succ r ih =>
  intro j i xb vb tb c oJ H s hr0 hj M hit hx rb hij best
  obtain ⟨its, rv, pl, hz⟩ := M.inv.list (SqL.of (M.same _ _ hl))
  have T := pl.isList
  have lJ : l ≠ J := fun z => by
   have y : H l = some (.lst xs) := M.same _ _ hl
   rw [z, M.pJ.2] at y
   cases y
  have W := Walks.list (prog := X.prog) (w := X.w) (A := X.A.in1) hh J l lJ its.toArray
  have lt : j + 1 < xs.length := by omega
  refine codeAny_builtin PySem.F.entry_min_loop ?_
  rw [Around.under_plainId PySem.F.plain_min_loop _]
  refine wpAny_bind (m := seqItems? (.ref S)) (wpAny_seqItems M.pS.1 rfl ?_)
  refine wpAny_bind (m := tryCatch (pyNext (.ref J)) _) (wpAny_tryCatch (W.item (j + 1) _ _ _ (by rw [List.size_toArray, ← rv.length]; exact lt) ⟨hit, T⟩ fun u h' tk' hP hst' hk' => ?_))
  obtain ⟨xv, hxv⟩ : ∃ xv, xs[j + 1]? = some xv := ⟨_, List.getElem?_eq_getElem lt⟩
  obtain ⟨u', hu', ru⟩ := rv.get hxv
  have eu : u' = u := by
   rw [List.getElem?_toArray, hu'] at hP
   exact Option.some.inj hP
  subst eu
  obtain ⟨oJ', gJ, cJ, dJ⟩ := id hst'.1
  have kJ : ∀ b o, b ≠ J → s.heap.get? b = some o → h'.get? b = some o := fun b o n e => hk' b o (by simpa using n) e
  have M1 := MkI.turn (tk := tk') C M (.inr rfl) kJ (kJ S _ C.ne M.pS.1) gJ (fun v z => nomatch z) (fun v z => by rw [dJ] at z; cases z)
  refine wpAny_bind (m := tryCatch (holding [u'] (call (.ref q) [u'])) _) (wpAny_tryCatch (wpAny_holding (M1.ask C F hr hb ru (ask (j + 1) xv H hxv M.same) fun t2 H2 s2 M2 => ?_)))
  have hit2 : s2.heap.IsListIter J l (j + 1 + 1) := ⟨oJ', M2.pJ.1, cJ, dJ⟩
  refine wpAny_bind (m := tryCatch (holding [u', .int (kf (j + 1)) t2] (richCompare .Lt (.int (kf (j + 1)) t2) (.int (kf i) tb) >>= _)) _) (wpAny_tryCatch (wpAny_holding (wpAny_bind (CmpOf.ints_lt (prog := X.prog) (w := X.w) (A := X.A.in1) (P := fun i v => ∃ t, v = .int (kf i) t) kf (fun i v h => h) (j + 1) i _ _ _ _ _ ⟨t2, rfl⟩ ⟨tb, rfl⟩ ?_))))
  refine wpAny_bind (wpAny_holding (wpAny_truthy_bool ?_))
  refine wpAny_bind (wpAny_letGo (wpAny_pure ?_))
  by_cases lt2 : kf (j + 1) < kf i
  ·obtain ⟨c2, g2⟩ : ∃ c2, (s2.heap.update S (Obj.mapSeq fun _ => #[u', .int (kf (j + 1)) t2])).get? S = some (seqObj "list" #[u', .int (kf (j + 1)) t2] c2) := ⟨_, get?_update_seq M2.pS.1 fun _ => #[u', .int (kf (j + 1)) t2]⟩
   have sb := Heap.SameBut.update s2.heap S (Obj.mapSeq fun _ => #[u', .int (kf (j + 1)) t2])
   simp only [lt2, decide_true, if_true]
   refine wpAny_bind ?_
   refine wpAny_updateSeq M2.pS.1 rfl (wpAny_bind (wpAny_letGo ?_))
   rw [nm]
   have gJ2 := (sb.2 J (Ne.symm C.ne)).trans M2.pJ.1
   have M3 := MkI.turn (tk := s2.toks) C M2 (.inl rfl) (fun b o n e => (sb.2 b n).trans e) g2 gJ2 (fun v z => nomatch z) (fun v z => by rw [dJ] at z; cases z)
   refine wpAny_pure ⟨plainId_quiet PySem.F.plain_min_loop _, ih (j + 1) (j + 1) xv u' t2 c2 oJ' H2 _ (by omega) lt M3 ⟨oJ', gJ2, cJ, dJ⟩ hxv ru (Nat.le_refl _) fun j' hj' => ?_⟩
   by_cases e : j' = j + 1
   ·subst e
    exact ⟨by omega, fun _ => by omega⟩
   ·have b1 := (best j' (by omega)).1
    exact ⟨by omega, fun _ => by omega⟩
  ·simp only [lt2, decide_false, Bool.false_eq_true, if_false]
   refine wpAny_bind (wpAny_letGo ?_)
   rw [nm]
   refine wpAny_pure ⟨plainId_quiet PySem.F.plain_min_loop _, ih (j + 1) i xb vb tb c oJ' H2 _ (by omega) lt M2 hit2 hx rb (by omega) fun j' hj' => ?_⟩
   by_cases e : j' = j + 1
   ·subst e
    exact ⟨by omega, fun _ => by omega⟩
   ·exact best j' (by omega)
theorem zno {Q : Value → Shared → Prop} {E : Value → Shared → Prop} (I : Inv X pins σ H s) (hh : X.A.handled = none) (F : FnOk X.prog X.w X.K X.mg (zbx s.heap H X.stack) CX0 k q fd ps sp) (hr : Room k X.A.in1) (hb : Binds X.K fd ps []) (hl : H l = some (.lst xs)) (hne : 0 < xs.length)
  (ask : ∀ j v H1, xs[j]? = some v → Same H H1 → sp [v] H1 (fun r H2 => r = .int (kf j) ∧ Same H1 H2) E0)
  (done : ∀ i v u H1 s1, xs[i]? = some v → RelV v u → (∀ j, j < xs.length → kf i ≤ kf j ∧ (j < i → kf i < kf j)) → Same H H1 → Inv X pins σ H1 s1 → Q u s1) :
  wpAny (model X.prog X.w) X.A (call (.builtin "min") [.ref l] [(Str.ofString "key", .ref q)]) Q E s := by
 have nm : (toString "min" ++ toString ".loop" : String) = "min.loop" := by decide
 obtain ⟨its, rv, pl, hz⟩ := I.list (SqL.of hl)
 have T := pl.isList
 have lls := zh7 T
 refine kmk_tree PySem.F.kind_min PySem.F.plain_min PySem.F.entry_min (kmk_min_key _ _) ?_
 refine wpAny_bind (m := Builtin.Builtins.bindParams "min" ["key", "default"] 0 ⟨[], [(Str.ofString "key", .ref q)]⟩) (wpAny_of_eq (show _ = pure [some (.ref q), none] from rfl) ?_)
 refine wpAny_bind (wpAny_pure ?_)
 refine wpAny_bind (wpAny_pyIter_list T ?_)
 refine wpAny_bind (wpAny_newList ?_ (Nat.zero_le _))
 rw [nm]
 obtain ⟨h1, e1⟩ : ∃ h1, h1 = s.heap.push { cls := .type "list_iterator", data := .fields #[.ref l, .int 0 0] } := ⟨_, rfl⟩
 have z1 : h1.objs.size = s.heap.objs.size + 1 := by rw [e1]; exact Heap.size_push ..
 rw [← e1]
 obtain ⟨h2, e2⟩ : ∃ h2, h2 = h1.push { cls := .type "list", data := .seq ([] : List Value).toArray } := ⟨_, rfl⟩
 rw [← e2]
 have gJ : h2.get? s.heap.objs.size = some { cls := .type "list_iterator", data := .fields #[.ref l, .int 0 0] } := by
  rw [e2, e1]
  exact Heap.get?_push_of_some _ (Heap.get?_push_size _ rfl)
 have gS : h2.get? h1.objs.size = some (seqObj "list" #[] 0) := by rw [e2]; exact Heap.get?_push_size _ rfl
 have k2 : ∀ b o, s.heap.get? b = some o → h2.get? b = some o := fun b o e => by rw [e2, e1]; exact Heap.get?_push_of_some _ (Heap.get?_push_of_some _ e)
 have szb : (zbx s.heap H X.stack).objs.size = s.heap.objs.size := PySem.W.hideAll_size _ _
 have zz : s.heap.objs.size ≤ h1.objs.size := by rw [z1]; exact Nat.le_succ _
 have C : MkC X (zbx s.heap H X.stack) pins H h1.objs.size s.heap.objs.size := ⟨fun z => Nat.succ_ne_self _ (z1.symm.trans z), I.fpOk zz (I.hok.fresh zz), I.fpOk (Nat.le_refl _) (I.hok.fresh (Nat.le_refl _)), Nat.le_trans (Nat.le_of_eq szb) zz, Nat.le_of_eq szb, fun b o e => zfo (I.bs b o e).1 (I.bs b o e).2 (I.noStk e), fun b hb => PySem.W.hideAll_none _ (List.mem_append_right _ hb)⟩
 have M : MkI X (zbx s.heap H X.stack) pins σ H h1.objs.size s.heap.objs.size (seqObj "list" #[] 0) _ H { s with heap := h2, toks := s.toks } := MkI.mk2 C (I.kept (t' := s.toks) k2) (Same.refl _) (fun b o e => ⟨(zec e).1, (zec e).2.1⟩) C.fS.1 C.fJ.1 (fun b o _ _ e => k2 b o e) gS gJ (fun v z => nomatch z) (fun v z => nomatch z)
 have hit : h2.IsListIter s.heap.objs.size l 0 := ⟨_, gJ, rfl, rfl⟩
 refine wpAny_pure ⟨plainId_quiet PySem.F.plain_min_loop _, ?_⟩
 have W := Walks.list (prog := X.prog) (w := X.w) (A := X.A.in1) hh s.heap.objs.size l (Nat.ne_of_lt lls) its.toArray
 have T2 : h2.IsList l its.toArray := by
  obtain ⟨o, e, r⟩ := T
  exact ⟨o, k2 _ _ e, r⟩
 refine codeAny_builtin PySem.F.entry_min_loop ?_
 rw [Around.under_plainId PySem.F.plain_min_loop _]
 refine wpAny_bind (m := seqItems? (.ref h1.objs.size)) (wpAny_seqItems gS rfl ?_)
 refine wpAny_bind (m := tryCatch (pyNext (.ref s.heap.objs.size)) _) (wpAny_tryCatch (W.item 0 _ _ _ (by rw [List.size_toArray, ← rv.length]; exact hne) ⟨hit, T2⟩ fun u h' tk' hP hst' hk' => ?_))
 obtain ⟨xv, hxv⟩ : ∃ xv, xs[0]? = some xv := ⟨_, List.getElem?_eq_getElem hne⟩
 obtain ⟨u', hu', ru⟩ := rv.get hxv
 have eu : u' = u := by
  rw [List.getElem?_toArray, hu'] at hP
  exact Option.some.inj hP
 subst eu
 obtain ⟨oJ', gJ', cJ, dJ⟩ := id hst'.1
 have kJ : ∀ b o, b ≠ s.heap.objs.size → h2.get? b = some o → h'.get? b = some o := fun b o n e => hk' b o (by simpa using n) e
 have M1 := MkI.turn (tk := tk') C M (.inr rfl) kJ (kJ _ _ C.ne gS) gJ' (fun v z => nomatch z) (fun v z => by rw [dJ] at z; cases z)
 refine wpAny_bind (m := tryCatch (holding [u'] (call (.ref q) [u'])) _) (wpAny_tryCatch (wpAny_holding (M1.ask C F hr hb ru (ask 0 xv H hxv (Same.refl _)) fun t2 H2 s2 M2 => ?_)))
 obtain ⟨c2, g2⟩ : ∃ c2, (s2.heap.update h1.objs.size (Obj.mapSeq fun _ => #[u', .int (kf 0) t2])).get? h1.objs.size = some (seqObj "list" #[u', .int (kf 0) t2] c2) := ⟨_, get?_update_seq M2.pS.1 fun _ => #[u', .int (kf 0) t2]⟩
 have sb := Heap.SameBut.update s2.heap h1.objs.size (Obj.mapSeq fun _ => #[u', .int (kf 0) t2])
 refine wpAny_bind (m := updateSeq h1.objs.size (fun _ => #[u', .int (kf 0) t2])) ?_
 refine wpAny_updateSeq M2.pS.1 rfl ?_
 rw [nm]
 have gJ2 := (sb.2 _ (Ne.symm C.ne)).trans M2.pJ.1
 have M3 := MkI.turn (tk := s2.toks) C M2 (.inl rfl) (fun b o n e => (sb.2 b n).trans e) g2 gJ2 (fun v z => nomatch z) (fun v z => by rw [dJ] at z; cases z)
 refine wpAny_pure ⟨plainId_quiet PySem.F.plain_min_loop _, zl6 C hh F hr hb hl ask done _ 0 0 xv u' t2 c2 oJ' H2 _ rfl hne M3 ⟨oJ', gJ2, cJ, dJ⟩ hxv ru (Nat.le_refl _) fun j' hj' => ?_⟩
 have e : j' = 0 := by omega
 subst e
 exact ⟨Int.le_refl _, fun h => absurd h (Nat.lt_irrefl _)⟩
def zv5 (X : Cx) (k : Nat) (t tk : TA) : TE := fun σ H Q => t σ H fun vs H1 => tk σ H1 fun zs H2 => ∃ (l q : Addr) (xs : List V), vs = [.ref l] ∧ zs = [.ref q] ∧ H2 l = some (.lst xs) ∧ 0 < xs.length ∧
 ∀ base : Heap, zgv X σ base → X.K.In base → base.Ns mainGlobals X.mg → ∃ (fd : FuncData) (ps : List Str) (sp : Sp) (kf : Nat → Int), FnOk X.prog X.w X.K X.mg base CX0 k q fd ps sp ∧ Binds X.K fd ps [] ∧
  (∀ j v H3, xs[j]? = some v → Same H2 H3 → sp [v] H3 (fun r H4 => r = .int (kf j) ∧ Same H3 H4) E0) ∧ ∀ i v H3, xs[i]? = some v → (∀ j, j < xs.length → kf i ≤ kf j ∧ (j < i → kf i < kf j)) → Same H2 H3 → Q v H3
theorem zpb {x : Str} {p pos : Pos} {e : Expr} {es : List Expr} {kws : List Keyword} {t tk : TA} (hc : X.calm = true) (hr : Room (k + 1) X.A) (hg : Gl X x) (hm : X.mg x = none) (hv : bootBuiltins x = some (.builtin "min")) (hfn : ∀ y, X.fn y = true) (ha : PA X (e :: es) t) (hkw : PK X kws tk)
  (hks : (backToKw pos (keywordEach kws X.env)).filterMap (·.1) = [Str.ofString "key"] := by rfl) (hn : x ≠ "__name__" := by decide) (hdb : (x == ("__debug__" : Str)) = false := by decide)
  (he : backTo pos (starEach (e :: es) X.env) = (false, eval e X.env) :: backTo pos (starEach es X.env) := by rfl) (hpl : (backTo pos (starEach (e :: es) X.env)).any (·.1) = false := by rfl)
  (hall : (backToKw pos (keywordEach kws X.env)).all (·.1.isSome) = true := by rfl) (hkn : (backToKw pos (keywordEach kws X.env)).any (·.1.isNone) = false := by rfl) : PE X (.Call (.Name x p) (e :: es) kws pos) (zv5 X k t tk) := by
 intro pins s σ H Q I h
 refine wpAny_Call_Name_kw (ze2 I hg hm hv ?_ hn hdb)
 refine callWith_kw (thn (ha pos pins s σ H _ I h) fun us s1 ⟨vs, H1, I1, r, q⟩ => ?_) he hpl hall hkn
 refine thn (hkw pos pins s1 σ H1 _ I1 q) fun ws s2 ⟨zs, H2, I2, rz, l, f, xs, e1, e2, hl, hne, q2⟩ => ?_
 subst e1
 subst e2
 obtain ⟨u, rfl, ru⟩ := zd7 r
 cases ru
 obtain ⟨u, rfl, ru⟩ := zd7 rz
 cases ru
 rw [hks]
 have e0 := I2.now
 have ci : zgv X σ (zbx s2.heap H2 X.stack) := fun i y v hN hv hk => by
  obtain ⟨m, hn, hl⟩ := I2.loc
  obtain ⟨u, ru, l⟩ := hl i y v hN hv (.inr (.inl hk))
  rcases l with ⟨hk', _⟩ | ⟨_, c, hc, hcell⟩
  ·rw [hk] at hk'; cases hk'
  ·exact ⟨c, u, hc, ru, I2.nowCell (hfn y) hc hcell⟩
 obtain ⟨fd, ps, sp, kf, F, hb, ask, fin⟩ := q2 _ ci e0.mod.kin e0.mod.glob
 exact zno I2 (I.ok.hd hc) F hr.in1 hb hl hne ask fun i v u H3 s3 hx rv best sm I3 => ⟨v, H3, I3, rv, fin i v H3 hx best sm⟩
end
end L2
set_option maxRecDepth 100000
set_option maxHeartbeats 4000000
namespace L2
open PySem PySem.Spec PyProof.Rows
theorem ze3 : ∀ (names : List (Str × NameKind)) (n : Nat) (acc : List (Str × Addr)), (∀ p ∈ acc, p.2 < n) → acc.Pairwise (fun x y => x.2 ≠ y.2) → (cellsFrom n names acc).Pairwise fun x y => x.2 ≠ y.2
 | [], n, acc, _, h => h
 | (x, k) :: r, n, acc, lt, h => by
  unfold cellsFrom
  split
  ·refine ze3 r (n + 1) _ (fun p hp => ?_) (List.pairwise_cons.mpr ⟨fun p hp => Ne.symm (Nat.ne_of_lt (lt p hp)), h⟩)
   rcases List.mem_cons.mp hp with rfl | z
   ·exact Nat.lt_succ_self _
   ·exact Nat.lt_succ_of_lt (lt p z)
  ·exact ze3 r n acc lt h
theorem zo2 {l : List (Str × Addr)} (h : l.Pairwise fun x y => x.2 ≠ y.2) {x y : Str} {c : Addr} (h1 : (x, c) ∈ l) (h2 : (y, c) ∈ l) : x = y := by
 induction l with
 | nil => cases h1
 | cons p r ih =>
  rw [List.pairwise_cons] at h
  rcases List.mem_cons.mp h1 with a | a <;> rcases List.mem_cons.mp h2 with b | b
  ·exact congrArg Prod.fst (a.trans b.symm)
  ·exact absurd (congrArg Prod.snd a).symm (h.1 (y, c) b)
  ·exact absurd (congrArg Prod.snd b).symm (h.1 (x, c) a)
  ·exact ih h.2 a b
structure zvs (base : Heap) (cl : List (Str × Addr)) (scope : Scope) (fr : List Str) (fv : List V) : Prop where
 cell : ∀ x cc, cl.lookup x = some cc → ∃ v, base.IsCell cc v
 inj : ∀ x y cc, cl.lookup x = some cc → cl.lookup y = some cc → x = y
 has : ∀ y ∈ scope.names, y.2 = .free → ∃ cc, cl.lookup y.1 = some cc
 val : ∀ (i : Nat) (x : Str) (v : V), fr[i]? = some x → fv[i]? = some v → ∃ cc u, cl.lookup x = some cc ∧ RelV v u ∧ base.IsCell cc (some u)
theorem zhh {X : Cx} {σ : St} {base : Heap} {scope : Scope} {fr : List Str} {fv : List V} {n : Nat} {names : List (Str × NameKind)} (LF : ∀ y ∈ scope.names, y.2 = .free → ∃ c, X.env.cells.lookup y.1 = some c) (hc : X.env.cells = cellsFrom n names []) (ci : zgv X σ base)
  (hfr : ∀ y ∈ scope.names, y.2 = .free → y.1 ∈ fr) (hin : ∀ x ∈ fr, (x, NameKind.free) ∈ scope.names) (hl : fv.length = fr.length)
  (hp : ∀ (i : Nat) (x : Str) (v : V), fr[i]? = some x → fv[i]? = some v → ∃ j : Nat, X.N[j]? = some x ∧ σ[j]? = some (some v) ∧ X.env.kindOf x = some .cell) : zvs base (zd8 scope X.env) scope fr fv := by
 have val : ∀ (i : Nat) (x : Str) (v : V), fr[i]? = some x → fv[i]? = some v → ∃ cc u, (zd8 scope X.env).lookup x = some cc ∧ RelV v u ∧ base.IsCell cc (some u) := fun i x v h1 h2 => by
  obtain ⟨j, a, b, c⟩ := hp i x v h1 h2
  obtain ⟨cc, u, e, r, ic⟩ := ci j x v a b c
  exact ⟨cc, u, zfu LF (hin x (List.mem_of_getElem? h1)) e, r, ic⟩
 refine ⟨fun x cc h => ?_, fun x y cc h1 h2 => ?_, fun y hy hz => ?_, val⟩
 ·have hx : x ∈ fr := by
   have m := PySem.mem_of_lookup h
   unfold zd8 at m
   have key : ∀ (l : List (Str × NameKind)) (acc : List (Str × Addr)), (∀ y ∈ l, y.2 = .free → y.1 ∈ fr) → (∀ p ∈ acc, p.1 ∈ fr) → ∀ p ∈ l.foldl (fun cs y => if (y.2 == NameKind.free) = true then (y.1, (X.env.cells.lookup y.1).getD 0) :: cs else cs) acc, p.1 ∈ fr := by
    intro l
    induction l with
    | nil => intro acc _ h p hp; exact h p hp
    | cons y r ih =>
     intro acc h1 h2 p hp
     rw [List.foldl_cons] at hp
     refine ih _ (fun z hz => h1 z (List.mem_cons_of_mem _ hz)) (fun p hp => ?_) p hp
     split at hp
     ·rename_i hk
      rcases List.mem_cons.mp hp with rfl | z
      ·exact h1 y List.mem_cons_self (by simpa using hk)
      ·exact h2 p z
     ·exact h2 p hp
   exact key scope.names [] hfr (fun _ z => nomatch z) _ m
  obtain ⟨i, hi⟩ := List.getElem?_of_mem hx
  have il : i < fv.length := by
   rw [hl]
   exact (List.getElem?_eq_some_iff.mp hi).1
  obtain ⟨cc', u, e, _, ic⟩ := val i x fv[i] hi (List.getElem?_eq_getElem il)
  rw [h] at e
  cases e
  exact ⟨_, ic⟩
 ·have a := PySem.mem_of_lookup (zbp LF h1)
  have b := PySem.mem_of_lookup (zbp LF h2)
  rw [hc] at a b
  exact zo2 (ze3 names n [] (fun _ z => nomatch z) .nil) a b
 ·obtain ⟨c, hc⟩ := LF y hy hz
  exact ⟨c, zfu LF (by rw [← hz]; exact hy) hc⟩
theorem zov {P : Program} {w : World} {K : PySem.W.Frag} {mg : Str → Option Value} {base : Heap} {f c : Addr} {qual : Str} {params : Arguments} {body : Expr} {scope : Scope} {cl : List (Str × Addr)} {H1 : Hp} {ps fr : List Str} {fv : List V} {k : Nat} (sp : Sp)
  (hp : H1 f = some (.ext (zju f qual params body scope cl c))) (LM : zvs base cl scope fr fv) (S : zjb ps fr scope) (hlen : fv.length = fr.length)
  (hsame : ∀ pm ctv args, bindArgs (PySem.W.kla_fn "<lambda>" qual params body scope cl pm (.ref c) ctv) args = bindArgs (PySem.W.kla_fn "<lambda>" qual params body scope cl .none (.ref c) .none) args)
  (len : ∀ vs H Q E, sp vs H Q E → vs.length = ps.length)
  (hbody : ∀ (q : Str) (A : Around) (outer : List Env) (s : Shared) (H : Hp) (vs : List V) (Q : VK) (E : XK), Room k (A.deeper (PySem.W.envX q scope s.heap.objs.size f (.ref c) cl)) → sp vs H Q E →
   ∃ t, PE (zo0 P w K mg base (ps ++ fr) q scope f c cl A outer s H) body t ∧ t (vs.map some ++ fv.map some) H Q) :
  FnOk P w K mg base CX0 (k + 1) f (PySem.W.kla_fn "<lambda>" qual params body scope cl .none (.ref c) .none) ps (fun vs H Q E => sp vs H Q E ∧ H f = some (.ext (zju f qual params body scope cl c)) ∧ H c = some (.ext (zft c))) :=
 zr4 S LM.cell LM.inj LM.has LM.val hlen hsame (fun vs H Q E h => len vs H Q E h.1) (fun vs H Q E h => h.2) (fun q A outer s H vs Q E hr h => hbody q A outer s H vs Q E hr h.1)
end L2
set_option maxRecDepth 100000
set_option maxHeartbeats 4000000
namespace Wd
open PySem L2 Ow
def zcm (ps : List Int) : List (Nat × Int) := (List.range ps.length).map fun k => (k, ps.getD k 0)
def zmq (ps : List Int) (p : Int) (y n : Nat) : Bool := decide (zb2 (zcm ps) y n ≥ p)
def zt8 : Sp := fun vs H Q _ => ∃ (lp : Addr) (ps : List Int) (p : Int) (y n : Nat), vs = [.ref lp, .int p, .int (y : Nat), .int (n : Nat)] ∧ H lp = some (.lst (ps.map V.int)) ∧ ps.length ≤ 9 ∧ ∀ H', Same H H' → Q (.bl (zmq ps p y n)) H'
theorem DnL.of {H : Hp} : ∀ {ds : List PyData} {xs : List V}, ds.length = xs.length → (∀ (i : Nat) d x, ds[i]? = some d → xs[i]? = some x → Dn H d x) → DnL H ds xs
 | [], [], _, _ => rfl
 | d :: ds, x :: xs, hl, h => ⟨x, xs, rfl, h 0 d x rfl rfl, DnL.of (Nat.succ.inj hl) fun i d' x' h1 h2 => h (i + 1) d' x' h1 h2⟩
theorem zt9 {H : Hp} {ps : List Int} {xs : List V} (h : EnV H (ps.map V.int) xs) : DnL H ((zcm ps).map zg2) xs := by
 obtain ⟨hl, h⟩ := h
 rw [List.length_map] at hl
 refine DnL.of (by unfold zcm; rw [List.length_map, List.length_map, List.length_range, hl]) fun i d x h1 h2 => ?_
 have il : i < ps.length := by
  rw [← hl]
  exact (List.getElem?_eq_some_iff.mp h2).1
 have pk : ps[i]? = some ps[i] := List.getElem?_eq_getElem il
 obtain ⟨T, e1, e2⟩ := h i (.int ps[i]) (by rw [List.getElem?_map, pk]; rfl)
 rw [h2] at e1
 cases e1
 unfold zcm at h1
 rw [List.getElem?_map, List.getElem?_map, List.getElem?_range il] at h1
 have e : d = zg2 (i, ps[i]) := by
  rw [← Option.some.inj h1]
  show zg2 (i, ps.getD i 0) = _
  rw [List.getD_eq_getElem?_getD, pk]
  rfl
 rw [e]
 exact ⟨T, _, rfl, e2, _, _, rfl, rfl, _, _, rfl, rfl, rfl⟩
theorem zmk {m n : Nat} (h : n < 2 ^ m) : zf5 n = (List.range m).filter fun k => n.testBit k := by
 refine zqz (List.Pairwise.filter _ List.pairwise_lt_range) (List.Pairwise.filter _ List.pairwise_lt_range) fun k => ?_
 rw [mem_bitsL, List.mem_filter, List.mem_range]
 refine ⟨fun hk => ⟨?_, hk⟩, fun hk => hk.2⟩
 rcases Nat.lt_or_ge k m with z | z
 ·exact z
 ·have : 2 ^ m ≤ 2 ^ k := Nat.pow_le_pow_right (by decide) z
  rw [Nat.testBit_lt_two_pow (by omega)] at hk
  cases hk
theorem zf0 {ps : List Int} {s : Nat} (h : s < 2 ^ ps.length) : za6 ps s = zc5 (zcm ps) fun p => s.testBit p.1 := by
 unfold za6 zc5 zcm
 rw [zmk h, List.filter_map, List.map_map]
 rfl
theorem zst {ps : List Int} {y n s : Nat} (hs : InS y n s) : zb2 (zcm ps) y n ≤ zc5 (zcm ps) fun p => s.testBit p.1 := by
 refine zkz fun p _ => ?_
 cases a : y.testBit p.1 with
 | true => rw [hs.1 _ a, Bool.true_or]; exact Int.le_refl _
 | false =>
  rw [Bool.false_or]
  cases b : n.testBit p.1 with
  | true => rw [hs.2 _ b, Bool.not_true, Bool.and_false]; exact Int.le_refl _
  | false =>
   rw [Bool.not_false, Bool.and_true]
   by_cases c : p.2 < 0
   ·rw [if_pos (decide_eq_true c)]
    split
    ·exact Int.le_refl _
    ·exact Int.le_of_lt c
   ·rw [if_neg (by rw [decide_eq_false c]; exact Bool.false_ne_true)]
    split
    ·exact Int.not_lt.mp c
    ·exact Int.le_refl _
structure znn (m : Nat) (ts : List Tie) (ps : List Int) (w : Nat) : Prop where
 ware : w ∈ zbh m ts
 le : ∀ v ∈ zbh m ts, za6 ps w ≤ za6 ps v
 fst : ∀ v ∈ zbh m ts, v < w → za6 ps w < za6 ps v
def zbk (ps : List Int) (p : Int) (y n : Nat) : Option PyData := if zmq ps p y n = true then some (.tuple [.str ("dear" : Str)]) else none
def ztr (m : Nat) (ts : List Tie) (ps : List Int) (w : Nat) : PyData := .tuple [.str ("best" : Str), .int (w : Int), .int (za6 ps w), zcr ts (zci ts) m (zbk ps (za6 ps w)) 9 1 0]
def ztx (m : Nat) (ts : List Tie) : PyData := .tuple [.str ("none" : Str), (zba ts (zci ts) m 9 1 0).toD]
def zt6 : Sp := fun vs H Q _ => ∃ (wd lp : Addr) (m : Nat) (ts : List Tie) (ps : List Int), vs = [.ref wd, .ref lp] ∧ WoodT H wd m ts ∧ 1 ≤ m ∧ m ≤ 9 ∧ H lp = some (.lst (ps.map V.int)) ∧ ps.length = m ∧
 (zbh m ts = [] → ∀ v H', Same H H' → Dn H' (ztx m ts) v → Q v H') ∧ ∀ w v H', znn m ts ps w → Same H H' → Dn H' (ztr m ts ps w) v → Q v H'
theorem zkq {m : Nat} {ts : List Tie} {ps : List Int} {w : Nat} (ok : ∀ t ∈ ts, t.Ok m) (m1 : 1 ≤ m) (hl : ps.length = m) (b : znn m ts ps w) : EndsR ts (zci ts) m (zbk ps (za6 ps w)) 1 0 := by
 refine ⟨fun y n => Stand m y n ∧ y.testBit 0 = true, ⟨zfg m1, rfl⟩, fun y n k h hk => ⟨⟨h.1.one hk, by rw [Nat.testBit_or, h.2, Bool.true_or]⟩, h.1.other hk, h.2⟩, fun y n h hb ho => ?_⟩
 have wy : y ∈ zbh m ts := by
  rw [mem_wareL]
  refine ⟨h.1.ym, ?_⟩
  unfold zd3
  rw [h.2, Bool.true_and, ← zhv, zii, List.all_eq_true]
  exact fun i hi => zhf ok h.1.dj ho (zey hb i hi)
 have le := b.le y wy
 have full : zb2 (zcm ps) y n = za6 ps y := by
  rw [zf0 (by rw [hl]; exact h.1.ym)]
  refine zli fun p hp => ?_
  unfold zcm at hp
  obtain ⟨k, hk, rfl⟩ := List.mem_map.mp hp
  rw [List.mem_range, hl] at hk
  show (y.testBit k || (decide (ps.getD k 0 < 0) && !n.testBit k)) = y.testBit k
  cases e : y.testBit k with
  | true => rfl
  | false =>
   cases e2 : n.testBit k with
   | true => rw [Bool.false_or, Bool.not_true, Bool.and_false]
   | false =>
    have := mem_open.mpr ⟨hk, e, e2⟩
    rw [ho] at this
    cases this
 unfold zbk zmq
 rw [full, if_pos (decide_eq_true le)]
 exact fun z => nomatch z
def za2 (m : Nat) (ts : List Tie) (ps : List Int) (p : Int) (w : Str) (y n : Nat) : Bool := if V.str w = V.str ("dear" : Str) then zmq ps p y n else zcc ts m w y n && decide (za6 ps y ≥ p)
def zmt : Sp := fun vs H Q _ => ∃ (wd lp : Addr) (m : Nat) (ts : List Tie) (ps : List Int) (p : Int) (w : Str) (y n : Nat), vs = [.ref wd, .ref lp, .int p, .str w, .int (y : Nat), .int (n : Nat)] ∧ WoodT H wd m ts ∧ H lp = some (.lst (ps.map V.int)) ∧ ps.length = m ∧ m ≤ 9 ∧ (zcc ts m w y n = true → y < 2 ^ m) ∧ ∀ H', Same H H' → Q (.bl (za2 m ts ps p w y n)) H'
def znz : Sp := fun vs H Q _ => ∃ (lp : Addr) (ps : List Int) (p : Int) (y n : Nat), vs = [.ref lp, .int p, .int (y : Nat), .int (n : Nat)] ∧ H lp = some (.lst (ps.map V.int)) ∧ ps.length ≤ 9 ∧ ∀ v H', Same H H' → zgt (zbk ps p) y n H' v → Q v H'
theorem ztd {m : Nat} {ts : List Tie} {ps : List Int} {i w : Nat} (hw : (zbh m ts)[i]? = some w) (h : ∀ j, j < (zav (zbh m ts)).length → za6 ps ((zbh m ts).getD i 0) ≤ za6 ps ((zbh m ts).getD j 0) ∧ (j < i → za6 ps ((zbh m ts).getD i 0) < za6 ps ((zbh m ts).getD j 0))) : znn m ts ps w := by
 have gi : (zbh m ts).getD i 0 = w := by rw [List.getD_eq_getElem?_getD, hw]; rfl
 have at_ : ∀ v ∈ zbh m ts, ∃ j, j < (zav (zbh m ts)).length ∧ (zbh m ts).getD j 0 = v ∧ (zbh m ts)[j]? = some v := fun v hv => by
  obtain ⟨j, hj⟩ := List.getElem?_of_mem hv
  exact ⟨j, by rw [List.length_map]; exact (List.getElem?_eq_some_iff.mp hj).1, by rw [List.getD_eq_getElem?_getD, hj]; rfl, hj⟩
 refine ⟨List.mem_of_getElem? hw, fun v hv => ?_, fun v hv lt => ?_⟩
 ·obtain ⟨j, hj, e, _⟩ := at_ v hv
  have := (h j hj).1
  rw [gi, e] at this
  exact this
 ·obtain ⟨j, hj, e, ej⟩ := at_ v hv
  have ji : j < i := by
   rcases Nat.lt_or_ge j i with z | z
   ·exact z
   ·have pw := List.pairwise_iff_getElem.mp (zjh m ts)
    obtain ⟨l1, e1⟩ := List.getElem?_eq_some_iff.mp hw
    obtain ⟨l2, e2⟩ := List.getElem?_eq_some_iff.mp ej
    rcases Nat.lt_or_eq_of_le z with y | y
    ·have := pw i j l1 l2 y
     omega
    ·subst y
     omega
  have := (h j hj).2 ji
  rw [gi, e] at this
  exact this
def zvt (lp : Addr) (ps : List Int) : Sp := fun vs H Q _ => ∃ s : Nat, vs = [.int (s : Int)] ∧ H lp = some (.lst (ps.map V.int)) ∧ s < 2 ^ ps.length ∧ ∀ H', Same H H' → Q (.int (za6 ps s)) H'
def zsa : Option Stmt → Expr
 | some (Stmt.Assign _ e _) => e
 | _ => .Constant .none 0 ⟨0, 0, 0, 0⟩
def zts : Expr → Expr
 | .Call _ _ (k :: _) _ => k.value
 | e => e
def zrq (f : Nat) : Sp := fun vs H Q _ => ∃ (wd lp : Addr) (m : Nat) (ts : List Tie) (ps : List Int) (p : Int) (t : WT) (v : V), vs = [.ref wd, .ref lp, .int p, v] ∧ WoodT H wd m ts ∧ 1 ≤ m ∧ m ≤ 9 ∧ H lp = some (.lst (ps.map V.int)) ∧ ps.length = m ∧ Dn H t.toD v ∧ t.good ∧ t.depth < f ∧ ∀ H', Same H H' → Q (.bl (isT ts m (za2 m ts ps p) t 1 0)) H'
def zqj (K : PySem.W.Frag) : Sp := fun vs H Q _ => ∃ (pen sp : Addr) (ns : List Int) (m : Nat) (k : Int), vs = [.ref pen, .int (m : Int)] ∧ Pen K H pen sp ns k ∧ 0 ≤ k ∧ k ≤ 800000 ∧ m ≤ 9 ∧
 ∀ (l : Addr) (ps : List Int) (k' : Int) (H' : Hp), SameX pen H H' → H' pen = some (.lst [.ref sp, .int k']) → k ≤ k' → k' ≤ k + 20 → H l = none → H' l = some (.lst (ps.map V.int)) → ps.length = m → Q (.ref l) H'
end Wd
set_option maxRecDepth 100000
set_option maxHeartbeats 4000000
namespace Wd
open PySem L2 Ow
def WT.strs : WT → Prop
 | .leaf w => PyData.strOk w = true
 | .broken _ => True
 | .split _ a b => a.strs ∧ b.strs
theorem zis : ∀ (t : WT) (f : Nat), t.strs → t.depth < f → zbe (f + 1) t.toD = true
 | .leaf w, f, h, _ => by
  show (decide (1 ≤ 1000) && List.all [PyData.str w] (zbe f)) = true
  simp [zbe, show PyData.strOk w = true from h]
 | .broken t, f, _, _ => by
  show (decide (2 ≤ 1000) && List.all [PyData.str ("broken" : Str), .int t] (zbe f)) = true
  simp [zbe, zs2]
 | .split k a b, f, h, hd => by
  have e : (WT.split k a b).depth = max a.depth b.depth + 1 := rfl
  obtain ⟨f', rfl⟩ : ∃ f', f = f' + 1 := ⟨f - 1, by omega⟩
  have ha := zis a f' h.1 (by omega)
  have hb := zis b f' h.2 (by omega)
  show (decide (4 ≤ 1000) && List.all [PyData.str ("split" : Str), .int k, a.toD, b.toD] (zbe (f' + 1))) = true
  simp [zbe, ztn, ha, hb]
theorem WT.tupA {H H' : Hp} {t : WT} {v : V} (h : zgz H H') (wa : t.strs) (dn : Dn H t.toD v) : Dn H' t.toD v := Dn.keepT h (t.depth + 2) _ _ (zis t (t.depth + 1) wa (Nat.lt_succ_self _)) dn
theorem zn2 {ts : List Tie} {m : Nat} {leaf : Nat → Nat → Option PyData} {lf : Str → Nat → Nat → Bool} (hw : ∀ y n d, leaf y n = some d → ∃ w : Str, d = .tuple [.str w] ∧ (WT.leaf w).good ∧ lf w y n = true ∧ PyData.strOk w = true)
  {R : Nat → Nat → Prop} (rs : ∀ y n k, R y n → k ∈ zar m y n → R (y ||| 2 ^ k) n ∧ R y (n ||| 2 ^ k)) (re : ∀ y n, R y n → za7 ts (zci ts) y n = none → zar m y n = [] → leaf y n ≠ none) :
  ∀ (f y n : Nat), (zar m y n).length ≤ f → R y n → ∃ t : WT, t.toD = zcr ts (zci ts) m leaf f y n ∧ t.good ∧ t.depth ≤ f ∧ isT ts m lf t y n = true ∧ t.strs
 | f, y, n, hf, r => by
  cases hb : za7 ts (zci ts) y n with
  | some t =>
   rw [zc8 hb]
   refine ⟨.broken (t : Int), rfl, trivial, Nat.zero_le _, ?_, trivial⟩
   obtain ⟨h1, h2⟩ := zej hb
   have tl := List.mem_range.mp h1
   show brB ts (t : Int) y n = true
   unfold brB
   rw [decide_eq_true (by omega), decide_eq_true (by omega), Int.toNat_natCast, h2]
   rfl
  | none =>
   cases hl : leaf y n with
   | some d =>
    rw [zen hb hl]
    obtain ⟨w, rfl, g, ok, so⟩ := hw y n d hl
    exact ⟨.leaf w, rfl, g, Nat.zero_le _, ok, so⟩
   | none =>
    cases ho : zar m y n with
    | nil => exact absurd hl (re y n r hb ho)
    | cons k q =>
     have hk : k ∈ zar m y n := by rw [ho]; exact List.mem_cons_self
     have l1 := zcd hk
     have l2 := zca hk
     obtain ⟨f, rfl⟩ : ∃ f', f = f' + 1 := ⟨f - 1, by rw [ho, List.length_cons] at hf; omega⟩
     obtain ⟨a, a1, a2, a3, a4, a5⟩ := zn2 hw rs re f (y ||| 2 ^ k) n (by omega) (rs y n k r hk).1
     obtain ⟨b, b1, b2, b3, b4, b5⟩ := zn2 hw rs re f y (n ||| 2 ^ k) (by omega) (rs y n k r hk).2
     refine ⟨.split (k : Int) a b, ?_, ⟨a2, b2⟩, Nat.succ_le_succ (Nat.max_le.mpr ⟨a3, b3⟩), ?_, a5, b5⟩
     ·rw [zdk hb hl ho, ← a1, ← b1]
      rfl
     ·show (if 0 ≤ (k : Int) ∧ (k : Int).toNat ∈ zar m y n then _ else _) = true
      rw [Int.toNat_natCast, if_pos ⟨by omega, hk⟩, a4, b4]
      rfl
theorem zi9 : (WT.leaf ("dear" : Str)).good := by
 unfold WT.good
 decide +kernel
theorem zja {m : Nat} {ts : List Tie} {ps : List Int} {p : Int} (y n : Nat) (d : PyData) (h : zbk ps p y n = some d) : ∃ w : Str, d = .tuple [.str w] ∧ (WT.leaf w).good ∧ za2 m ts ps p w y n = true ∧ PyData.strOk w = true := by
 unfold zbk at h
 split at h
 ·next c =>
  cases h
  exact ⟨_, rfl, zi9, by unfold za2; rw [if_pos rfl]; exact c, by decide +kernel⟩
 ·cases h
theorem zfk {ts : List Tie} {m : Nat} {ps : List Int} {p : Int} (ok : ∀ t ∈ ts, t.Ok m) (lm : ps.length = m) {s : Nat} (sw : s ∈ zbh m ts) : ∀ (t : WT) (y n : Nat), isT ts m (za2 m ts ps p) t y n = true → Stand m y n → InS y n s → p ≤ za6 ps s
 | .broken t, y, n, h, S, hs => by
  have h : brB ts t y n = true := h
  unfold brB at h
  rw [Bool.and_eq_true, Bool.and_eq_true, decide_eq_true_eq, decide_eq_true_eq] at h
  obtain ⟨h0, h1, h2⟩ := h
  have kf := zkg ok S.dj h2 hs
  have w := (mem_wareL.mp sw).2
  unfold zd3 at w
  rw [Bool.and_eq_true, List.all_eq_true] at w
  unfold zem at kf
  rw [List.getElem?_eq_getElem (by omega)] at kf
  have k2 := w.2 _ (List.getElem_mem (by omega : t.toNat < ts.length))
  rw [show ts[t.toNat].keep s = false from kf] at k2
  cases k2
 | .leaf w, y, n, h, S, hs => by
  have h : za2 m ts ps p w y n = true := h
  have sm := (mem_wareL.mp sw).1
  unfold za2 at h
  split at h
  ·have d := of_decide_eq_true h
   have e := zst (ps := ps) hs
   rw [← zf0 (by rw [lm]; exact sm)] at e
   omega
  ·rw [Bool.and_eq_true, decide_eq_true_eq] at h
   have o := h.1
   unfold zcc at o
   rw [Bool.and_eq_true, Bool.and_eq_true, decide_eq_true_eq, decide_eq_true_eq] at o
   rw [zio S o.2.1 hs sm]
   exact h.2
 | .split k a b, y, n, h, S, hs => by
  obtain ⟨k0, ko, ha, hb⟩ := ziq h
  cases e : s.testBit k.toNat with
  | true => exact zfk ok lm sw a _ _ ha (S.one ko) (zse hs e)
  | false => exact zfk ok lm sw b _ _ hb (S.other ko) (zp8 hs e)
end Wd
set_option maxRecDepth 100000
set_option maxHeartbeats 4000000
namespace L2
open PySem PySem.Spec PyProof.Rows
end L2
namespace Wd
open PySem L2 Ow
theorem zsf {H : Hp} {m : Nat} {ts : List Tie} {ps : List Int} {w : Nat} {v : V} (h : Dn H (ztr m ts ps w) v) : ∃ f v3, v = .ref f ∧ H f = some (.tup [.str ("best" : Str), .int (w : Int), .int (za6 ps w), v3]) ∧ Dn H (zcr ts (zci ts) m (zbk ps (za6 ps w)) 9 1 0) v3 := by
 obtain ⟨f, xs, rfl, hf, x0, r0, rfl, h0, x1, r1, rfl, h1, x2, r2, rfl, h2, x3, r3, rfl, h3, hn⟩ := zbo h
 cases (show r3 = [] from hn)
 cases (show x0 = .str ("best" : Str) from h0)
 cases (show x1 = .int (w : Int) from h1)
 cases (show x2 = .int (za6 ps w) from h2)
 exact ⟨f, x3, rfl, hf, h3⟩
theorem zs4 {H : Hp} {m : Nat} {ts : List Tie} {v : V} (h : Dn H (ztx m ts) v) : ∃ f v1, v = .ref f ∧ H f = some (.tup [.str ("none" : Str), v1]) ∧ Dn H (zba ts (zci ts) m 9 1 0).toD v1 := by
 obtain ⟨f, xs, rfl, hf, x0, r0, rfl, h0, x1, r1, rfl, h1, hn⟩ := zbo h
 cases (show r1 = [] from hn)
 cases (show x0 = .str ("none" : Str) from h0)
 exact ⟨f, x1, rfl, hf, h1⟩
theorem zql {K : PySem.W.Frag} {a : Addr} {l : List Nat} {σ0 σr : St} {H : Hp} {tc : TT} {te : TE} {Q : VK} (gB : Nat → Bool) (fI : Nat → Int) (h0 : σ0 = none :: σr) (ha : H a = some (.lst (zav l))) (few : l.length ≤ 1000)
  (ht : ∀ s ∈ l, ∀ H2, ∀ R : Bool → Hp → Prop, R (gB s) H2 → tc (some (.int (s : Int)) :: σr) H2 R)
  (he : ∀ s ∈ l, ∀ H2, Same H H2 → ∀ R : V → Hp → Prop, (∀ H3, Same H H3 → R (.int (fI s)) H3) → te (some (.int (s : Int)) :: σr) H2 R)
  (hd : ∀ H2 p, Same H H2 → H2 p = none → Q (.ref p) (L2.upd H2 p (.lst (((l.filter gB).map fI).map V.int)))) :
  zj1 (Itl K a) (zjs 0) tc te σ0 H Q := by
 refine zdp (K := K) (a := a) (xs := zav l) (fun i ys σ H2 => (∃ v, σ = v :: σr) ∧ Same H H2 ∧ ys = (((l.take i).filter gB).map fI).map V.int) ⟨⟨none, h0⟩, Same.refl _, rfl⟩ (fun i ys σ H2 hi pv => ?_) (fun i ys σ H2 hi pv => ?_) (fun i x ys σ H2 hx pv => ?_) (fun ys σ H2 pv p hp => ?_)
 ·obtain ⟨_, _, rfl⟩ := pv
  rw [List.length_map, List.length_map]
  refine small (Nat.le_trans (List.length_filter_le _ _) ?_)
  rw [List.length_take]
  omega
 ·exact SqL.of (pv.2.1 _ _ ha)
 ·obtain ⟨⟨v, rfl⟩, s2, rfl⟩ := pv
  rw [List.getElem?_map] at hx
  obtain ⟨n, hn, rfl⟩ := Option.map_eq_some_iff.mp hx
  have hm := List.mem_of_getElem? hn
  refine ht n hm H2 _ ?_
  have e := PySem.take_succ_filter gB l i n hn
  cases c : gB n with
  | true =>
   rw [if_pos rfl]
   refine he n hm H2 s2 _ fun H3 s3 => ⟨⟨_, rfl⟩, s3, ?_⟩
   rw [e, if_pos c, List.map_append, List.map_append]
   rfl
  | false =>
   rw [if_neg Bool.false_ne_true]
   refine ⟨⟨_, rfl⟩, s2, ?_⟩
   rw [e, if_neg (by rw [c]; exact Bool.false_ne_true), List.append_nil]
 ·obtain ⟨_, s2, rfl⟩ := pv
  have e : l.take (zav l).length = l := by rw [show (zav l).length = l.length from List.length_map _, List.take_length]
  rw [e]
  exact hd H2 p s2 hp
end Wd
set_option maxRecDepth 100000
set_option maxHeartbeats 4000000
namespace Wd
open PySem L2 Ow
def zr3 : Sp := fun vs H Q _ => ∃ (lp : Addr) (ps : List Int) (s : Nat), vs = [.ref lp, .int (s : Int)] ∧ H lp = some (.lst (ps.map V.int)) ∧ ps.length ≤ 9 ∧ ∀ H', Same H H' → Q (.int (zc5 (zcm ps) fun p => s.testBit p.1)) H'
end Wd
set_option maxRecDepth 100000
set_option maxHeartbeats 4000000
namespace Wd
open PySem L2 Ow
theorem SameX.fresh {pen : Addr} {H H1 H' : Hp} {ys : List V} (s0 : Same H H1) (n : H pen = none) (hp : H1 pen = some (.lst ys)) (s : SameX pen H1 H') : Same H H' := fun b o h => by
 have ne : b ≠ pen := zax h n
 have z := s0 b o h
 cases o
 case tbl ps =>
  obtain ⟨⟨qs, hq⟩, k⟩ := z
  have y := s b _ ne hq
  exact ⟨y.1, fun t => (y.2 (k t) ⟨_, hp⟩).1⟩
 all_goals exact s b _ ne z
theorem zq9 {xs r : List V} {x : V} (h : xs.reverse = x :: r) : xs[xs.length - 1]? = some x ∧ xs.dropLast.reverse = r ∧ xs.length = r.length + 1 := by
 have e : xs = r.reverse ++ [x] := by
  rw [← List.reverse_reverse xs, h, List.reverse_cons]
 subst e
 refine ⟨by simp, by simp, by simp⟩
theorem zph {m y n : Nat} {ps : List Int} (S : Stand m y n) (lm : ps.length = m) : zc5 (zcm ps) (fun p => y.testBit p.1) + ((zar m y n).map fun k => min 0 (ps.getD k 0)).sum = zb2 (zcm ps) y n := by
 have e1 : ((zar m y n).map fun k => min 0 (ps.getD k 0)).sum = zc5 (zcm ps) fun p => (!y.testBit p.1) && (decide (p.2 < 0) && !n.testBit p.1) := by
  unfold zar zc5 zcm
  rw [lm, List.filter_map, List.map_map]
  have go : ∀ l : List Nat, ((l.filter fun k => !(y ||| n).testBit k).map fun k => min 0 (ps.getD k 0)).sum = ((l.filter ((fun p : Nat × Int => (!y.testBit p.1) && (decide (p.2 < 0) && !n.testBit p.1)) ∘ fun k => (k, ps.getD k 0))).map ((fun x : Nat × Int => x.2) ∘ fun k => (k, ps.getD k 0))).sum := by
   intro l
   induction l with
   | nil => rfl
   | cons k r ih =>
    rw [List.filter_cons, List.filter_cons, Nat.testBit_or]
    show _ = List.sum (List.map _ (if ((!y.testBit k) && (decide (ps.getD k 0 < 0) && !n.testBit k)) = true then _ else _))
    cases a : y.testBit k <;> cases b : n.testBit k
    ·by_cases c : ps.getD k 0 < 0
     ·rw [decide_eq_true c]
      show (min 0 (ps.getD k 0) :: _).sum = (ps.getD k 0 :: _).sum
      rw [List.sum_cons, List.sum_cons, ih]
      omega
     ·rw [decide_eq_false c]
      show (min 0 (ps.getD k 0) :: _).sum = _
      rw [List.sum_cons, ih]
      show min 0 (ps.getD k 0) + _ = List.sum (List.map _ _)
      have : min 0 (ps.getD k 0) = 0 := by omega
      rw [this, Int.zero_add]
      rfl
    ·by_cases c : ps.getD k 0 < 0
     ·rw [decide_eq_true c]; exact ih
     ·rw [decide_eq_false c]; exact ih
    ·exact ih
    ·exact ih
  exact go _
 have e2 : ∀ l : List (Nat × Int), zc5 l (fun p => y.testBit p.1) + zc5 l (fun p => (!y.testBit p.1) && (decide (p.2 < 0) && !n.testBit p.1)) = zc5 l fun p => y.testBit p.1 || (decide (p.2 < 0) && !n.testBit p.1) := by
  intro l
  induction l with
  | nil => rfl
  | cons p r ih =>
   rw [zd2, zd2, zd2]
   cases a : y.testBit p.1
   ·simp only [Bool.false_or, Bool.not_false, Bool.true_and, Bool.false_eq_true, if_false]
    omega
   ·simp only [Bool.true_or, Bool.not_true, Bool.false_and, Bool.false_eq_true, if_false, if_true]
    omega
 rw [e1, e2]
 rfl
end Wd
set_option maxRecDepth 100000
set_option maxHeartbeats 4000000
namespace Wd
open PySem L2 Ow
def stL (y n : Nat) : Nat → List Nat
 | 0 => [y]
 | i + 1 => if (!(y ||| n).testBit i) = true then stL y n i ++ (stL y n i).map (· ||| 2 ^ i) else stL y n i
theorem mem_stL {y n : Nat} : ∀ {i s : Nat}, s ∈ stL y n i ↔ ∀ j, s.testBit j = y.testBit j ∨ (j < i ∧ y.testBit j = false ∧ n.testBit j = false)
 | 0, s => by
  unfold stL
  rw [List.mem_singleton]
  constructor
  ·rintro rfl j
   exact .inl rfl
  ·intro h
   refine Nat.eq_of_testBit_eq fun j => ?_
   rcases h j with z | z
   ·exact z
   ·exact absurd z.1 (Nat.not_lt_zero _)
 | i + 1, s => by
  unfold stL
  split
  ·next c =>
   rw [Bool.not_eq_true', Nat.testBit_or, Bool.or_eq_false_iff] at c
   rw [List.mem_append, List.mem_map]
   constructor
   ·rintro (h | ⟨z, h, rfl⟩) j
    ·rcases mem_stL.mp h j with w | w
     ·exact .inl w
     ·exact .inr ⟨by omega, w.2⟩
    ·rw [Nat.testBit_or, Nat.testBit_two_pow]
     by_cases e : i = j
     ·subst e
      exact .inr ⟨by omega, c⟩
     ·rw [decide_eq_false e, Bool.or_false]
      rcases mem_stL.mp h j with w | w
      ·exact .inl w
      ·exact .inr ⟨by omega, w.2⟩
   ·intro h
    cases b : s.testBit i with
    | false =>
     refine .inl (mem_stL.mpr fun j => ?_)
     by_cases e : j = i
     ·subst e
      exact .inl (by rw [b, c.1])
     ·rcases h j with w | w
      ·exact .inl w
      ·exact .inr ⟨by omega, w.2⟩
    | true =>
     refine .inr ⟨s ^^^ 2 ^ i, mem_stL.mpr fun j => ?_, ?_⟩
     ·rw [Nat.testBit_xor, Nat.testBit_two_pow]
      by_cases e : i = j
      ·subst e
       exact .inl (by rw [b, decide_eq_true rfl, c.1]; rfl)
      ·rw [decide_eq_false e, Bool.xor_false]
       rcases h j with w | w
       ·exact .inl w
       ·exact .inr ⟨by omega, w.2⟩
     ·refine Nat.eq_of_testBit_eq fun j => ?_
      rw [Nat.testBit_or, Nat.testBit_xor, Nat.testBit_two_pow]
      by_cases e : i = j
      ·subst e
       rw [b, decide_eq_true rfl]
       rfl
      ·rw [decide_eq_false e, Bool.xor_false, Bool.or_false]
  ·next c =>
   rw [Bool.not_eq_true', Nat.testBit_or] at c
   constructor
   ·intro h j
    rcases mem_stL.mp h j with w | w
    ·exact .inl w
    ·exact .inr ⟨by omega, w.2⟩
   ·intro h
    refine mem_stL.mpr fun j => ?_
    rcases h j with w | w
    ·exact .inl w
    ·by_cases e : j = i
     ·subst e
      exact absurd (by rw [w.2.1, w.2.2]; rfl) c
     ·exact .inr ⟨by omega, w.2⟩
theorem zln {y n : Nat} : ∀ i, (stL y n i).length ≤ 2 ^ i
 | 0 => Nat.le_refl _
 | i + 1 => by
  have := zln (y := y) (n := n) i
  unfold stL
  rw [Nat.pow_succ]
  split
  ·rw [List.length_append, List.length_map]
   omega
  ·omega
theorem zoq {m y n s : Nat} (S : Stand m y n) : s ∈ stL y n m ↔ s < 2 ^ m ∧ InS y n s := by
 rw [mem_stL]
 constructor
 ·intro h
  refine ⟨?_, fun k hk => ?_, fun k hk => ?_⟩
  ·refine Nat.lt_of_not_le fun z => ?_
   obtain ⟨j, jm, hj⟩ := Nat.exists_ge_and_testBit_of_ge_two_pow z
   rcases h j with w | w
   ·have : y < 2 ^ j := Nat.lt_of_lt_of_le S.ym (Nat.pow_le_pow_right (by decide) jm)
    rw [w, Nat.testBit_lt_two_pow this] at hj
    cases hj
   ·omega
  ·rcases h k with w | w
   ·rw [w, hk]
   ·rw [hk] at w
    cases w.2.1
  ·rcases h k with w | w
   ·cases b : y.testBit k with
    | false => rw [w, b]
    | true =>
     rw [S.dj k b] at hk
     cases hk
   ·rw [hk] at w
    cases w.2.2
 ·rintro ⟨sm, h1, h2⟩ j
  cases b : y.testBit j with
  | true => exact .inl (h1 j b)
  | false =>
   cases c : n.testBit j with
   | true => exact .inl (h2 j c)
   | false =>
    by_cases jm : j < m
    ·exact .inr ⟨jm, rfl, rfl⟩
    ·refine .inl (Nat.testBit_lt_two_pow (Nat.lt_of_lt_of_le sm (Nat.pow_le_pow_right (by decide) (by omega))))
theorem zt3 {m y n : Nat} {t : Tie} (S : Stand m y n) (ok : t.Ok m) : decide (((stL y n m).filter fun s => t.keep s).length = 0) = t.sb y n := by
 rw [Bool.eq_iff_iff, decide_eq_true_eq, List.length_eq_zero_iff, List.filter_eq_nil_iff, zsm ok S]
 constructor
 ·intro h s hs hi
  exact Bool.eq_false_iff.mpr (h s ((zoq S).mpr ⟨hs, hi⟩))
 ·intro h s hs
  obtain ⟨h1, h2⟩ := (zoq S).mp hs
  rw [h s h1 h2]
  exact Bool.false_ne_true
def zv3 : Sp := fun vs H Q _ => ∃ (m y n : Nat), vs = [.int (m : Int), .int (y : Int), .int (n : Int)] ∧ m ≤ 9 ∧ ∀ (l : Addr) (H' : Hp), Same H H' → H' l = some (.lst (zav (stL y n m))) → Q (.ref l) H'
theorem zqh (l : List Nat) (f : Nat → Nat) : ((l.filter fun _ => true).map fun s => ((f s : Nat) : Int)).map V.int = zav (l.map f) := by
 rw [List.filter_eq_self.mpr fun _ _ => rfl]
 unfold zav
 rw [List.map_map, List.map_map]
 rfl
def zr1 (m : Nat) (ts : List Tie) (ps : List Int) (p : Int) : WT → Nat → Nat → Bool
 | .broken t, y, n => brB ts t y n
 | .leaf w, y, n => za2 m ts ps p w y n
 | .split _ _ _, _, _ => false
def WT.dw : WT → Prop
 | .leaf w => w = ("dear" : Str) ∨ w = ("ware" : Str)
 | .broken _ => True
 | .split _ a b => a.dw ∧ b.dw
def WT.isLeaf : WT → Prop
 | .split _ _ _ => False
 | _ => True
def zsh : Sp := fun vs H Q _ => ∃ (wd lp : Addr) (m : Nat) (ts : List Tie) (ps : List Int) (p : Int) (y n : Nat) (t : WT) (v : V), vs = [.ref wd, .ref lp, .int p, .int (y : Int), .int (n : Int), v] ∧ WoodT H wd m ts ∧ m ≤ 9 ∧ H lp = some (.lst (ps.map V.int)) ∧ ps.length = m ∧ Dn H t.toD v ∧ t.dw ∧ t.isLeaf ∧ Stand m y n ∧ y.testBit 0 = true ∧ ∀ H', Same H H' → Q (.bl (zr1 m ts ps p t y n)) H'
theorem zh8 : ¬ V.str ("dear" : Str) = V.str ("broken" : Str) := by decide +kernel
theorem zf8 : ¬ V.str ("ware" : Str) = V.str ("dear" : Str) := by decide +kernel
def WT.size : WT → Nat
 | .split _ a b => a.size + b.size + 1
 | _ => 1
theorem WT.size_le : ∀ t : WT, t.size + 1 ≤ 2 ^ (t.depth + 1)
 | .leaf _ => Nat.le_refl _
 | .broken _ => Nat.le_refl _
 | .split _ a b => by
  have ha := size_le a
  have hb := size_le b
  have h1 : 2 ^ (a.depth + 1) ≤ 2 ^ (max a.depth b.depth + 1) := Nat.pow_le_pow_right (by decide) (by omega)
  have h2 : 2 ^ (b.depth + 1) ≤ 2 ^ (max a.depth b.depth + 1) := Nat.pow_le_pow_right (by decide) (by omega)
  show a.size + b.size + 1 + 1 ≤ 2 ^ (max a.depth b.depth + 1 + 1)
  rw [Nat.pow_succ 2 (max a.depth b.depth + 1)]
  omega
abbrev TS3 := Nat × Nat × WT
def EntT (m : Nat) (H : Hp) : List V → List TS3 → Prop
 | [], [] => True
 | x :: r, e :: q => (∃ (a : Addr) (v : V), x = .ref a ∧ H a = some (.tup [.int (e.1 : Int), .int (e.2.1 : Int), v]) ∧ Dn H e.2.2.toD v ∧ e.2.2.dw ∧ Stand m e.1 e.2.1 ∧ e.1.testBit 0 = true) ∧ EntT m H r q
 | _, _ => False
theorem zsn : PyData.strOk ("dear" : Str) = true := by decide +kernel
theorem zbm : ∀ t : WT, t.dw → t.strs
 | .leaf w, h => by
  rcases h with rfl | rfl
  ·exact zsn
  ·exact ztm
 | .broken _, _ => trivial
 | .split _ a b, h => ⟨zbm a h.1, zbm b h.2⟩
theorem zea : ∀ t : WT, t.dw → t.good
 | .leaf w, h => by
  rcases h with rfl | rfl
  ·exact zi9
  ·exact ⟨zhz, zoa⟩
 | .broken _, _ => trivial
 | .split _ a b, h => ⟨zea a h.1, zea b h.2⟩
theorem EntT.to {m : Nat} {H H' : Hp} (t : zgz H H') : ∀ {xs : List V} {S : List TS3}, EntT m H xs S → EntT m H' xs S
 | [], [], _ => trivial
 | x :: r, e :: q, ⟨⟨a, v, h1, h2, h3, h4, h5⟩, hr⟩ => ⟨⟨a, v, h1, t _ _ h2, WT.tupA t (zbm _ h4) h3, h4, h5⟩, EntT.to t hr⟩
theorem EntT.len {m : Nat} {H : Hp} : ∀ {xs : List V} {S : List TS3}, EntT m H xs S → xs.length = S.length
 | [], [], _ => rfl
 | x :: r, e :: q, ⟨_, h⟩ => congrArg Nat.succ (EntT.len h)
theorem EntT.nil {m : Nat} {H : Hp} {xs : List V} (h : EntT m H xs []) : xs = [] := by
 cases xs with
 | nil => rfl
 | cons x r => exact h.elim
theorem EntT.top {m : Nat} {H : Hp} {xs : List V} {e : TS3} {S : List TS3} (h : EntT m H xs (e :: S)) : ∃ x r, xs = x :: r ∧ (∃ (a : Addr) (v : V), x = .ref a ∧ H a = some (.tup [.int (e.1 : Int), .int (e.2.1 : Int), v]) ∧ Dn H e.2.2.toD v ∧ e.2.2.dw ∧ Stand m e.1 e.2.1 ∧ e.1.testBit 0 = true) ∧ EntT m H r S := by
 cases xs with
 | nil => exact h.elim
 | cons x r => exact ⟨x, r, rfl, h.1, h.2⟩
def zd5 (S : List TS3) : Nat := (S.map fun e => e.2.2.size).sum
theorem zkb : ∀ S : List TS3, S.length ≤ zd5 S
 | [] => Nat.zero_le _
 | e :: r => by
  have := zkb r
  have h : 1 ≤ e.2.2.size := by
   cases e.2.2 with
   | leaf w => exact Nat.le_refl _
   | broken t => exact Nat.le_refl _
   | split k a b => exact Nat.succ_le_succ (Nat.zero_le _)
  unfold zd5 at this ⊢
  rw [List.map_cons, List.sum_cons, List.length_cons]
  omega
theorem zol {n : Nat} (h : n ≤ 500000) : n < sizeLine := Nat.lt_of_le_of_lt h (by decide)
def zkh (m : Nat) (ts : List Tie) (ps : List Int) (p : Int) (S : List TS3) : Bool := S.all fun e => isT ts m (za2 m ts ps p) e.2.2 e.1 e.2.1
def zt5 : Sp := fun vs H Q _ => ∃ (wd lp : Addr) (m : Nat) (ts : List Tie) (ps : List Int) (p : Int) (t : WT) (v : V), vs = [.ref wd, .ref lp, .int p, v] ∧ WoodT H wd m ts ∧ 1 ≤ m ∧ m ≤ 9 ∧ H lp = some (.lst (ps.map V.int)) ∧ ps.length = m ∧ Dn H t.toD v ∧ t.dw ∧ t.depth ≤ 17 ∧ ∀ H', Same H H' → Q (.bl (isT ts m (za2 m ts ps p) t 1 0)) H'
theorem leaf_at {H : Hp} {t : WT} {v : V} (hl : t.isLeaf) (dw : t.dw) (dn : Dn H t.toD v) : ∃ (a : Addr) (w : Str) (r : List V), v = .ref a ∧ H a = some (.tup (.str w :: r)) ∧ ¬ V.str w = V.str ("split" : Str) := by
 cases t with
 | split k a b => exact hl.elim
 | broken t =>
  obtain ⟨a, zs, rfl, ha, x0, r0, rfl, h0, _⟩ := zbo dn
  cases (show x0 = .str ("broken" : Str) from h0)
  exact ⟨a, _, _, rfl, ha, by decide +kernel⟩
 | leaf w =>
  obtain ⟨a, zs, rfl, ha, x0, r0, rfl, h0, _⟩ := zbo dn
  cases (show x0 = .str w from h0)
  exact ⟨a, _, _, rfl, ha, (zea _ dw).2⟩
theorem zqf {m : Nat} {ts : List Tie} {ps : List Int} {p : Int} {t : WT} {y n : Nat} (hl : t.isLeaf) : zr1 m ts ps p t y n = isT ts m (za2 m ts ps p) t y n ∧ 1 ≤ t.size := by
 cases t with
 | split k a b => exact hl.elim
 | broken t => exact ⟨rfl, Nat.le_refl _⟩
 | leaf w => exact ⟨rfl, Nat.le_refl _⟩
theorem zqs {t : WT} (h : ¬ t.isLeaf) : ∃ k a b, t = .split k a b := by
 cases t with
 | split k a b => exact ⟨k, a, b, rfl⟩
 | broken t => exact absurd trivial h
 | leaf w => exact absurd trivial h
def zjr (K : PySem.W.Frag) (f : Nat) : Sp := fun vs H Q _ => ∃ (pen sp : Addr) (ns : List Int) (m deep : Nat) (k : Int), vs = [.ref pen, .int (m : Int), .int (deep : Int)] ∧ Pen K H pen sp ns k ∧ 0 ≤ k ∧ k + 4 * ((2 ^ deep : Nat) : Int) ≤ 700000 ∧ m ≤ 9 ∧ deep ≤ 9 ∧ deep < f ∧
 ∀ (t : WT) (v : V) (k' : Int) (H' : Hp), SameX pen H H' → H' pen = some (.lst [.ref sp, .int k']) → k ≤ k' → k' ≤ k + 4 * ((2 ^ deep : Nat) : Int) - 2 → Dn H' t.toD v → t.dw → t.depth ≤ deep → Q v H'
def zlx (K : PySem.W.Frag) : Sp := fun vs H Q _ => ∃ (pen sp : Addr) (ns : List Int) (m : Nat) (t0 : WT) (v0 : V) (k : Int), vs = [.ref pen, .int (m : Int), v0] ∧ Pen K H pen sp ns k ∧ 0 ≤ k ∧ k ≤ 800000 ∧ 1 ≤ m ∧ m ≤ 9 ∧ Dn H t0.toD v0 ∧ t0.dw ∧
 ∀ (t : WT) (v : V) (k' : Int) (H' : Hp), SameX pen H H' → H' pen = some (.lst [.ref sp, .int k']) → k ≤ k' → k' ≤ k + 2 → Dn H' t.toD v → t.dw → t.depth ≤ t0.depth + 1 → Q v H'
def znh (K : PySem.W.Frag) (f : Nat) : Sp := fun vs H Q _ => ∃ (pen sp : Addr) (ns : List Int) (m deep : Nat) (t0 : WT) (v0 : V) (k : Int), vs = [.ref pen, .int (m : Int), v0, .int (deep : Int)] ∧ Pen K H pen sp ns k ∧ 0 ≤ k ∧ k + 2 * (deep : Int) ≤ 700000 ∧ 1 ≤ m ∧ m ≤ 9 ∧ deep ≤ 9 ∧ deep < f ∧ Dn H t0.toD v0 ∧ t0.dw ∧
 ∀ (t : WT) (v : V) (k' : Int) (H' : Hp), SameX pen H H' → H' pen = some (.lst [.ref sp, .int k']) → k ≤ k' → k' ≤ k + 3 + 2 * (deep : Int) → Dn H' t.toD v → t.dw → t.depth ≤ t0.depth + 1 → Q v H'
theorem zig {H : Hp} {a : Addr} {w : Str} (h : H a = some (.tup [.str w])) : Dn H (WT.leaf w).toD (.ref a) := ⟨a, _, rfl, h, _, _, rfl, rfl, rfl⟩
theorem zhe {H : Hp} {a : Addr} {t : Int} (h : H a = some (.tup [.str ("broken" : Str), .int t])) : Dn H (WT.broken t).toD (.ref a) := ⟨a, _, rfl, h, _, _, rfl, rfl, _, _, rfl, rfl, rfl⟩
theorem zd9 {H : Hp} {a : Addr} {k : Int} {ta tb : WT} {va vb : V} (h : H a = some (.tup [.str ("split" : Str), .int k, va, vb])) (ha : Dn H ta.toD va) (hb : Dn H tb.toD vb) : Dn H (WT.split k ta tb).toD (.ref a) := ⟨a, _, rfl, h, _, _, rfl, rfl, _, _, rfl, rfl, _, _, rfl, ha, _, _, rfl, hb, rfl⟩
theorem zf3 {H : Hp} {k : Int} {ta tb : WT} {v : V} (h : Dn H (WT.split k ta tb).toD v) : ∃ a va vb, v = .ref a ∧ H a = some (.tup [.str ("split" : Str), .int k, va, vb]) ∧ Dn H ta.toD va ∧ Dn H tb.toD vb := by
 obtain ⟨a, zs, rfl, ha, x0, r0, rfl, h0, x1, r1, rfl, h1, va, r2, rfl, da, vb, r3, rfl, db, hn⟩ := zbo h
 cases (show r3 = [] from hn)
 cases (show x1 = .int k from h1)
 cases (show x0 = .str ("split" : Str) from h0)
 exact ⟨a, va, vb, rfl, ha, da, db⟩
theorem zi2 {H : Hp} {t : Int} {v : V} (h : Dn H (WT.broken t).toD v) : ∃ a, v = .ref a ∧ H a = some (.tup [.str ("broken" : Str), .int t]) := by
 obtain ⟨a, zs, rfl, ha, x0, r0, rfl, h0, x1, r1, rfl, h1, hn⟩ := zbo h
 cases (show r1 = [] from hn)
 cases (show x1 = .int t from h1)
 cases (show x0 = .str ("broken" : Str) from h0)
 exact ⟨a, rfl, ha⟩
theorem zrk {H : Hp} {w : Str} {v : V} (h : Dn H (WT.leaf w).toD v) : ∃ a, v = .ref a ∧ H a = some (.tup [.str w]) := by
 obtain ⟨a, zs, rfl, ha, x0, r0, rfl, h0, hn⟩ := zbo h
 cases (show r0 = [] from hn)
 cases (show x0 = .str w from h0)
 exact ⟨a, rfl, ha⟩
theorem WT.first {H : Hp} {t : WT} {v : V} (h : Dn H t.toD v) : ∃ a w r, v = .ref a ∧ H a = some (.tup (.str w :: r)) ∧ (V.str w = V.str ("split" : Str) → t.good → ∃ k ta tb, t = .split k ta tb) ∧ (V.str w = V.str ("broken" : Str) → t.good → ∃ b, t = .broken b) := by
 cases t with
 | leaf w =>
  obtain ⟨a, rfl, ha⟩ := zrk h
  exact ⟨a, _, _, rfl, ha, fun z g => absurd z g.2, fun z g => absurd z g.1⟩
 | broken b =>
  obtain ⟨a, rfl, ha⟩ := zi2 h
  exact ⟨a, _, _, rfl, ha, fun z => absurd z (by decide +kernel), fun _ _ => ⟨b, rfl⟩⟩
 | split k ta tb =>
  obtain ⟨a, va, vb, rfl, ha, _⟩ := zf3 h
  exact ⟨a, _, _, rfl, ha, fun _ _ => ⟨k, ta, tb, rfl⟩, fun z => absurd z zgy⟩
def zsv (K : PySem.W.Frag) : Sp := fun vs H Q _ => ∃ (pen sp : Addr) (ns : List Int) (wd lp : Addr) (m : Nat) (ts : List Tie) (ps : List Int) (k : Int), vs = [.ref pen, .ref wd, .ref lp] ∧ Pen K H pen sp ns k ∧ 0 ≤ k ∧ k ≤ 700000 ∧ WoodT H wd m ts ∧ 1 ≤ m ∧ m ≤ 9 ∧ H lp = some (.lst (ps.map V.int)) ∧ ps.length = m ∧
 ∀ (a : Addr) (p : Int) (t : WT) (v : V) (k' : Int) (H' : Hp), SameX pen H H' → H' pen = some (.lst [.ref sp, .int k']) → k ≤ k' → k' ≤ k + 1 → H' a = some (.tup [.int p, v]) → Dn H' t.toD v → t.dw → t.depth ≤ 9 → isT ts m (za2 m ts ps p) t 1 0 = true → Q (.ref a) H'
theorem zjf {ts : List Tie} {m : Nat} {lf lg : Str → Nat → Nat → Bool} {R : Nat → Nat → Prop} (rs : ∀ y n k, R y n → k ∈ zar m y n → R (y ||| 2 ^ k) n ∧ R y (n ||| 2 ^ k)) (h : ∀ w y n, R y n → lf w y n = true → lg w y n = true) : ∀ (t : WT) (y n : Nat), R y n → isT ts m lf t y n = true → isT ts m lg t y n = true
 | .leaf w, y, n, r, z => h w y n r z
 | .broken t, y, n, r, z => z
 | .split k a b, y, n, r, z => by
  obtain ⟨k0, ko, ha, hb⟩ := ziq z
  show (if 0 ≤ k ∧ k.toNat ∈ zar m y n then _ else _) = true
  rw [if_pos ⟨k0, ko⟩, zjf rs h a _ _ (rs y n _ r ko).1 ha, zjf rs h b _ _ (rs y n _ r ko).2 hb]
  rfl
theorem zgl : ∀ t : WT, t.wares → t.dw
 | .leaf w, h => .inr h
 | .broken _, _ => trivial
 | .split _ a b, h => ⟨zgl a h.1, zgl b h.2⟩
theorem zmh {m : Nat} {ts : List Tie} {ps : List Int} {p : Int} (ok : ∀ t ∈ ts, t.Ok m) (m1 : 1 ≤ m) (m9 : m ≤ 9) (c : zbh m ts = []) : isT ts m (za2 m ts ps p) (zba ts (zci ts) m 9 1 0).toW 1 0 = true := by
 have of := ze4 m 1 0
 refine zjf (lf := zcc ts m) (R := fun y n => Stand m y n) (fun y n k S hk => ⟨S.one hk, S.other hk⟩) (fun w y n S h => ?_) _ 1 0 (zfg m1) (zfs ok 9 1 0 (by omega) (zfg m1) rfl)
 unfold zcc at h
 rw [Bool.and_eq_true, Bool.and_eq_true] at h
 have : y ∈ zbh m ts := mem_wareL.mpr ⟨S.ym, h.2.2⟩
 rw [c] at this
 cases this
theorem zlj {ts : List Tie} {m : Nat} {ps : List Int} {p : Int} {R : Nat → Nat → Prop} (rs : ∀ y n k, R y n → k ∈ zar m y n → R (y ||| 2 ^ k) n ∧ R y (n ||| 2 ^ k)) (re : ∀ y n, R y n → za7 ts (zci ts) y n = none → zar m y n = [] → zbk ps p y n ≠ none) :
  ∀ (f y n : Nat) (t : WT), (zar m y n).length ≤ f → R y n → t.toD = zcr ts (zci ts) m (zbk ps p) f y n → t.good → t.dw
 | f, y, n, t, hf, r, e, g => by
  cases hb : za7 ts (zci ts) y n with
  | some i =>
   rw [zc8 hb] at e
   cases t with
   | leaf w => cases e
   | broken b => trivial
   | split k a b => cases e
  | none =>
   cases hl : zbk ps p y n with
   | some d =>
    rw [zen hb hl] at e
    unfold zbk at hl
    split at hl
    ·cases hl
     cases t with
     | leaf w =>
      cases e
      exact .inl rfl
     | broken b => cases e
     | split k a b => cases e
    ·cases hl
   | none =>
    cases ho : zar m y n with
    | nil => exact absurd hl (re y n r hb ho)
    | cons k q =>
     have hk : k ∈ zar m y n := by rw [ho]; exact List.mem_cons_self
     have l1 := zcd hk
     have l2 := zca hk
     obtain ⟨f, rfl⟩ : ∃ f', f = f' + 1 := ⟨f - 1, by rw [ho, List.length_cons] at hf; omega⟩
     rw [zdk hb hl ho] at e
     cases t with
     | leaf w => cases e
     | broken b => cases e
     | split k' a b =>
      have e' : PyData.tuple [.str ("split" : Str), .int k', a.toD, b.toD] = .tuple [.str ("split" : Str), .int (k : Int), zcr ts (zci ts) m (zbk ps p) f (y ||| 2 ^ k) n, zcr ts (zci ts) m (zbk ps p) f y (n ||| 2 ^ k)] := e
      injection e' with e'
      injection e' with _ e'
      injection e' with _ e'
      injection e' with ea e'
      injection e' with eb _
      exact ⟨zlj rs re f _ _ a (by omega) (rs y n k r hk).1 ea g.1, zlj rs re f _ _ b (by omega) (rs y n k r hk).2 eb g.2⟩
structure LC (K : PySem.W.Frag) (pen sp : Addr) (ns : List Int) (wd lp : Addr) (m : Nat) (ts : List Tie) (ps : List Int) (P0 P1 P2 : Addr) (kc : Int) (H : Hp) : Prop where
 pn : Pen K H pen sp ns kc
 hW : ∀ H', zgz H H' → WoodT H' wd m ts
 m1 : 1 ≤ m
 m9 : m ≤ 9
 hlp : H lp = some (.lst (ps.map V.int))
 lm : ps.length = m
 lpp : lp ≠ pen
 ta : zc3 H P0
 tab : zc3 H P1
 tas : zc3 H P2
theorem LC.to {K : PySem.W.Frag} {pen sp : Addr} {ns : List Int} {wd lp : Addr} {m : Nat} {ts : List Tie} {ps : List Int} {P0 P1 P2 : Addr} {kc k' : Int} {H H' : Hp} (h : LC K pen sp ns wd lp m ts ps P0 P1 P2 kc H) (x : SameX pen H H') (hp : H' pen = some (.lst [.ref sp, .int k'])) : LC K pen sp ns wd lp m ts ps P0 P1 P2 k' H' :=
 ⟨h.pn.to x hp, fun H2 t => h.hW H2 (zb5 (SameX.tup h.pn.at_ x) t), h.m1, h.m9, x _ _ h.lpp h.hlp, h.lm, h.lpp, x.tab h.pn.at_ h.ta, x.tab h.pn.at_ h.tab, x.tab h.pn.at_ h.tas⟩
theorem LC.same {K : PySem.W.Frag} {pen sp : Addr} {ns : List Int} {wd lp : Addr} {m : Nat} {ts : List Tie} {ps : List Int} {P0 P1 P2 : Addr} {kc : Int} {H H' : Hp} (h : LC K pen sp ns wd lp m ts ps P0 P1 P2 kc H) (s : Same H H') : LC K pen sp ns wd lp m ts ps P0 P1 P2 kc H' := h.to (Same.x s) (s _ _ h.pn.at_)
theorem LC.W {K : PySem.W.Frag} {pen sp : Addr} {ns : List Int} {wd lp : Addr} {m : Nat} {ts : List Tie} {ps : List Int} {P0 P1 P2 : Addr} {kc : Int} {H : Hp} (h : LC K pen sp ns wd lp m ts ps P0 P1 P2 kc H) : WoodT H wd m ts := h.hW H (zj9 _)
theorem LC.wd {K : PySem.W.Frag} {pen sp : Addr} {ns : List Int} {wd lp : Addr} {m : Nat} {ts : List Tie} {ps : List Int} {P0 P1 P2 : Addr} {kc : Int} {H : Hp} (h : LC K pen sp ns wd lp m ts ps P0 P1 P2 kc H) : ∃ x y, H wd = some (.tup [.int (m : Int), x, y]) := by
 obtain ⟨_, _, ⟨tb, tc, hw, _, _⟩, _⟩ := h.W.ex
 exact ⟨_, _, hw⟩
end Wd
set_option maxRecDepth 100000
set_option maxHeartbeats 4000000
namespace Ow
open PySem L2 Wd
def top (i : Nat) : Stmt := PySem.Challenge.pw_optionwood_k61_trees_of_bounds.main.body.getD i (.Pass ⟨0, 0, 0, 0⟩)
abbrev zrc : Stmt := top 1
abbrev zc7 : Stmt := top 2
abbrev zdt : Stmt := top 3
abbrev zck : Stmt := top 4
abbrev zfb : Stmt := top 6
abbrev ziu : Stmt := top 7
abbrev zij : Stmt := top 9
abbrev zdx : Stmt := top 10
abbrev zeo : Stmt := top 11
abbrev zfq : Stmt := top 12
abbrev zdg : Stmt := top 13
abbrev zha : Stmt := top 14
abbrev zdu : Stmt := top 15
abbrev zdn : Stmt := top 16
abbrev za1 : Stmt := top 17
abbrev zb6 : Stmt := top 18
abbrev zk5 : Stmt := top 20
abbrev zb4 : Stmt := top 21
abbrev zfc : Stmt := top 22
abbrev zdf : Stmt := top 23
abbrev zcy : Stmt := top 24
abbrev zhd : Stmt := top 25
abbrev zcv : Stmt := top 26
abbrev zgd : Stmt := top 27
abbrev zkv : Stmt := top 29
abbrev zef : Stmt := top 31
abbrev zdy : Stmt := top 32
abbrev zbt : Stmt := top 33
abbrev zhc : Stmt := top 34
abbrev zfh : Stmt := top 35
abbrev zc4 : Stmt := top 36
abbrev zdc : Stmt := top 38
abbrev zfa : Stmt := top 39
abbrev zcf : Stmt := top 40
abbrev zda : Stmt := top 41
abbrev zez : Stmt := top 42
abbrev zb0 : Stmt := top 43
abbrev zhi : Stmt := top 44
abbrev zcn : Stmt := top 45
abbrev zdq : Stmt := top 46
abbrev zed : Stmt := top 47
abbrev zgj : Stmt := top 48
abbrev zcb : Stmt := top 49
abbrev zho : Stmt := top 50
abbrev zc1 : Stmt := top 51
abbrev zbd : Stmt := top 52
abbrev zdi : Stmt := top 53
abbrev zgh : Stmt := top 54
abbrev zh6 : Stmt := top 55
set_option genInjectivity false
set_option genSizeOfSpec false
set_option genSizeOf false
structure Adr where
 (f_has f_options_of f_with_option f_open_options f_many_ties f_tie_at f_keeps f_keeps_bough f_count_in f_every_tie f_first_broken f_is_ware f_sure_broken f_least_sum f_sure_broken_bough f_first_sure_broken f_cases f_cases_of f_ware_leaf f_is_ware_leaf f_told_tree f_is_tree f_is_broken_leaf f_wares_in f_wares f_price_of f_best f_are_bounds f_is_dear f_dear_leaf f_is_bound_leaf f_law_take f_law_bough f_law_boughs f_law_most f_law_cross f_law_wood f_law_has f_law_prices f_law_price f_law_sets f_law_ties f_law_leaf f_law_due f_law_drawn f_law_other_leaf f_law_bent f_law_told f_law : Addr)
 (c_cases_of t_cases_of c_best t_best c_are_bounds t_are_bounds : Addr)
structure Fds where
 (f_has f_options_of f_with_option f_open_options f_many_ties f_tie_at f_keeps f_keeps_bough f_count_in f_every_tie f_first_broken f_is_ware f_sure_broken f_least_sum f_sure_broken_bough f_first_sure_broken f_cases f_cases_of f_ware_leaf f_is_ware_leaf f_told_tree f_is_tree f_is_broken_leaf f_wares_in f_wares f_price_of f_best f_are_bounds f_is_dear f_dear_leaf f_is_bound_leaf f_law_take f_law_bough f_law_boughs f_law_most f_law_cross f_law_wood f_law_has f_law_prices f_law_price f_law_sets f_law_ties f_law_leaf f_law_due f_law_drawn f_law_other_leaf f_law_bent f_law_told f_law : FuncData)
structure Txt (K : PySem.W.Frag) (mg : Str → Option Value) (a : Adr) (d : Fds) : Prop where
 m_range : mg "range" = none
 m_len : mg "len" = none
 m_isinstance : mg "isinstance" = none
 m_min : mg "min" = none
 m_all : mg "all" = none
 m_int : mg "int" = none
 m_bool : mg "bool" = none
 m_list : mg "list" = none
 m_tuple : mg "tuple" = none
 m_sorted : mg "sorted" = none
 m_enumerate : mg "enumerate" = none
 m_sum : mg "sum" = none
 K_has : Df K mg "has" zrc a.f_has d.f_has ["some", "k"]
 K_options_of : Df K mg "options_of" zc7 a.f_options_of d.f_options_of ["some"]
 K_with_option : Df K mg "with_option" zdt a.f_with_option d.f_with_option ["some", "k"]
 K_open_options : Df K mg "open_options" zck a.f_open_options d.f_open_options ["many", "yes", "no"]
 K_many_ties : Df K mg "many_ties" zfb a.f_many_ties d.f_many_ties ["wood"]
 K_tie_at : Df K mg "tie_at" ziu a.f_tie_at d.f_tie_at ["wood", "t"]
 K_keeps : Df K mg "keeps" zij a.f_keeps d.f_keeps ["tie", "some"]
 K_keeps_bough : Df K mg "keeps_bough" zdx a.f_keeps_bough d.f_keeps_bough ["bough", "some"]
 K_count_in : Df K mg "count_in" zeo a.f_count_in d.f_count_in ["kids", "some"]
 K_every_tie : Df K mg "every_tie" zfq a.f_every_tie d.f_every_tie ["wood"]
 K_first_broken : Df K mg "first_broken" zdg a.f_first_broken d.f_first_broken ["wood", "some"]
 K_is_ware : Df K mg "is_ware" zha a.f_is_ware d.f_is_ware ["wood", "some"]
 K_sure_broken : Df K mg "sure_broken" zdu a.f_sure_broken d.f_sure_broken ["tie", "yes", "no"]
 K_least_sum : Df K mg "least_sum" zdn a.f_least_sum d.f_least_sum ["pairs", "yes", "no"]
 K_sure_broken_bough : Df K mg "sure_broken_bough" za1 a.f_sure_broken_bough d.f_sure_broken_bough ["bough", "yes", "no"]
 K_first_sure_broken : Df K mg "first_sure_broken" zb6 a.f_first_sure_broken d.f_first_sure_broken ["wood", "ties", "yes", "no"]
 K_cases : Df K mg "cases" zk5 a.f_cases d.f_cases ["wood", "yes", "no"]
 K_cases_of : Df K mg "cases_of" zb4 a.f_cases_of d.f_cases_of ["wood", "ties", "yes", "no"]
 K_ware_leaf : Df K mg "ware_leaf" zfc a.f_ware_leaf d.f_ware_leaf ["wood", "yes", "no"]
 K_is_ware_leaf : Df K mg "is_ware_leaf" zdf a.f_is_ware_leaf d.f_is_ware_leaf ["wood", "word", "yes", "no"]
 K_told_tree : Df K mg "told_tree" zcy a.f_told_tree d.f_told_tree ["wood", "ties", "yes", "no", "leaf_at"]
 K_is_tree : Df K mg "is_tree" zhd a.f_is_tree d.f_is_tree ["wood", "yes", "no", "tree", "is_leaf"]
 K_is_broken_leaf : Df K mg "is_broken_leaf" zcv a.f_is_broken_leaf d.f_is_broken_leaf ["wood", "yes", "no", "t"]
 K_wares_in : Df K mg "wares_in" zgd a.f_wares_in d.f_wares_in ["yes", "tree"]
 K_wares : Df K mg "wares" zkv a.f_wares d.f_wares ["wood"]
 K_price_of : Df K mg "price_of" zef a.f_price_of d.f_price_of ["prices", "some"]
 K_best : Df K mg "best" zdy a.f_best d.f_best ["wood", "prices"]
 K_are_bounds : Df K mg "are_bounds" zbt a.f_are_bounds d.f_are_bounds ["wood", "prices", "price", "tree"]
 K_is_dear : Df K mg "is_dear" zhc a.f_is_dear d.f_is_dear ["prices", "price", "yes", "no"]
 K_dear_leaf : Df K mg "dear_leaf" zfh a.f_dear_leaf d.f_dear_leaf ["prices", "price", "yes", "no"]
 K_is_bound_leaf : Df K mg "is_bound_leaf" zc4 a.f_is_bound_leaf d.f_is_bound_leaf ["wood", "prices", "price", "word", "yes", "no"]
 K_law_take : Df K mg "_law_take" zdc a.f_law_take d.f_law_take ["_law_state", "_law_most_here"]
 K_law_bough : Df K mg "_law_bough" zfa a.f_law_bough d.f_law_bough ["_law_state", "_law_up", "_law_kids"]
 K_law_boughs : Df K mg "_law_boughs" zcf a.f_law_boughs d.f_law_boughs ["_law_state", "_law_many"]
 K_law_most : Df K mg "_law_most" zda a.f_law_most d.f_law_most ["_law_state", "_law_many"]
 K_law_cross : Df K mg "_law_cross" zez a.f_law_cross d.f_law_cross ["_law_state", "_law_many"]
 K_law_wood : Df K mg "_law_wood" zb0 a.f_law_wood d.f_law_wood ["_law_state"]
 K_law_has : Df K mg "_law_has" zhi a.f_law_has d.f_law_has ["_law_some", "_law_k"]
 K_law_prices : Df K mg "_law_prices" zcn a.f_law_prices d.f_law_prices ["_law_state", "_law_many"]
 K_law_price : Df K mg "_law_price" zdq a.f_law_price d.f_law_price ["_law_prices_here", "_law_some"]
 K_law_sets : Df K mg "_law_sets" zed a.f_law_sets d.f_law_sets ["_law_many", "_law_yes", "_law_no"]
 K_law_ties : Df K mg "_law_ties" zgj a.f_law_ties d.f_law_ties ["_law_wood_here"]
 K_law_leaf : Df K mg "_law_leaf" zcb a.f_law_leaf d.f_law_leaf ["_law_wood_here", "_law_prices_here", "_law_price_here", "_law_yes", "_law_no", "_law_tree"]
 K_law_due : Df K mg "_law_due" zho a.f_law_due d.f_law_due ["_law_wood_here", "_law_prices_here", "_law_price_here", "_law_tree"]
 K_law_drawn : Df K mg "_law_drawn" zc1 a.f_law_drawn d.f_law_drawn ["_law_state", "_law_many", "_law_deep"]
 K_law_other_leaf : Df K mg "_law_other_leaf" zbd a.f_law_other_leaf d.f_law_other_leaf ["_law_state", "_law_many", "_law_tree"]
 K_law_bent : Df K mg "_law_bent" zdi a.f_law_bent d.f_law_bent ["_law_state", "_law_many", "_law_tree", "_law_deep"]
 K_law_told : Df K mg "_law_told" zgh a.f_law_told d.f_law_told ["_law_state", "_law_wood_here", "_law_prices_here"]
 K_law : Df K mg "law" zh6 a.f_law d.f_law ["_law_script"]
 code_cases_of : d.f_cases_of.code = .ref a.c_cases_of
 code_best : d.f_best.code = .ref a.c_best
 code_are_bounds : d.f_are_bounds.code = .ref a.c_are_bounds
theorem zu4 : zas ["some", "k"] ["some", "k"] (zag zrc) := scm rfl rfl rfl rfl (by decide +kernel)
theorem zjv : zas ["some"] ["some"] (zag zc7) := scm rfl rfl rfl rfl (by decide +kernel)
theorem zi4 : zas ["some", "k"] ["some", "k"] (zag zdt) := scm rfl rfl rfl rfl (by decide +kernel)
theorem zid : zas ["many", "yes", "no"] ["many", "yes", "no"] (zag zck) := scm rfl rfl rfl rfl (by decide +kernel)
theorem zkw : zas ["wood"] ["wood"] (zag zfb) := scm rfl rfl rfl rfl (by decide +kernel)
theorem sc_tie_at : zas ["wood", "t", "boughs"] ["wood", "t"] (zag ziu) := scm rfl rfl rfl rfl (by decide +kernel)
theorem zrz : zas ["tie", "some"] ["tie", "some"] (zag zij) := scm rfl rfl rfl rfl (by decide +kernel)
theorem sc_keeps_bough : zas ["bough", "some", "count"] ["bough", "some"] (zag zdx) := scm rfl rfl rfl rfl (by decide +kernel)
theorem zmj : zas ["kids", "some"] ["kids", "some"] (zag zeo) := scm rfl rfl rfl rfl (by decide +kernel)
theorem zk9 : zas ["wood"] ["wood"] (zag zfq) := scm rfl rfl rfl rfl (by decide +kernel)
theorem sc_first_broken : zas ["wood", "some", "t"] ["wood", "some"] (zag zdg) := scm rfl rfl rfl rfl (by decide +kernel)
theorem znj : zas ["wood", "some"] ["wood", "some"] (zag zha) := scm rfl rfl rfl rfl (by decide +kernel)
theorem zjm : zas ["tie", "yes", "no"] ["tie", "yes", "no"] (zag zdu) := scm rfl rfl rfl rfl (by decide +kernel)
theorem zla : zas ["pairs", "yes", "no"] ["pairs", "yes", "no"] (zag zdn) := scm rfl rfl rfl rfl (by decide +kernel)
theorem sc_sure_broken_bough : zas ["bough", "yes", "no", "least", "greatest", "some_with_up", "some_without_up"] ["bough", "yes", "no"] (zag za1) := scm rfl rfl rfl rfl (by decide +kernel)
theorem sc_first_sure_broken : zas ["wood", "ties", "yes", "no", "t"] ["wood", "ties", "yes", "no"] (zag zb6) := scm rfl rfl rfl rfl (by decide +kernel)
theorem zq3 : zas ["wood", "yes", "no"] ["wood", "yes", "no"] (zag zk5) := scm rfl rfl rfl rfl (by decide +kernel)
theorem znf : zas ["wood", "ties", "yes", "no"] ["wood", "ties", "yes", "no"] (zag zb4) := scm rfl rfl rfl rfl (by decide +kernel)
theorem zlq : zas ["wood", "yes", "no"] ["wood", "yes", "no"] (zag zfc) := scm rfl rfl rfl rfl (by decide +kernel)
theorem zia : zas ["wood", "word", "yes", "no"] ["wood", "word", "yes", "no"] (zag zdf) := scm rfl rfl rfl rfl (by decide +kernel)
theorem sc_told_tree : zas ["wood", "ties", "yes", "no", "leaf_at", "broken", "leaf", "k", "one", "other"] ["wood", "ties", "yes", "no", "leaf_at"] (zag zcy) := scm rfl rfl rfl rfl (by decide +kernel)
theorem sc_is_tree : zas ["wood", "yes", "no", "tree", "is_leaf", "k"] ["wood", "yes", "no", "tree", "is_leaf"] (zag zhd) := scm rfl rfl rfl rfl (by decide +kernel)
theorem zgu : zas ["wood", "yes", "no", "t"] ["wood", "yes", "no", "t"] (zag zcv) := scm rfl rfl rfl rfl (by decide +kernel)
theorem zl2 : zas ["yes", "tree"] ["yes", "tree"] (zag zgd) := scm rfl rfl rfl rfl (by decide +kernel)
theorem sc_wares : zas ["wood", "root"] ["wood"] (zag zkv) := scm rfl rfl rfl rfl (by decide +kernel)
theorem zmm : zas ["prices", "some"] ["prices", "some"] (zag zef) := scm rfl rfl rfl rfl (by decide +kernel)
theorem sc_best : zas ["wood", "prices", "root", "sold", "ware", "price", "tree"] ["wood", "prices"] (zag zdy) := scm rfl rfl rfl rfl (by decide +kernel)
theorem sc_are_bounds : zas ["wood", "prices", "price", "tree", "root"] ["wood", "prices", "price", "tree"] (zag zbt) := scm rfl rfl rfl rfl (by decide +kernel)
theorem zn5 : zas ["prices", "price", "yes", "no"] ["prices", "price", "yes", "no"] (zag zhc) := scm rfl rfl rfl rfl (by decide +kernel)
theorem zlf : zas ["prices", "price", "yes", "no"] ["prices", "price", "yes", "no"] (zag zfh) := scm rfl rfl rfl rfl (by decide +kernel)
theorem zhk : zas ["wood", "prices", "price", "word", "yes", "no"] ["wood", "prices", "price", "word", "yes", "no"] (zag zc4) := scm rfl rfl rfl rfl (by decide +kernel)
theorem sc_law_take : zas ["_law_state", "_law_most_here", "_law_at", "_law_script", "_law_mingled"] ["_law_state", "_law_most_here"] (zag zdc) := scm rfl rfl rfl rfl (by decide +kernel)
theorem sc_law_bough : zas ["_law_state", "_law_up", "_law_kids", "_law_size", "_law_way", "_law_high"] ["_law_state", "_law_up", "_law_kids"] (zag zfa) := scm rfl rfl rfl rfl (by decide +kernel)
theorem sc_law_boughs : zas ["_law_state", "_law_many", "_law_groups", "_law_k", "_law_up", "_law_mates"] ["_law_state", "_law_many"] (zag zcf) := scm rfl rfl rfl rfl (by decide +kernel)
theorem sc_law_most : zas ["_law_state", "_law_many", "_law_far", "_law_pairs", "_law_k"] ["_law_state", "_law_many"] (zag zda) := scm rfl rfl rfl rfl (by decide +kernel)
theorem sc_law_cross : zas ["_law_state", "_law_many", "_law_one", "_law_other"] ["_law_state", "_law_many"] (zag zez) := scm rfl rfl rfl rfl (by decide +kernel)
theorem sc_law_wood : zas ["_law_state", "_law_many", "_law_boughs_here", "_law_count"] ["_law_state"] (zag zb0) := scm rfl rfl rfl rfl (by decide +kernel)
theorem zn9 : zas ["_law_some", "_law_k"] ["_law_some", "_law_k"] (zag zhi) := scm rfl rfl rfl rfl (by decide +kernel)
theorem sc_law_prices : zas ["_law_state", "_law_many", "_law_far", "_law_prices_here"] ["_law_state", "_law_many"] (zag zcn) := scm rfl rfl rfl rfl (by decide +kernel)
theorem zkt : zas ["_law_prices_here", "_law_some"] ["_law_prices_here", "_law_some"] (zag zdq) := scm rfl rfl rfl rfl (by decide +kernel)
theorem sc_law_sets : zas ["_law_many", "_law_yes", "_law_no", "_law_some", "_law_k"] ["_law_many", "_law_yes", "_law_no"] (zag zed) := scm rfl rfl rfl rfl (by decide +kernel)
theorem zlt : zas ["_law_wood_here"] ["_law_wood_here"] (zag zgj) := scm rfl rfl rfl rfl (by decide +kernel)
theorem sc_law_leaf : zas ["_law_wood_here", "_law_prices_here", "_law_price_here", "_law_yes", "_law_no", "_law_tree", "_law_ties_here", "_law_free", "_law_tie", "_law_some", "_law_lower", "_law_good"] ["_law_wood_here", "_law_prices_here", "_law_price_here", "_law_yes", "_law_no", "_law_tree"] (zag zcb) := scm rfl rfl rfl rfl (by decide +kernel)
theorem sc_law_due : zas ["_law_wood_here", "_law_prices_here", "_law_price_here", "_law_tree", "_law_waiting", "_law_yes", "_law_no", "_law_node", "_law_k"] ["_law_wood_here", "_law_prices_here", "_law_price_here", "_law_tree"] (zag zho) := scm rfl rfl rfl rfl (by decide +kernel)
theorem sc_law_drawn : zas ["_law_state", "_law_many", "_law_deep", "_law_way", "_law_one"] ["_law_state", "_law_many", "_law_deep"] (zag zc1) := scm rfl rfl rfl rfl (by decide +kernel)
theorem sc_law_other_leaf : zas ["_law_state", "_law_many", "_law_tree", "_law_way"] ["_law_state", "_law_many", "_law_tree"] (zag zbd) := scm rfl rfl rfl rfl (by decide +kernel)
theorem zl7 : zas ["_law_state", "_law_many", "_law_tree", "_law_deep"] ["_law_state", "_law_many", "_law_tree", "_law_deep"] (zag zdi) := scm rfl rfl rfl rfl (by decide +kernel)
theorem sc_law_told : zas ["_law_state", "_law_wood_here", "_law_prices_here", "_law_found"] ["_law_state", "_law_wood_here", "_law_prices_here"] (zag zgh) := scm rfl rfl rfl rfl (by decide +kernel)
theorem sc_law : zas ["_law_script", "_law_state", "_law_wood_here", "_law_prices_here", "_law_price_here", "_law_tree", "_law_k", "_law_way", "_law_turn", "_law_due_here", "_law_found", "_law_cheaper"] ["_law_script"] (zag zh6) := scm rfl rfl rfl rfl (by decide +kernel)
end Ow
namespace Ow
open PySem L2 Wd
section
variable {P : Program} {w : World} {K : PySem.W.Frag} {mg : Str → Option Value} {base : Heap} {a : Adr} {d : Fds}
def zvz : Sp := fun vs H Q _ => ∃ n k : Int, vs = [.int n, .int k] ∧ Q (.bl (zna n k)) H
theorem zep (T : Txt K mg a d) : FnOk P w K mg base CX0 1 a.f_has d.f_has ["some", "k"] zvz := by
 refine T.K_has.ok zu4 (fun vs H Q E h => ?_) (fun cdv A outer s H vs Q E hr h => ?_)
 ·obtain ⟨n, k, rfl, _⟩ := h
  rfl
 obtain ⟨n, k, rfl, q⟩ := h
 refine ⟨_, (zah (zaj (zcl (zbf ziw (pv 1) zac (zak _)) (zco (zbf za4 (zau zuo (zau zup (pv 0) (pv 1)) zac) zac (zak _)))))), ?_⟩
 refine ⟨_, rfl, _, _, rfl, rfl, _, rfl, ?_⟩
 refine zbl (fun c => ?_) (fun c => ?_)
 ·have hk : (0 : Int) ≤ k := of_decide_eq_true c
  refine ⟨_, rfl, _, rfl, _, _, rfl, rfl, hk, _, _, rfl, rfl, rfl, ?_⟩
  have e : decide (V.int (Builtin.bitAnd (n / 2 ^ k.toNat) 1) = V.int 1) = zna n k := by
   unfold zna
   rw [decide_eq_true hk, Bool.true_and, zg6, zwf]
   by_cases z : n / 2 ^ k.toNat % 2 = 1
   ·rw [decide_eq_true z]
    simpa using z
   ·rw [decide_eq_false z]
    simpa using z
  show Q (.bl (decide (V.int (Builtin.bitAnd (n / 2 ^ k.toNat) 1) = V.int 1))) H
  rw [e]
  exact q
 ·have hk : ¬ (0 : Int) ≤ k := of_decide_eq_false (Bool.eq_false_iff.mpr c)
  have e : zna n k = false := by
   unfold zna
   rw [decide_eq_false hk, Bool.false_and]
  rw [e] at q
  exact q
end
section
variable {P : Program} {w : World} {K : PySem.W.Frag} {mg : Str → Option Value} {base : Heap} {a : Adr} {d : Fds}
theorem zj6 (T : Txt K mg a d) : FnOk P w K mg base CX0 2 a.f_options_of d.f_options_of ["some"] zrg := by
 have G_has := zep (P := P) (w := w) (base := base) T
 refine T.K_options_of.ok zjv (fun vs H Q E h => ?_) (fun cdv A outer s H vs Q E hr h => ?_)
 ·obtain ⟨n, rfl, _⟩ := h
  rfl
 obtain ⟨n, rfl, n9, q⟩ := h
 have p62 : (2 : Int) ^ 62 = 4611686018427387904 := by decide
 have b9 := zlv n9
 refine ⟨_, (zah (zaj (zd1 (sc0 := zag zc7) (XN := ["some"]) (N' := ["k", "some"]) (n := 1) (kp := [0]) rfl (zbr rfl T.m_range (zaa (zof (K := K) PySem.F.plainAttrs_int PySem.F.slot_int_bit_length PySem.F.type_int_bit_length zsi (pv 0)) zab)) rfl rfl (by decide +kernel) (fun _ _ _ _ _ => (za0 (i := 0) (by show List.Nodup (["k", "some"] : List Str); decide +kernel) rfl (Or.inl rfl))) (fun _ _ _ _ _ => (zcx (zbu (zad G_has hr.lv rfl T.K_has (zaa (pv 1) (zaa (pv 0) zab)))))) (fun _ _ _ _ _ => (pv 0))))), ?_⟩
 refine ⟨_, rfl, rfl, _, rfl, rfl, _, rfl, by rw [p62]; omega, by rw [p62]; omega, ?_⟩
 rw [Int.toNat_natCast]
 refine zcs (k := Builtin.Int.intBits (n : Int)) (fun i zs σ H2 => (∃ v, σ = [v, some (.int (n : Int))]) ∧ H2 = H ∧ zs = zav ((List.range i).filter fun k => n.testBit k)) ⟨⟨none, rfl⟩, rfl, rfl⟩ (fun i zs σ H2 hi pv => ?_) (fun i zs σ H2 hi pv => ?_) (fun zs σ H2 pv l hl => ?_)
 ·obtain ⟨_, _, rfl⟩ := pv
  rw [List.length_map]
  refine small (Nat.le_trans (List.length_filter_le _ _) ?_)
  rw [List.length_range]
  omega
 ·obtain ⟨⟨v, rfl⟩, rfl, rfl⟩ := pv
  have er : ∀ z, n.testBit i = z → (List.range (i + 1)).filter (fun k => n.testBit k) = (List.range i).filter (fun k => n.testBit k) ++ (if z = true then [i] else []) := fun z hz => by
   rw [List.range_succ, List.filter_append]
   congr 1
   cases z
   ·rw [List.filter_cons_of_neg (by rw [hz]; exact Bool.false_ne_true)]; rfl
   ·rw [List.filter_cons_of_pos (by exact hz)]; rfl
  refine ⟨_, rfl, _, rfl, _, _, rfl, _, rfl, ?_⟩
  rw [zbc]
  refine zbl (fun c => ?_) (fun c => ?_)
  ·refine ⟨_, rfl, ⟨_, rfl⟩, rfl, ?_⟩
   rw [er true c, if_pos rfl, zo7]
   rfl
  ·refine ⟨⟨_, rfl⟩, rfl, ?_⟩
   rw [er false (Bool.eq_false_iff.mpr c), if_neg Bool.false_ne_true, List.append_nil]
 obtain ⟨_, rfl, rfl⟩ := pv
 exact q l _ (zai hl _) hl zae
end
section
variable {P : Program} {w : World} {K : PySem.W.Frag} {mg : Str → Option Value} {base : Heap} {a : Adr} {d : Fds}
theorem zbs (T : Txt K mg a d) : FnOk P w K mg base CX0 1 a.f_with_option d.f_with_option ["some", "k"] zss := by
 refine T.K_with_option.ok zi4 (fun vs H Q E h => ?_) (fun cdv A outer s H vs Q E hr h => ?_)
 ·obtain ⟨n, k, rfl, _⟩ := h
  rfl
 obtain ⟨n, k, rfl, hk, q⟩ := h
 refine ⟨_, (zah (zaj (zau zh1 (pv 0) (zau zji zac (pv 1))))), ?_⟩
 refine ⟨_, rfl, _, rfl, _, _, rfl, rfl, ⟨by omega, by omega, by decide⟩, _, _, rfl, rfl, ?_⟩
 have e : Builtin.bitOr (n : Int) (1 * 2 ^ ((k : Nat) : Int).toNat) = ((n ||| 2 ^ k : Nat) : Int) := by rw [zq5, zeb]
 show Q (.int (Builtin.bitOr (n : Int) (1 * 2 ^ ((k : Nat) : Int).toNat))) H
 rw [e]
 exact q
end
section
variable {P : Program} {w : World} {K : PySem.W.Frag} {mg : Str → Option Value} {base : Heap} {a : Adr} {d : Fds}
theorem zb8 (T : Txt K mg a d) : FnOk P w K mg base CX0 2 a.f_open_options d.f_open_options ["many", "yes", "no"] zud := by
 have G_has := zep (P := P) (w := w) (base := base) T
 refine T.K_open_options.ok zid (fun vs H Q E h => ?_) (fun cdv A outer s H vs Q E hr h => ?_)
 ·obtain ⟨m, y, n, rfl, _⟩ := h
  rfl
 obtain ⟨m, y, n, rfl, m9, q⟩ := h
 have p62 : (2 : Int) ^ 62 = 4611686018427387904 := by decide
 refine ⟨_, (zah (zaj (zd1 (sc0 := zag zck) (XN := ["many", "yes", "no"]) (N' := ["k", "yes", "no"]) (n := 1) (kp := [1, 2]) rfl (zbr rfl T.m_range (zaa (pv 0) zab)) rfl rfl (by decide +kernel) (fun _ _ _ _ _ => (za0 (i := 0) (by show List.Nodup (["k", "yes", "no"] : List Str); decide +kernel) rfl (Or.inl rfl))) (fun _ _ _ _ _ => (zcx (ze0 (zbu (zad G_has hr.lv rfl T.K_has (zaa (zau zh1 (pv 1) (pv 2)) (zaa (pv 0) zab))))))) (fun _ _ _ _ _ => (pv 0))))), ?_⟩
 refine ⟨_, rfl, _, rfl, by rw [p62]; omega, by rw [p62]; omega, ?_⟩
 rw [Int.toNat_natCast]
 refine zcs (k := m) (fun i ys σ H2 => (∃ v, σ = [v, some (.int y), some (.int n)]) ∧ H2 = H ∧ i ≤ m ∧ ys = zav ((List.range i).filter fun k => !(y ||| n).testBit k)) ⟨⟨none, rfl⟩, rfl, Nat.zero_le _, rfl⟩ (fun i ys σ H2 hi pv => ?_) (fun i ys σ H2 hi pv => ?_) (fun ys σ H2 pv fl hfl => ?_)
 ·obtain ⟨_, _, h1, rfl⟩ := pv
  rw [List.length_map]
  refine small (Nat.le_trans (List.length_filter_le _ _) ?_)
  rw [List.length_range]
  omega
 ·obtain ⟨⟨v0, rfl⟩, rfl, h1, rfl⟩ := pv
  refine ⟨_, rfl, _, rfl, _, _, rfl, rfl, _, rfl, _, _, rfl, _, rfl, ?_⟩
  have ee := zgp (fun k => !(y ||| n).testBit k) i
  rw [zeb, zbc]
  refine zbl (fun c2 => ?_) (fun c2 => ?_)
  ·refine ⟨_, rfl, ⟨_, rfl⟩, rfl, hi, ?_⟩
   rw [ee, if_pos c2]
   show _ = List.map _ (_ ++ [i])
   rw [List.map_append]
   rfl
  ·refine ⟨⟨_, rfl⟩, rfl, hi, ?_⟩
   rw [ee, if_neg c2, List.append_nil]
 obtain ⟨_, rfl, _, rfl⟩ := pv
 exact q fl _ (zai hfl _) hfl zae
end
section
variable {P : Program} {w : World} {K : PySem.W.Frag} {mg : Str → Option Value} {base : Heap} {a : Adr} {d : Fds}
theorem zg3 (T : Txt K mg a d) : FnOk P w K mg base CX0 1 a.f_many_ties d.f_many_ties ["wood"] zvc := by
 refine T.K_many_ties.ok zkw (fun vs H Q E h => ?_) (fun cdv A outer s H vs Q E hr h => ?_)
 ·obtain ⟨wd, many, xs, ys, rfl, _⟩ := h
  rfl
 obtain ⟨wd, many, xs, ys, rfl, ⟨tb, tc, hw, hb, hc⟩, q⟩ := h
 refine ⟨_, (zah (zaj (zau zbv (zaw (zdd (K := K)) rfl T.m_len PySem.boot_len (zaa (zan (ixT (K := K)) (pv 0) zac (fun _ _ => rfl)) zab)) (zaw (zdd (K := K)) rfl T.m_len PySem.boot_len (zaa (zan (ixT (K := K)) (pv 0) zac (fun _ _ => rfl)) zab))))), ?_⟩
 exact ⟨_, rfl, wd, _, _, _, rfl, rfl, sqT hw, at1, tb, _, rfl, .inr (sqT hb), _, rfl, wd, _, _, _, rfl, rfl, sqT hw, at2, tc, _, rfl, .inr (sqT hc), _, _, rfl, rfl, q⟩
end
section
variable {P : Program} {w : World} {K : PySem.W.Frag} {mg : Str → Option Value} {base : Heap} {a : Adr} {d : Fds}
theorem zhl (T : Txt K mg a d) : FnOk P w K mg base CX0 1 a.f_tie_at d.f_tie_at ["wood", "t"] zs3 := by
 refine T.K_tie_at.ok sc_tie_at (fun vs H Q E h => ?_) (fun cdv A outer s H vs Q E hr h => ?_)
 ·obtain ⟨wd, many, xs, ys, t, v, rfl, _⟩ := h
  rfl
 obtain ⟨wd, many, xs, ys, t, v, rfl, ⟨tb, tc, hw, hb, hc⟩, hv, q⟩ := h
 refine ⟨_, (zaf (zat (i := 2) sc_tie_at.nd rfl (Or.inl rfl) (zan (ixT (K := K)) (pv 0) zac (fun _ _ => rfl)))
   (zaf (zaz (zal zf9 (pv 1) (zaw (zdd (K := K)) rfl T.m_len PySem.boot_len (zaa (pv 2) zab)) (zak _)) (zah (zaj (zan (ixT (K := K)) (pv 2) (pv 1) (fun _ _ => rfl)))) zaq)
   (zah (zaj (zan (ixT (K := K)) (zan (ixT (K := K)) (pv 0) zac (fun _ _ => rfl)) (zau zbw (pv 1) (zaw (zdd (K := K)) rfl T.m_len PySem.boot_len (zaa (pv 2) zab))) (fun _ _ => rfl)))))), ?_⟩
 refine ⟨_, rfl, wd, _, _, _, rfl, rfl, sqT hw, at1, ?_⟩
 refine ⟨_, rfl, _, rfl, tb, _, rfl, .inr (sqT hb), _, _, rfl, rfl, _, rfl, ?_⟩
 refine zbl (fun c => ?_) (fun c => ?_)
 ·have c' : (t : Int) < (xs.length : Nat) := of_decide_eq_true c
  rw [List.getElem?_append_left (by omega)] at hv
  exact ⟨_, rfl, _, rfl, tb, _, _, _, rfl, rfl, sqT hb, zb9 hv, q⟩
 ·have c' : ¬ (t : Int) < (xs.length : Nat) := of_decide_eq_false (Bool.eq_false_iff.mpr c)
  rw [List.getElem?_append_right (by omega)] at hv
  have e : ((t : Int) - ((xs.length : Nat) : Int)) = ((t - xs.length : Nat) : Int) := by omega
  refine ⟨_, rfl, wd, _, _, _, rfl, rfl, sqT hw, at2, _, rfl, _, rfl, tb, _, rfl, .inr (sqT hb), _, _, rfl, rfl, tc, _, _, _, rfl, rfl, sqT hc, ?_, q⟩
  show atI ys ((t : Int) - ((xs.length : Nat) : Int)) = some v
  rw [e]
  exact zb9 hv
end
section
variable {P : Program} {w : World} {K : PySem.W.Frag} {mg : Str → Option Value} {base : Heap} {a : Adr} {d : Fds}
def ztf : Sp := fun vs H Q _ => ∃ (p : Addr) (ks : List Nat) (n : Nat), vs = [.ref p, .int n] ∧ H p = some (.tup (ks.map fun k : Nat => V.int (k : Int))) ∧ ks.length ≤ 1000 ∧ ∀ H', Same H H' → Q (.int (cnt ks n : Nat)) H'
theorem zhu (T : Txt K mg a d) : FnOk P w K mg base CX0 2 a.f_count_in d.f_count_in ["kids", "some"] ztf := by
 have G_has := zep (P := P) (w := w) (base := base) T
 refine T.K_count_in.ok zmj (fun vs H Q E h => ?_) (fun cdv A outer s H vs Q E hr h => ?_)
 ·obtain ⟨p, ks, n, rfl, _⟩ := h
  rfl
 obtain ⟨p, ks, n, rfl, hp, hk, q⟩ := h
 refine ⟨_, (zah (zaj (zaw (zdd (K := K)) rfl T.m_len PySem.boot_len (zaa (zd1 (sc0 := zag zeo) (XN := ["kids", "some"]) (N' := ["k", "some"]) (n := 1) (kp := [1]) rfl (piT (K := K) (pv 0)) rfl rfl (by decide +kernel) (fun _ _ _ _ _ => (za0 (i := 0) (by show List.Nodup (["k", "some"] : List Str); decide +kernel) rfl (Or.inl rfl))) (fun _ _ _ _ _ => (zcx (zbu (zad G_has hr.lv rfl T.K_has (zaa (pv 1) (zaa (pv 0) zab)))))) (fun _ _ _ _ _ => (pv 0))) zab)))), ?_⟩
 refine ⟨_, rfl, p, rfl, ⟨_, sqT hp⟩, ?_⟩
 refine zn1 (K := K) (a := p) (xs := ks.map fun k : Nat => V.int (k : Int)) (fun i ys σ H2 => (∃ v, σ = [v, some (.int n)]) ∧ H2 = H ∧ i ≤ ks.length ∧ ys = ((ks.take i).filter fun k => n.testBit k).map fun k : Nat => V.int (k : Int)) ⟨⟨none, rfl⟩, rfl, Nat.zero_le _, rfl⟩ (fun i ys σ H2 hi pv => ?_) (fun i ys σ H2 hi pv => ?_) (fun i x ys σ H2 hx pv => ?_) (fun ys σ H2 pv l hl => ?_)
 ·obtain ⟨_, _, h1, rfl⟩ := pv
  rw [List.length_map]
  refine small (Nat.le_trans (List.length_filter_le _ _) ?_)
  rw [List.length_take]
  omega
 ·rw [pv.2.1]
  exact sqT hp
 ·obtain ⟨⟨v, rfl⟩, rfl, h1, rfl⟩ := pv
  rw [List.getElem?_map] at hx
  obtain ⟨k, hk', rfl⟩ := Option.map_eq_some_iff.mp hx
  have hj : i < ks.length := (List.getElem?_eq_some_iff.mp hk').1
  have ee := PySem.take_succ_filter (fun k => n.testBit k) ks i k hk'
  refine ⟨_, rfl, _, rfl, _, _, rfl, _, rfl, ?_⟩
  rw [zbc]
  refine zbl (fun c => ?_) (fun c => ?_)
  ·refine ⟨_, rfl, ⟨_, rfl⟩, rfl, hj, ?_⟩
   rw [ee, if_pos c, List.map_append]
   rfl
  ·refine ⟨⟨_, rfl⟩, rfl, hj, ?_⟩
   rw [ee, if_neg c, List.append_nil]
 ·obtain ⟨_, rfl, _, rfl⟩ := pv
  have fin : ∀ L : List V, L.length = cnt ks n → ∀ H', Same H2 H' → Q (.int (L.length : Nat)) H' := fun L e H' sm => by
   rw [e]
   exact q H' sm
  exact ⟨l, _, rfl, .inl (SqL.of zae), fin _ (by simp [cnt]) _ (zai hl _)⟩
end
section
variable {P : Program} {w : World} {K : PySem.W.Frag} {mg : Str → Option Value} {base : Heap} {a : Adr} {d : Fds}
def zq8 : Sp := fun vs H Q _ => ∃ (u : Nat) (lo hi : Int) (ks : List Nat) (n : Nat) (v : V), vs = [v, .int n] ∧ Dn H (Tie.bough u lo hi ks).toD v ∧ ks.length ≤ 1000 ∧ ∀ H', Same H H' → Q (.bl ((Tie.bough u lo hi ks).keep n)) H'
theorem zjo (T : Txt K mg a d) : FnOk P w K mg base CX0 3 a.f_keeps_bough d.f_keeps_bough ["bough", "some"] zq8 := by
 have G_has := zep (P := P) (w := w) (base := base) T
 have G_count_in := zhu (P := P) (w := w) (base := base) T
 refine T.K_keeps_bough.ok sc_keeps_bough (fun vs H Q E h => ?_) (fun cdv A outer s H vs Q E hr h => ?_)
 ·obtain ⟨u, lo, hi, ks, n, v, rfl, _⟩ := h
  rfl
 obtain ⟨u, lo, hi, ks, n, v, rfl, hd, hk, q⟩ := h
 obtain ⟨p, pk, rfl, hp, hpk⟩ := zgr hd
 refine ⟨_, (zaf (zat (i := 2) sc_keeps_bough.nd rfl (Or.inl rfl) (zad G_count_in hr.lv rfl T.K_count_in (zaa (zan (ixT (K := K)) (pv 0) zac (fun _ _ => rfl)) (zaa (pv 1) zab))))
   (zaf (zaz (zbu (zad G_has hr.lv rfl T.K_has (zaa (pv 1) (zaa (zan (ixT (K := K)) (pv 0) zac (fun _ _ => rfl)) zab)))) (zah (zaj (zmn zkc zkc (zan (ixT (K := K)) (pv 0) zac (fun _ _ => rfl)) (pv 2) (zan (ixT (K := K)) (pv 0) zac (fun _ _ => rfl))))) zaq)
   (zah (zaj (zbf za4 (pv 2) zac (zak _)))))), ?_⟩
 refine ⟨_, rfl, p, _, _, _, rfl, rfl, sqT hp, at3, _, rfl, pk, ks, n, rfl, hpk, hk, fun H1 s1 => ?_⟩
 have hp1 := s1 _ _ hp
 have q1 := q H1 s1
 refine ⟨_, rfl, _, rfl, p, _, _, _, rfl, rfl, sqT hp1, at0, _, _, rfl, _, rfl, ?_⟩
 rw [zbc]
 refine zbl (fun c => ?_) (fun c => ?_)
 ·rw [zr9 c] at q1
  refine ⟨_, rfl, p, _, _, _, rfl, rfl, sqT hp1, at1, _, rfl, _, _, rfl, rfl, _, rfl, ?_⟩
  refine zbl (fun c2 => ?_) (fun c2 => ?_)
  ·refine ⟨_, rfl, p, _, _, _, rfl, rfl, sqT hp1, at2, _, _, rfl, rfl, ?_⟩
   rw [c2, Bool.true_and] at q1
   exact q1
  ·rw [Bool.eq_false_iff.mpr c2, Bool.false_and] at q1
   exact q1
 ·rw [ztj c] at q1
  refine ⟨_, rfl, rfl, ?_⟩
  have e : decide (V.int (cnt ks n : Nat) = V.int 0) = decide (cnt ks n = 0) := by
   rw [zg6]
   by_cases z : cnt ks n = 0
   ·rw [z]; rfl
   ·rw [decide_eq_false z]
    simpa using z
  show Q (.bl (decide (V.int (cnt ks n : Nat) = V.int 0))) H1
  rw [e]
  exact q1
end
section
variable {P : Program} {w : World} {K : PySem.W.Frag} {mg : Str → Option Value} {base : Heap} {a : Adr} {d : Fds}
theorem zmc (T : Txt K mg a d) : FnOk P w K mg base CX0 4 a.f_keeps d.f_keeps ["tie", "some"] zsg := by
 have G_has := zep (P := P) (w := w) (base := base) T
 have G_keeps_bough := zjo (P := P) (w := w) (base := base) T
 refine T.K_keeps.ok zrz (fun vs H Q E h => ?_) (fun cdv A outer s H vs Q E hr h => ?_)
 ·obtain ⟨t, m, n, v, rfl, _⟩ := h
  rfl
 obtain ⟨t, m, n, v, rfl, hd, ok, hm, q⟩ := h
 have q0 := q H (Same.refl H)
 refine ⟨_, (zaf (zaz (zal za4 (zan (ixT (K := K)) (pv 0) zac (fun _ _ => rfl)) zay (zak _)) (zah (zaj (ztu (zgg (zad G_has hr.lv rfl T.K_has (zaa (pv 1) (zaa (zan (ixT (K := K)) (pv 0) zac (fun _ _ => rfl)) zab)))) (zco (zad G_has hr.lv rfl T.K_has (zaa (pv 1) (zaa (zan (ixT (K := K)) (pv 0) zac (fun _ _ => rfl)) zab))))))) zaq)
   (zaf (zaz (zal za4 (zan (ixT (K := K)) (pv 0) zac (fun _ _ => rfl)) zay (zak _)) (zah (zaj (ztu (zgg (zad G_has hr.lv rfl T.K_has (zaa (pv 1) (zaa (zan (ixT (K := K)) (pv 0) zac (fun _ _ => rfl)) zab)))) (zco (zgg (zad G_has hr.lv rfl T.K_has (zaa (pv 1) (zaa (zan (ixT (K := K)) (pv 0) zac (fun _ _ => rfl)) zab)))))))) zaq)
   (zaf (zaz (zal za4 (zan (ixT (K := K)) (pv 0) zac (fun _ _ => rfl)) zay (zak _)) (zah (zaj (zbf zkc (zaw (zb7 rfl) rfl T.m_sum PyProof.Rows.boot_sum (zaa (zd1 (sc0 := zag zij) (XN := ["tie", "some"]) (N' := ["k", "number", "some"]) (n := 2) (kp := [1]) rfl (piT (K := K) (zan (ixT (K := K)) (pv 0) zac (fun _ _ => rfl))) rfl rfl (by decide +kernel) (fun _ _ _ _ _ => (pgT (K := K) (n := 2) rfl (zb1 (za0 (i := 0) (by show List.Nodup (["k", "number", "some"] : List Str); decide +kernel) rfl (Or.inl rfl)) (zb1 (za0 (i := 1) (by show List.Nodup (["k", "number", "some"] : List Str); decide +kernel) rfl (Or.inl rfl)) zgw)))) (fun _ _ _ _ _ => (zcx (zbu (zad G_has hr.lv rfl T.K_has (zaa (pv 2) (zaa (pv 0) zab)))))) (fun _ _ _ _ _ => (pv 1))) zab)) (zan (ixT (K := K)) (pv 0) zac (fun _ _ => rfl)) (zak _)))) zaq)
   (zah (zaj (zad G_keeps_bough hr.lv rfl T.K_keeps_bough (zaa (pv 0) (zaa (pv 1) zab)))))))), ?_⟩
 cases t with
 | needs x y =>
  obtain ⟨p, rfl, hp⟩ := zim hd
  refine ⟨_, rfl, p, _, _, _, rfl, rfl, sqT hp, at0, rfl, _, rfl, ?_⟩
  refine zdv rfl ?_
  refine ⟨_, rfl, _, rfl, p, _, _, _, rfl, rfl, sqT hp, at1, _, _, rfl, _, rfl, _, rfl, ?_⟩
  rw [zbc]
  have q1 : Q (.bl (!n.testBit x || n.testBit y)) H := q0
  refine zbl (fun c => ?_) (fun c => ?_)
  ·rw [c, Bool.true_or] at q1
   exact q1
  ·refine ⟨_, rfl, _, rfl, p, _, _, _, rfl, rfl, sqT hp, at2, _, _, rfl, ?_⟩
   rw [zbc]
   rw [Bool.eq_false_iff.mpr c, Bool.false_or] at q1
   exact q1
 | bans x y =>
  obtain ⟨p, rfl, hp⟩ := zim hd
  refine ⟨_, rfl, p, _, _, _, rfl, rfl, sqT hp, at0, rfl, _, rfl, ?_⟩
  refine zbn zjt ?_
  refine ⟨_, rfl, p, _, _, _, rfl, rfl, sqT hp, at0, rfl, _, rfl, ?_⟩
  refine zdv rfl ?_
  refine ⟨_, rfl, _, rfl, p, _, _, _, rfl, rfl, sqT hp, at1, _, _, rfl, _, rfl, _, rfl, ?_⟩
  rw [zbc]
  have q1 : Q (.bl (!n.testBit x || !n.testBit y)) H := q0
  refine zbl (fun c => ?_) (fun c => ?_)
  ·rw [c, Bool.true_or] at q1
   exact q1
  ·refine ⟨_, rfl, _, rfl, p, _, _, _, rfl, rfl, sqT hp, at2, _, _, rfl, _, rfl, ?_⟩
   rw [zbc]
   rw [Bool.eq_false_iff.mpr c, Bool.false_or] at q1
   exact q1
 | most top ps =>
  obtain ⟨p, pq, xs, rfl, hp, hq, hps⟩ := zoz hd
  have lx : xs.length = ps.length := by rw [← hps.length, List.length_map]
  have few : ps.length ≤ m := ok.2.2.2
  refine ⟨_, rfl, p, _, _, _, rfl, rfl, sqT hp, at0, rfl, _, rfl, ?_⟩
  refine zbn zjp ?_
  refine ⟨_, rfl, p, _, _, _, rfl, rfl, sqT hp, at0, rfl, _, rfl, ?_⟩
  refine zbn zkp ?_
  refine ⟨_, rfl, p, _, _, _, rfl, rfl, sqT hp, at0, rfl, _, rfl, ?_⟩
  refine zdv rfl ?_
  refine ⟨_, rfl, p, _, _, _, rfl, rfl, sqT hp, at2, pq, rfl, ⟨_, sqT hq⟩, ?_⟩
  refine zn1 (K := K) (a := pq) (xs := xs) (fun i ys σ H2 => (∃ v v', σ = [v, v', some (.int n)]) ∧ H2 = H ∧ i ≤ ps.length ∧ ys = (((ps.take i).filter fun p => n.testBit p.1).map (·.2)).map V.int) ⟨⟨none, none, rfl⟩, rfl, Nat.zero_le _, rfl⟩ (fun i ys σ H2 hi pv => ?_) (fun i ys σ H2 hi pv => ?_) (fun i x ys σ H2 hx pv => ?_) (fun ys σ H2 pv l hl => ?_)
  ·obtain ⟨_, _, h1, rfl⟩ := pv
   rw [List.length_map, List.length_map]
   refine small (Nat.le_trans (List.length_filter_le _ _) ?_)
   rw [List.length_take]
   omega
  ·rw [pv.2.1]
   exact sqT hq
  ·obtain ⟨⟨v, v', rfl⟩, rfl, h1, rfl⟩ := pv
   obtain ⟨pr, r, hpr, rfl, hr'⟩ := zoy hps hx
   have hj : i < ps.length := (List.getElem?_eq_some_iff.mp hpr).1
   have ee := PySem.take_succ_filter (fun p : Nat × Int => n.testBit p.1) ps i pr hpr
   refine ⟨r, _, rfl, sqT hr', rfl, _, _, rfl, _, _, rfl, rfl, ?_⟩
   refine ⟨_, rfl, _, rfl, _, _, rfl, _, rfl, ?_⟩
   rw [zbc]
   refine zbl (fun c => ?_) (fun c => ?_)
   ·refine ⟨_, rfl, ⟨_, _, rfl⟩, rfl, hj, ?_⟩
    rw [ee, if_pos c, List.map_append, List.map_append]
    rfl
   ·refine ⟨⟨_, _, rfl⟩, rfl, hj, ?_⟩
    rw [ee, if_neg c, List.append_nil]
  ·obtain ⟨_, rfl, _, rfl⟩ := pv
   have sm := zai hl (.lst ((((ps.take xs.length).filter fun p => n.testBit p.1).map (·.2)).map V.int))
   refine ⟨l, _, rfl, SqL.of zae, _, rfl, p, _, _, _, rfl, rfl, sqT (sm _ _ hp), at1, _, _, rfl, rfl, ?_⟩
   have q1 := q _ sm
   have e : (Tie.most top ps).keep n = decide ((((ps.take xs.length).filter fun p => n.testBit p.1).map (·.2)).sum ≤ top) := by
    rw [lx, List.take_length]
    rfl
   rw [e] at q1
   exact q1
 | bough u lo hi ks =>
  obtain ⟨p, pk, e, hp, hpk⟩ := zgr hd
  have ok' : Tie.BoughOkW m u lo hi ks := ok
  have few := ok'.few
  subst e
  refine ⟨_, rfl, p, _, _, _, rfl, rfl, sqT hp, at0, rfl, _, rfl, ?_⟩
  refine zbn int_str ?_
  refine ⟨_, rfl, p, _, _, _, rfl, rfl, sqT hp, at0, rfl, _, rfl, ?_⟩
  refine zbn int_str ?_
  refine ⟨_, rfl, p, _, _, _, rfl, rfl, sqT hp, at0, rfl, _, rfl, ?_⟩
  refine zbn int_str ?_
  exact ⟨_, rfl, _, rfl, u, lo, hi, ks, n, _, rfl, hd, by omega, q⟩
end
section
variable {P : Program} {w : World} {K : PySem.W.Frag} {mg : Str → Option Value} {base : Heap} {a : Adr} {d : Fds}
theorem zes (T : Txt K mg a d) : FnOk P w K mg base CX0 2 a.f_every_tie d.f_every_tie ["wood"] zsj := by
 have G_many_ties := zg3 (P := P) (w := w) (base := base) T
 refine T.K_every_tie.ok zk9 (fun vs H Q E h => ?_) (fun cdv A outer s H vs Q E hr h => ?_)
 ·obtain ⟨wd, m, ts, rfl, _⟩ := h
  rfl
 obtain ⟨wd, m, ts, rfl, W, q⟩ := h
 have p62 : (2 : Int) ^ 62 = 4611686018427387904 := by decide
 obtain ⟨xs, ys, WA, dn⟩ := W.ex
 have few := W.few
 have ln : ts.length = xs.length + ys.length := by
  have := dn.length
  rw [List.length_map, List.length_append] at this
  exact this
 refine ⟨_, (zah (zaj (zbj (zj0 rfl) rfl T.m_list PyProof.Rows.boot_list (zaa (zbj zo9 rfl T.m_range PyProof.Rows.boot_range (zaa (zad G_many_ties hr.lv rfl T.K_many_ties (zaa (pv 0) zab)) zab)) zab)))), ?_⟩
 refine ⟨_, rfl, wd, m, xs, ys, rfl, WA, _, rfl, fun rp hrp => ?_⟩
 refine ⟨rp, 0, _, rfl, zae, by rw [p62]; omega, by rw [p62]; omega, by rw [p62]; omega, by rw [p62]; omega, by omega, fun l hl => ?_⟩
 have e : ((List.range' 0 ((xs.length : Int) + (ys.length : Int) - 0).toNat).map fun i : Nat => V.int (0 + (i : Int))) = (List.range ts.length).map fun i : Nat => V.int (i : Int) := by
  have e1 : ((xs.length : Int) + (ys.length : Int) - 0).toNat = ts.length := by omega
  rw [e1, List.range_eq_range']
  simp
 rw [e]
 have s1 := (zai hrp (.rng 0 ((xs.length : Int) + (ys.length : Int)))).trans (zai hl (.lst ((List.range ts.length).map fun i : Nat => V.int (i : Int))))
 exact q l _ s1 ((zai hrp (.rng 0 ((xs.length : Int) + (ys.length : Int)))).free hl) zae
end
section
variable {P : Program} {w : World} {K : PySem.W.Frag} {mg : Str → Option Value} {base : Heap} {a : Adr} {d : Fds}
theorem zif (T : Txt K mg a d) : FnOk P w K mg base CX0 5 a.f_first_broken d.f_first_broken ["wood", "some"] zre := by
 have G_every_tie := zes (P := P) (w := w) (base := base) T
 have G_tie_at := zhl (P := P) (w := w) (base := base) T
 have G_keeps := zmc (P := P) (w := w) (base := base) T
 refine T.K_first_broken.ok sc_first_broken (fun vs H Q E h => ?_) (fun cdv A outer s H vs Q E hr h => ?_)
 ·obtain ⟨wd, m, ts, n, rfl, _⟩ := h
  rfl
 obtain ⟨wd, m, ts, n, rfl, W, q⟩ := h
 have m9 := W.m9
 refine ⟨_, (zaf (zgk PassesOwn.never rfl (piL (K := K) (zad G_every_tie hr.lv rfl T.K_every_tie (zaa (pv 0) zab))) (za0 (i := 2) sc_first_broken.nd rfl (Or.inl rfl)) (zah (zaz (ze0 (zbu (zad G_keeps hr.lv rfl T.K_keeps (zaa (zad G_tie_at hr.lv rfl T.K_tie_at (zaa (pv 0) (zaa (pv 2) zab))) (zaa (pv 1) zab))))) (zah (zaj (pv 2))) zaq)))
   (zah (zaj zga))), ?_⟩
 refine ⟨_, rfl, wd, m, ts, rfl, W, fun l H1 s1 n1 e1 => ?_⟩
 refine ⟨l, rfl, ⟨_, SqL.of e1⟩, ?_⟩
 refine zm9 (K := K) (a := l) (xs := (List.range ts.length).map fun i : Nat => V.int (i : Int)) (fun i σ H2 => (∃ v, σ = [some (.ref wd), some (.int n), v]) ∧ Same H1 H2 ∧ ∀ j x, j < i → ts[j]? = some x → x.keep n = true) ⟨⟨_, rfl⟩, Same.refl _, fun j x hj => absurd hj (Nat.not_lt_zero j)⟩ (fun i σ H2 _ z => SqL.of (z.2.1 _ _ e1)) ?_ ?_
 ·rintro i x σ H2 hx ⟨⟨v, rfl⟩, s2, hb⟩
  obtain ⟨hi, rfl⟩ := zp4 hx
  have W2 := W.same (s1.trans s2)
  obtain ⟨xs, ys, WA, dn⟩ := W2.ex
  have ht : ts[i]? = some ts[i] := List.getElem?_eq_getElem hi
  obtain ⟨v2, hv2, hd⟩ := DnL.get' dn (i := i) (d := ts[i].toD) (by rw [List.getElem?_map, ht]; rfl)
  refine ⟨_, rfl, _, rfl, wd, m, xs, ys, i, v2, rfl, WA, hv2, ?_⟩
  refine ⟨_, rfl, ts[i], m, n, v2, rfl, hd, W.ok _ (List.getElem_mem hi), by omega, fun H3 s3 => ?_⟩
  refine ⟨_, rfl, ?_⟩
  refine zbl (fun c => ?_) (fun c => ?_)
  ·have c' : (ts[i]).keep n = false := by simpa using c
   have q1 := q H3 ((s1.trans s2).trans s3)
   rw [zm7 ht c' hb] at q1
   exact ⟨_, rfl, q1⟩
  ·have c' : (ts[i]).keep n = true := by simpa using c
   refine ⟨⟨_, rfl⟩, s2.trans s3, fun j x hj hx2 => ?_⟩
   by_cases e : j = i
   ·subst e
    rw [ht] at hx2
    cases hx2
    exact c'
   ·exact hb j x (by omega) hx2
 ·rintro σ H2 ⟨⟨v, rfl⟩, s2, hb⟩
  have q1 := q H2 (s1.trans s2)
  rw [List.length_map, List.length_range] at hb
  rw [zlz hb] at q1
  exact q1
end
section
variable {P : Program} {w : World} {K : PySem.W.Frag} {mg : Str → Option Value} {base : Heap} {a : Adr} {d : Fds}
theorem znr (T : Txt K mg a d) : FnOk P w K mg base CX0 6 a.f_is_ware d.f_is_ware ["wood", "some"] ztc := by
 have G_has := zep (P := P) (w := w) (base := base) T
 have G_first_broken := zif (P := P) (w := w) (base := base) T
 refine T.K_is_ware.ok znj (fun vs H Q E h => ?_) (fun cdv A outer s H vs Q E hr h => ?_)
 ·obtain ⟨wd, m, ts, n, rfl, _⟩ := h
  rfl
 obtain ⟨wd, m, ts, n, rfl, W, q⟩ := h
 refine ⟨_, (zah (zaj (zcl (zad G_has hr.lv rfl T.K_has (zaa (pv 1) (zaa zac zab))) (zco (zbf zui (zad G_first_broken hr.lv rfl T.K_first_broken (zaa (pv 0) (zaa (pv 1) zab))) zga (zak _)))))), ?_⟩
 refine ⟨_, rfl, _, _, rfl, _, rfl, ?_⟩
 have e0 : zna (n : Int) 0 = n.testBit 0 := zbc n 0
 rw [e0]
 refine zbl (fun c => ?_) (fun c => ?_)
 ·refine ⟨_, rfl, _, rfl, wd, m, ts, n, rfl, W, fun H1 s1 => ?_⟩
  have q1 := q H1 s1
  rw [zhy, c, Bool.true_and, ← zqw] at q1
  exact ⟨rfl, q1⟩
 ·have q1 := q H (Same.refl H)
  rw [zhy, Bool.eq_false_iff.mpr c, Bool.false_and] at q1
  exact q1
end
section
variable {P : Program} {w : World} {K : PySem.W.Frag} {mg : Str → Option Value} {base : Heap} {a : Adr} {d : Fds}
theorem ze7 (T : Txt K mg a d) : FnOk P w K mg base CX0 3 a.f_sure_broken_bough d.f_sure_broken_bough ["bough", "yes", "no"] (zsw Tie.sb) := by
 have G_has := zep (P := P) (w := w) (base := base) T
 have G_count_in := zhu (P := P) (w := w) (base := base) T
 refine T.K_sure_broken_bough.ok sc_sure_broken_bough (fun vs H Q E h => ?_) (fun cdv A outer s H vs Q E hr h => ?_)
 ·obtain ⟨u, lo, hi, ks, m, y, n, v, rfl, _⟩ := h
  rfl
 obtain ⟨u, lo, hi, ks, m, y, n, v, rfl, hd, ok, hm, q⟩ := h
 obtain ⟨p, pk, rfl, hp, hpk⟩ := zgr hd
 have few := ok.few
 have rest4 : ∃ t, PSs (zcj CX0 P w K mg base ["bough", "yes", "no", "least", "greatest", "some_with_up", "some_without_up"] "sure_broken_bough" (zag za1) a.f_sure_broken_bough cdv A outer s H E).nox ((za3 za1).drop 4) t ∧ ∀ (v3 v4 : Option V) (b5 b6 : Bool) (H1 : Hp), Same H H1 → (!b5 && !b6) = (Tie.bough u lo hi ks).sb y n → t { nx := fun _ H' => Q .non H', rt := Q } [some (.ref p), some (.int y), some (.int n), v3, v4, some (.bl b5), some (.bl b6)] H1 := by
  refine ⟨_, (zah (zaj (zcl (zgg (pv 5)) (zco (zgg (pv 6)))))), ?_⟩
  intro v3 v4 b5 b6 H1 s1 e
  have q1 := q H1 s1
  rw [← e] at q1
  refine ⟨_, rfl, _, rfl, _, rfl, ?_⟩
  refine zbl (fun c => ?_) (fun c => ?_)
  ·rw [c, Bool.true_and] at q1
   exact ⟨_, rfl, _, rfl, q1⟩
  ·rw [Bool.eq_false_iff.mpr c, Bool.false_and] at q1
   exact q1
 obtain ⟨t4, h4, r4⟩ := rest4
 have rest3 : ∃ t, PSs (zcj CX0 P w K mg base ["bough", "yes", "no", "least", "greatest", "some_with_up", "some_without_up"] "sure_broken_bough" (zag za1) a.f_sure_broken_bough cdv A outer s H E).nox ((za3 za1).drop 3) t ∧ ∀ (g : Int) (b5 : Bool) (H1 : Hp), Same H H1 → g = (ks.length : Int) - cnt ks n → b5 = (!n.testBit u && (decide ((cnt ks y : Int) ≤ hi) && decide (lo ≤ g))) → t { nx := fun _ H' => Q .non H', rt := Q } [some (.ref p), some (.int y), some (.int n), some (.int (cnt ks y : Nat)), some (.int g), some (.bl b5), none] H1 := by
  refine ⟨_, (zaf (zat (i := 6) sc_sure_broken_bough.nd rfl (Or.inl rfl) (zcl (zgg (zad G_has hr.lv rfl T.K_has (zaa (pv 1) (zaa (zan (ixT (K := K)) (pv 0) zac (fun _ _ => rfl)) zab)))) (zco (zbf za4 (pv 3) zac (zak _)))))
   h4), ?_⟩
  intro g b5 H1 s1 eg e5
  have hp1 := s1 _ _ hp
  refine ⟨_, rfl, _, rfl, p, _, _, _, rfl, rfl, sqT hp1, at0, _, _, rfl, _, rfl, _, rfl, ?_⟩
  rw [zbc]
  refine zbl (fun c => ?_) (fun c => ?_)
  ·refine ⟨_, rfl, rfl, ?_⟩
   refine r4 _ _ _ _ _ s1 ?_
   rw [e5, eg, zfi]
   show _ = (!_ && !(!y.testBit u && decide (cnt ks y = 0)))
   rw [c, Bool.true_and]
  ·refine r4 _ _ _ _ _ s1 ?_
   rw [e5, eg]
   show _ = (!_ && !(!y.testBit u && decide (cnt ks y = 0)))
   rw [Bool.eq_false_iff.mpr c, Bool.false_and]
 obtain ⟨t3, h3, r3⟩ := rest3
 have rest2 : ∃ t, PSs (zcj CX0 P w K mg base ["bough", "yes", "no", "least", "greatest", "some_with_up", "some_without_up"] "sure_broken_bough" (zag za1) a.f_sure_broken_bough cdv A outer s H E).nox ((za3 za1).drop 2) t ∧ ∀ (g : Int) (H1 : Hp), Same H H1 → g = (ks.length : Int) - cnt ks n → t { nx := fun _ H' => Q .non H', rt := Q } [some (.ref p), some (.int y), some (.int n), some (.int (cnt ks y : Nat)), some (.int g), none, none] H1 := by
  refine ⟨_, (zaf (zat (i := 5) sc_sure_broken_bough.nd rfl (Or.inl rfl) (zcl (zgg (zad G_has hr.lv rfl T.K_has (zaa (pv 2) (zaa (zan (ixT (K := K)) (pv 0) zac (fun _ _ => rfl)) zab)))) (zcl (zbf zkc (pv 3) (zan (ixT (K := K)) (pv 0) zac (fun _ _ => rfl)) (zak _)) (zco (zbf zkc (zan (ixT (K := K)) (pv 0) zac (fun _ _ => rfl)) (pv 4) (zak _))))))
   h3), ?_⟩
  intro g H1 s1 eg
  have hp1 := s1 _ _ hp
  refine ⟨_, rfl, _, rfl, p, _, _, _, rfl, rfl, sqT hp1, at0, _, _, rfl, _, rfl, _, rfl, ?_⟩
  rw [zbc]
  refine zbl (fun c => ?_) (fun c => ?_)
  ·refine ⟨_, rfl, _, rfl, p, _, _, _, rfl, rfl, sqT hp1, at2, _, _, rfl, rfl, _, rfl, ?_⟩
   refine zbl (fun c2 => ?_) (fun c2 => ?_)
   ·refine ⟨_, rfl, p, _, _, _, rfl, rfl, sqT hp1, at1, _, rfl, _, _, rfl, rfl, ?_⟩
    exact r3 _ _ _ s1 eg (by rw [c, Bool.true_and, c2, Bool.true_and])
   ·exact r3 _ _ _ s1 eg (by rw [c, Bool.true_and, Bool.eq_false_iff.mpr c2, Bool.false_and])
  ·exact r3 _ _ _ s1 eg (by rw [Bool.eq_false_iff.mpr c, Bool.false_and])
 obtain ⟨t2, h2, r2⟩ := rest2
 refine ⟨_, (zaf (zat (i := 3) sc_sure_broken_bough.nd rfl (Or.inl rfl) (zad G_count_in hr.lv rfl T.K_count_in (zaa (zan (ixT (K := K)) (pv 0) zac (fun _ _ => rfl)) (zaa (pv 1) zab))))
   (zaf (zat (i := 4) sc_sure_broken_bough.nd rfl (Or.inl rfl) (zau zbw (zaw (zdd (K := K)) rfl T.m_len PySem.boot_len (zaa (zan (ixT (K := K)) (pv 0) zac (fun _ _ => rfl)) zab)) (zad G_count_in hr.lv rfl T.K_count_in (zaa (zan (ixT (K := K)) (pv 0) zac (fun _ _ => rfl)) (zaa (pv 2) zab)))))
   h2)), ?_⟩
 refine ⟨_, rfl, p, _, _, _, rfl, rfl, sqT hp, at3, _, rfl, pk, ks, y, rfl, hpk, by omega, fun H1 s1 => ?_⟩
 have hp1 := s1 _ _ hp
 have hpk1 := s1 _ _ hpk
 refine ⟨_, rfl, p, _, _, _, rfl, rfl, sqT hp1, at3, pk, _, rfl, .inr (sqT hpk1), ?_⟩
 refine ⟨_, rfl, p, _, _, _, rfl, rfl, sqT hp1, at3, _, rfl, pk, ks, n, rfl, hpk1, by omega, fun H2 s2 => ?_⟩
 refine ⟨_, _, rfl, rfl, ?_⟩
 exact r2 _ _ (s1.trans s2) (by rw [List.length_map])
end
section
variable {P : Program} {w : World} {K : PySem.W.Frag} {mg : Str → Option Value} {base : Heap} {a : Adr} {d : Fds}
theorem zf6 (T : Txt K mg a d) : FnOk P w K mg base CX0 2 a.f_least_sum d.f_least_sum ["pairs", "yes", "no"] (zrb zb2) := by
 have G_has := zep (P := P) (w := w) (base := base) T
 refine T.K_least_sum.ok zla (fun vs H Q E h => ?_) (fun cdv A outer s H vs Q E hr h => ?_)
 ·obtain ⟨pq, xs, ps, y, n, rfl, _⟩ := h
  rfl
 obtain ⟨pq, xs, ps, y, n, rfl, hq, hps, few, q⟩ := h
 have lx : xs.length = ps.length := by rw [← hps.length, List.length_map]
 refine ⟨_, (zah (zaj (zaw (zb7 rfl) rfl T.m_sum PyProof.Rows.boot_sum (zaa (zd1 (sc0 := zag zdn) (XN := ["pairs", "yes", "no"]) (N' := ["k", "number", "yes", "no"]) (n := 2) (kp := [1, 2]) rfl (zug (pv 0)) rfl rfl (by decide +kernel) (fun _ _ _ _ _ => (pgT (K := K) (n := 2) rfl (zb1 (za0 (i := 0) (by show List.Nodup (["k", "number", "yes", "no"] : List Str); decide +kernel) rfl (Or.inl rfl)) (zb1 (za0 (i := 1) (by show List.Nodup (["k", "number", "yes", "no"] : List Str); decide +kernel) rfl (Or.inl rfl)) zgw)))) (fun _ _ _ _ _ => (zcx (PW.pt (zhx (zbu (zad G_has hr.lv rfl T.K_has (zaa (pv 2) (zaa (pv 0) zab)))) (zhg (PW.pt (zgb (zal zf9 (pv 1) zac (zak _)) (zeu (ze0 (zbu (zad G_has hr.lv rfl T.K_has (zaa (pv 3) (zaa (pv 0) zab))))))))))))) (fun _ _ _ _ _ => (pv 1))) zab)))), ?_⟩
 refine ⟨_, rfl, pq, rfl, ?_⟩
 refine zua (K := K) (a := pq) (xs := xs) hq (fun i ys σ H2 => (∃ v v', σ = [v, v', some (.int y), some (.int n)]) ∧ H2 = H ∧ i ≤ ps.length ∧ ys = (((ps.take i).filter fun p => y.testBit p.1 || (decide (p.2 < 0) && !n.testBit p.1)).map (·.2)).map V.int) ⟨⟨none, none, rfl⟩, rfl, Nat.zero_le _, rfl⟩ (fun i ys σ H2 hi pv => ?_) (fun i ys σ H2 hi pv => ?_) (fun i x ys σ H2 hx pv => ?_) (fun ys σ H2 pv l hl => ?_)
 ·obtain ⟨_, _, h1, rfl⟩ := pv
  rw [List.length_map, List.length_map]
  refine small (Nat.le_trans (List.length_filter_le _ _) ?_)
  rw [List.length_take]
  omega
 ·rw [pv.2.1]
 ·obtain ⟨⟨v, v', rfl⟩, rfl, h1, rfl⟩ := pv
  obtain ⟨pr, r, hpr, rfl, hr'⟩ := zoy hps hx
  have hj : i < ps.length := (List.getElem?_eq_some_iff.mp hpr).1
  have ee := PySem.take_succ_filter (fun p : Nat × Int => y.testBit p.1 || (decide (p.2 < 0) && !n.testBit p.1)) ps i pr hpr
  have yes : (y.testBit pr.1 || (decide (pr.2 < 0) && !n.testBit pr.1)) = true → ((((ps.take i).filter fun p => y.testBit p.1 || (decide (p.2 < 0) && !n.testBit p.1)).map (·.2)).map V.int) ++ [V.int pr.2] = (((ps.take (i + 1)).filter fun p => y.testBit p.1 || (decide (p.2 < 0) && !n.testBit p.1)).map (·.2)).map V.int := fun c => by
   rw [ee, if_pos c, List.map_append, List.map_append]
   rfl
  have noo : (y.testBit pr.1 || (decide (pr.2 < 0) && !n.testBit pr.1)) = false → ((((ps.take i).filter fun p => y.testBit p.1 || (decide (p.2 < 0) && !n.testBit p.1)).map (·.2)).map V.int) = (((ps.take (i + 1)).filter fun p => y.testBit p.1 || (decide (p.2 < 0) && !n.testBit p.1)).map (·.2)).map V.int := fun c => by
   rw [ee, if_neg (by rw [c]; exact Bool.false_ne_true), List.append_nil]
  refine ⟨r, _, rfl, sqT hr', rfl, _, _, rfl, _, _, rfl, rfl, ?_⟩
  refine ⟨_, rfl, _, rfl, _, _, rfl, _, rfl, ?_⟩
  rw [zbc]
  refine zbl (fun c => ?_) (fun c => ?_)
  ·refine zqb ?_
   exact ⟨_, rfl, ⟨_, _, rfl⟩, rfl, hj, yes (by rw [c, Bool.true_or])⟩
  ·have c' := Bool.eq_false_iff.mpr c
   refine ⟨_, rfl, _, _, rfl, rfl, _, rfl, ?_⟩
   refine zbl (fun c2 => ?_) (fun c2 => ?_)
   ·refine ⟨_, rfl, _, rfl, _, _, rfl, _, rfl, ?_⟩
    rw [zbc]
    refine zbl (fun c3 => ?_) (fun c3 => ?_)
    ·exact ⟨_, rfl, ⟨_, _, rfl⟩, rfl, hj, yes (by rw [c', Bool.false_or, c2, Bool.true_and, c3])⟩
    ·exact ⟨⟨_, _, rfl⟩, rfl, hj, noo (by rw [c', Bool.false_or, c2, Bool.true_and, Bool.eq_false_iff.mpr c3])⟩
   ·refine zib ?_
    exact ⟨⟨_, _, rfl⟩, rfl, hj, noo (by rw [c', Bool.false_or, Bool.eq_false_iff.mpr c2, Bool.false_and])⟩
 ·obtain ⟨_, rfl, _, rfl⟩ := pv
  refine ⟨l, _, rfl, SqL.of zae, ?_⟩
  have q1 := q _ (zai hl (.lst ((((ps.take xs.length).filter fun p => y.testBit p.1 || (decide (p.2 < 0) && !n.testBit p.1)).map (·.2)).map V.int)))
  have e : zb2 ps y n = (((ps.take xs.length).filter fun p => y.testBit p.1 || (decide (p.2 < 0) && !n.testBit p.1)).map (·.2)).sum := by
   rw [lx, List.take_length]
   rfl
  rw [e] at q1
  exact q1
theorem zll (T : Txt K mg a d) : FnOk P w K mg base CX0 2 a.f_least_sum d.f_least_sum ["pairs", "yes", "no"] (zt0 zb2) := (zf6 T).imp fun _ _ _ _ => zo3
end
section
variable {P : Program} {w : World} {K : PySem.W.Frag} {mg : Str → Option Value} {base : Heap} {a : Adr} {d : Fds}
theorem zfp (T : Txt K mg a d) : FnOk P w K mg base CX0 4 a.f_sure_broken d.f_sure_broken ["tie", "yes", "no"] (zuy Tie.sb) := by
 have G_has := zep (P := P) (w := w) (base := base) T
 have G_least_sum := zll (P := P) (w := w) (base := base) T
 have G_sure_broken_bough := ze7 (P := P) (w := w) (base := base) T
 refine T.K_sure_broken.ok zjm (fun vs H Q E h => ?_) (fun cdv A outer s H vs Q E hr h => ?_)
 ·obtain ⟨t, m, y, n, v, rfl, _⟩ := h
  rfl
 obtain ⟨t, m, y, n, v, rfl, hd, ok, hm, q⟩ := h
 have q0 := q H (Same.refl H)
 refine ⟨_, (zaf (zaz (zal za4 (zan (ixT (K := K)) (pv 0) zac (fun _ _ => rfl)) zay (zak _)) (zah (zaj (zcl (zad G_has hr.lv rfl T.K_has (zaa (pv 1) (zaa (zan (ixT (K := K)) (pv 0) zac (fun _ _ => rfl)) zab))) (zco (zad G_has hr.lv rfl T.K_has (zaa (pv 2) (zaa (zan (ixT (K := K)) (pv 0) zac (fun _ _ => rfl)) zab))))))) zaq)
   (zaf (zaz (zal za4 (zan (ixT (K := K)) (pv 0) zac (fun _ _ => rfl)) zay (zak _)) (zah (zaj (zcl (zad G_has hr.lv rfl T.K_has (zaa (pv 1) (zaa (zan (ixT (K := K)) (pv 0) zac (fun _ _ => rfl)) zab))) (zco (zad G_has hr.lv rfl T.K_has (zaa (pv 1) (zaa (zan (ixT (K := K)) (pv 0) zac (fun _ _ => rfl)) zab))))))) zaq)
   (zaf (zaz (zal za4 (zan (ixT (K := K)) (pv 0) zac (fun _ _ => rfl)) zay (zak _)) (zah (zaj (zbf zg1 (zad G_least_sum hr.lv rfl T.K_least_sum (zaa (zan (ixT (K := K)) (pv 0) zac (fun _ _ => rfl)) (zaa (pv 1) (zaa (pv 2) zab)))) (zan (ixT (K := K)) (pv 0) zac (fun _ _ => rfl)) (zak _)))) zaq)
   (zah (zaj (zad G_sure_broken_bough hr.lv rfl T.K_sure_broken_bough (zaa (pv 0) (zaa (pv 1) (zaa (pv 2) zab))))))))), ?_⟩
 cases t with
 | needs x z =>
  obtain ⟨p, rfl, hp⟩ := zim hd
  refine ⟨_, rfl, p, _, _, _, rfl, rfl, sqT hp, at0, rfl, _, rfl, ?_⟩
  refine zdv rfl ?_
  refine ⟨_, rfl, _, rfl, p, _, _, _, rfl, rfl, sqT hp, at1, _, _, rfl, _, rfl, ?_⟩
  rw [zbc]
  have q1 : Q (.bl (y.testBit x && n.testBit z)) H := q0
  refine zbl (fun c => ?_) (fun c => ?_)
  ·rw [c, Bool.true_and] at q1
   refine ⟨_, rfl, _, rfl, p, _, _, _, rfl, rfl, sqT hp, at2, _, _, rfl, ?_⟩
   rw [zbc]
   exact q1
  ·rw [Bool.eq_false_iff.mpr c, Bool.false_and] at q1
   exact q1
 | bans x z =>
  obtain ⟨p, rfl, hp⟩ := zim hd
  refine ⟨_, rfl, p, _, _, _, rfl, rfl, sqT hp, at0, rfl, _, rfl, ?_⟩
  refine zbn zjt ?_
  refine ⟨_, rfl, p, _, _, _, rfl, rfl, sqT hp, at0, rfl, _, rfl, ?_⟩
  refine zdv rfl ?_
  refine ⟨_, rfl, _, rfl, p, _, _, _, rfl, rfl, sqT hp, at1, _, _, rfl, _, rfl, ?_⟩
  rw [zbc]
  have q1 : Q (.bl (y.testBit x && y.testBit z)) H := q0
  refine zbl (fun c => ?_) (fun c => ?_)
  ·rw [c, Bool.true_and] at q1
   refine ⟨_, rfl, _, rfl, p, _, _, _, rfl, rfl, sqT hp, at2, _, _, rfl, ?_⟩
   rw [zbc]
   exact q1
  ·rw [Bool.eq_false_iff.mpr c, Bool.false_and] at q1
   exact q1
 | most top ps =>
  obtain ⟨p, pq, xs, rfl, hp, hq, hps⟩ := zoz hd
  have few : ps.length ≤ m := ok.2.2.2
  refine ⟨_, rfl, p, _, _, _, rfl, rfl, sqT hp, at0, rfl, _, rfl, ?_⟩
  refine zbn zjp ?_
  refine ⟨_, rfl, p, _, _, _, rfl, rfl, sqT hp, at0, rfl, _, rfl, ?_⟩
  refine zbn zkp ?_
  refine ⟨_, rfl, p, _, _, _, rfl, rfl, sqT hp, at0, rfl, _, rfl, ?_⟩
  refine zdv rfl ?_
  refine ⟨_, rfl, p, _, _, _, rfl, rfl, sqT hp, at2, _, rfl, _, rfl, pq, xs, ps, y, n, rfl, hq, hps, by omega, fun H1 s1 => ?_⟩
  exact ⟨_, rfl, p, _, _, _, rfl, rfl, sqT (s1 _ _ hp), at1, _, _, rfl, rfl, q H1 s1⟩
 | bough u lo hi ks =>
  obtain ⟨p, pk, e, hp, hpk⟩ := zgr hd
  subst e
  refine ⟨_, rfl, p, _, _, _, rfl, rfl, sqT hp, at0, rfl, _, rfl, ?_⟩
  refine zbn int_str ?_
  refine ⟨_, rfl, p, _, _, _, rfl, rfl, sqT hp, at0, rfl, _, rfl, ?_⟩
  refine zbn int_str ?_
  refine ⟨_, rfl, p, _, _, _, rfl, rfl, sqT hp, at0, rfl, _, rfl, ?_⟩
  refine zbn int_str ?_
  exact ⟨_, rfl, _, rfl, _, rfl, u, lo, hi, ks, m, y, n, _, rfl, hd, ok, hm, q⟩
end
section
variable {P : Program} {w : World} {K : PySem.W.Frag} {mg : Str → Option Value} {base : Heap} {a : Adr} {d : Fds}
theorem zfm (T : Txt K mg a d) : FnOk P w K mg base CX0 5 a.f_first_sure_broken d.f_first_sure_broken ["wood", "ties", "yes", "no"] zpi := by
 have G_tie_at := zhl (P := P) (w := w) (base := base) T
 have G_sure_broken := zfp (P := P) (w := w) (base := base) T
 refine T.K_first_sure_broken.ok sc_first_sure_broken (fun vs H Q E h => ?_) (fun cdv A outer s H vs Q E hr h => ?_)
 ·obtain ⟨wd, m, ts, tl, il, y, n, rfl, _⟩ := h
  rfl
 obtain ⟨wd, m, ts, tl, il, y, n, rfl, W, htl, ilt, q⟩ := h
 have m9 := W.m9
 refine ⟨_, (zaf (zgk PassesOwn.never rfl (piL (K := K) (pv 1)) (za0 (i := 4) sc_first_sure_broken.nd rfl (Or.inl rfl)) (zah (zaz (zbu (zad G_sure_broken hr.lv rfl T.K_sure_broken (zaa (zad G_tie_at hr.lv rfl T.K_tie_at (zaa (pv 0) (zaa (pv 4) zab))) (zaa (pv 2) (zaa (pv 3) zab))))) (zah (zaj (pv 4))) zaq)))
   (zah (zaj zga))), ?_⟩
 refine ⟨_, rfl, tl, rfl, ⟨_, SqL.of htl⟩, ?_⟩
 refine zm9 (K := K) (a := tl) (xs := zav il) (fun i σ H2 => (∃ v, σ = [some (.ref wd), some (.ref tl), some (.int y), some (.int n), v]) ∧ Same H H2 ∧ (il.take i).find? (fun i => zgc ts i y n) = none) ⟨⟨_, rfl⟩, Same.refl _, rfl⟩ (fun i σ H2 _ z => SqL.of (z.2.1 _ _ htl)) ?_ ?_
 ·rintro i x σ H2 hx ⟨⟨v, rfl⟩, s2, hb⟩
  rw [List.getElem?_map] at hx
  obtain ⟨t, ht, rfl⟩ := Option.map_eq_some_iff.mp hx
  have htl' := ilt t (List.mem_of_getElem? ht)
  have W2 := W.same s2
  obtain ⟨xs, ys, WA, dn⟩ := W2.ex
  have hts : ts[t]? = some ts[t] := List.getElem?_eq_getElem htl'
  obtain ⟨v2, hv2, hd⟩ := DnL.get' dn (i := t) (d := ts[t].toD) (by rw [List.getElem?_map, hts]; rfl)
  have esb : zgc ts t y n = ts[t].sb y n := by unfold zgc; rw [hts]
  refine ⟨_, rfl, _, rfl, wd, m, xs, ys, t, v2, rfl, WA, hv2, ?_⟩
  refine ⟨_, rfl, _, rfl, ts[t], m, y, n, v2, rfl, hd, W.ok _ (List.getElem_mem htl'), by omega, fun H3 s3 => ?_⟩
  refine ⟨_, rfl, ?_⟩
  refine zbl (fun c => ?_) (fun c => ?_)
  ·have q1 := q H3 (s2.trans s3)
   have e : za7 ts il y n = some t := by
    unfold za7
    have el : il = il.take i ++ t :: il.drop (i + 1) := by
     obtain ⟨hi, e⟩ := List.getElem?_eq_some_iff.mp ht
     rw [← e, List.getElem_cons_drop, List.take_append_drop]
    rw [el, List.find?_append, hb]
    simp [esb, c]
   rw [e] at q1
   exact ⟨_, rfl, q1⟩
  ·refine ⟨⟨_, rfl⟩, s2.trans s3, ?_⟩
   rw [List.take_add_one, ht, Option.toList_some, List.find?_append, hb]
   simp [esb, c]
 ·rintro σ H2 ⟨⟨v, rfl⟩, s2, hb⟩
  have q1 := q H2 s2
  rw [List.length_map, List.take_length] at hb
  have e : za7 ts il y n = none := hb
  rw [e] at q1
  exact q1
end
section
variable {P : Program} {w : World} {K : PySem.W.Frag} {mg : Str → Option Value} {base : Heap} {a : Adr} {d : Fds}
theorem zkr (T : Txt K mg a d) (f : Nat) {p : Addr} {C : Hp → Prop} {m : Nat} {leaf : Nat → Nat → Option PyData} {fdL : FuncData} {pl : List Str} {φ : Heap → Prop}
  (L_leaf_at : FnOk P w K mg base CX0 7 p fdL pl (zut C leaf)) (LB_leaf_at : Binds K fdL pl []) (LP_leaf_at : ∀ h : Heap, φ h → ∃ o fd', h.get? p = some o ∧ o.data = .func fd') (hC : ∀ H H', Same H H' → C H → C H') (hCp : ∀ H, C H → H p = some (.ext φ))
  (G_told_tree : f ≠ 0 → FnOk P w K mg base CX0 (f + 7) a.f_told_tree d.f_told_tree ["wood", "ties", "yes", "no", "leaf_at"] (zk8 (f - 1) p C m leaf)) : FnOk P w K mg base CX0 (f + 8) a.f_told_tree d.f_told_tree ["wood", "ties", "yes", "no", "leaf_at"] (zk8 f p C m leaf) := by
 have G_first_sure_broken := zfm (P := P) (w := w) (base := base) T
 have G_open_options := zb8 (P := P) (w := w) (base := base) T
 have G_with_option := zbs (P := P) (w := w) (base := base) T
 refine T.K_told_tree.ok sc_told_tree (fun vs H Q E h => ?_) (fun cdv A outer s H vs Q E hr h => ?_)
 ·obtain ⟨wd, ts, tl, il, y, n, rfl, _⟩ := h
  rfl
 obtain ⟨wd, ts, tl, il, y, n, rfl, W, htl, ilt, hf, c0, ends, q⟩ := h
 have m9 := W.m9
 obtain ⟨R, r0, rs, re⟩ := ends
 have rest : ∃ t, PSs (zcj CX0 P w K mg base ["wood", "ties", "yes", "no", "leaf_at", "broken", "leaf", "k", "one", "other"] "told_tree" (zag zcy) a.f_told_tree cdv A outer s H E).nox ((za3 zcy).drop 5) t ∧ (∀ (k : Nat) (r : List Nat) (v5 v6 : Option V) (H1 : Hp), Same H H1 → zar m y n = k :: r → za7 ts il y n = none → leaf y n = none → t { nx := fun _ H' => Q .non H', rt := Q } [some (.ref wd), some (.ref tl), some (.int y), some (.int n), some (.ref p), v5, v6, some (.int (k : Int)), none, none] H1) := by
  by_cases hf0 : f = 0
  ·refine ⟨zqx, zfw, ?_⟩
   intro k r v5 v6 H1 s1 ho hb
   rw [ho, hf0] at hf
   simp at hf
  ·have G_told_tree := G_told_tree hf0
   refine ⟨_, (zaf (zat (i := 8) sc_told_tree.nd rfl (Or.inl rfl) (zad G_told_tree hr.lv rfl T.K_told_tree (zaa (pv 0) (zaa (pv 1) (zaa (zad G_with_option hr.lv rfl T.K_with_option (zaa (pv 2) (zaa (pv 7) zab))) (zaa (pv 3) (zaa (pv 4) zab)))))))
   (zaf (zat (i := 9) sc_told_tree.nd rfl (Or.inl rfl) (zad G_told_tree hr.lv rfl T.K_told_tree (zaa (pv 0) (zaa (pv 1) (zaa (pv 2) (zaa (zad G_with_option hr.lv rfl T.K_with_option (zaa (pv 3) (zaa (pv 7) zab))) (zaa (pv 4) zab)))))))
   (zah (zaj (za8 (zaa zay (zaa (pv 7) (zaa (pv 8) (zaa (pv 9) zab))))))))), ?_⟩
   intro k r v5 v6 H1 s1 ho hb hlf
   have hk : k ∈ zar m y n := by rw [ho]; exact List.mem_cons_self
   have km := (mem_open.mp hk).1
   have l1 := zcd hk
   have l2 := zca hk
   refine ⟨_, rfl, _, rfl, _, rfl, _, rfl, y, k, rfl, by omega, _, rfl, _, rfl, wd, ts, tl, il, y ||| 2 ^ k, n, rfl, W.same s1, s1 _ _ htl, ilt, by omega, hC _ _ s1 c0, ⟨R, (rs y n k r0 hk).1, rs, re⟩, fun v1 H2 s2 d1 => ?_⟩
   refine ⟨_, rfl, _, rfl, _, rfl, _, rfl, _, rfl, n, k, rfl, by omega, _, rfl, wd, ts, tl, il, y, n ||| 2 ^ k, rfl, W.same (s1.trans s2), (s1.trans s2) _ _ htl, ilt, by omega, hC _ _ (s1.trans s2) c0, ⟨R, (rs y n k r0 hk).2, rs, re⟩, fun v2 H3 s3 d2 => ?_⟩
   refine ⟨_, rfl, _, rfl, _, rfl, small (by show 4 ≤ 1000; decide), fun tp htp => ?_⟩
   have s4 := zai htp (.tup [.str ("split" : Str), .int (k : Int), v1, v2])
   refine q _ _ (((s1.trans s2).trans s3).trans s4) ?_
   obtain ⟨f', rfl⟩ : ∃ f', f = f' + 1 := ⟨f - 1, by omega⟩
   rw [zdk hb hlf ho]
   exact ⟨tp, _, rfl, zae, _, _, rfl, rfl, _, _, rfl, rfl, _, _, rfl, Dn.same (s3.trans s4) _ _ d1, _, _, rfl, Dn.same s4 _ _ d2, rfl⟩
 obtain ⟨t4, h4, r4⟩ := rest
 refine ⟨_, (zaf (zat (i := 5) sc_told_tree.nd rfl (Or.inl rfl) (zad G_first_sure_broken hr.lv rfl T.K_first_sure_broken (zaa (pv 0) (zaa (pv 1) (zaa (pv 2) (zaa (pv 3) zab))))))
   (zaf (zaz (zal zom (pv 5) zga (zak _)) (zah (zaj (za8 (zaa zay (zaa (pv 5) zab))))) zaq)
   (zaf (zat (i := 6) sc_told_tree.nd rfl (Or.inl rfl) (zm1 (i := 4) L_leaf_at hr.lv rfl (.inl rfl) LB_leaf_at LP_leaf_at (zaa (pv 2) (zaa (pv 3) zab))))
   (zaf (zaz (zal zom (pv 6) zga (zak _)) (zah (zaj (pv 6))) zaq)
   (zaf (zat (i := 7) sc_told_tree.nd rfl (Or.inl rfl) (zan (ixL (K := K)) (zad G_open_options hr.lv rfl T.K_open_options (zaa (zan (ixT (K := K)) (pv 0) zac (fun _ _ => rfl)) (zaa (pv 2) (zaa (pv 3) zab)))) zac (fun _ _ => rfl)))
   h4))))), ?_⟩
 refine ⟨_, rfl, _, rfl, _, rfl, _, rfl, wd, m, ts, tl, il, y, n, rfl, W, htl, ilt, fun H1 s1 => ?_⟩
 obtain ⟨o, ho⟩ : ∃ o, za7 ts il y n = o := ⟨_, rfl⟩
 rw [ho]
 obtain ⟨xs, ys, ⟨tb, tc, hw, hb, hc⟩, dn⟩ := W.ex
 rcases o with _ | t
 ·refine ⟨_, rfl, rfl, _, rfl, ?_⟩
  refine zmf rfl ?_
  refine ⟨rfl, _, rfl, _, rfl, hCp _ (hC _ _ s1 c0), y, n, rfl, hC _ _ s1 c0, fun v H2 s2 lv => ?_⟩
  unfold zgt at lv
  cases hl : leaf y n with
  | some dd =>
   rw [hl] at lv
   obtain ⟨dv, pp, rfl⟩ := lv
   refine ⟨_, rfl, rfl, _, rfl, ?_⟩
   refine zoe (by intro z; cases z) ?_
   refine ⟨_, rfl, ?_⟩
   refine q _ _ (s1.trans s2) ?_
   rw [zen ho hl]
   exact dv
  | none =>
   rw [hl] at lv
   subst lv
   refine ⟨_, rfl, rfl, _, rfl, ?_⟩
   refine zmf rfl ?_
   have s12 := s1.trans s2
   refine ⟨_, rfl, wd, _, _, _, rfl, rfl, sqT (s12 _ _ hw), at0, _, rfl, _, rfl, m, y, n, rfl, by omega, fun l H3 s3 nl hl3 => ?_⟩
   obtain ⟨ol, hol⟩ : ∃ ol, zar m y n = ol := ⟨_, rfl⟩
   rw [hol] at hl3
   rcases ol with _ | ⟨k, r⟩
   ·exact absurd hl (re y n r0 ho hol)
   ·refine ⟨l, _, _, _, rfl, rfl, SqL.of hl3, at0, ?_⟩
    exact r4 k r _ _ H3 (s12.trans s3) hol ho hl
 ·refine ⟨_, rfl, rfl, _, rfl, ?_⟩
  refine zoe (by intro z; cases z) ?_
  refine ⟨_, rfl, small (by show 2 ≤ 1000; decide), fun tp htp => ?_⟩
  have s2 := zai htp (.tup [.str ("broken" : Str), .int (t : Int)])
  refine q _ _ (s1.trans s2) ?_
  rw [zc8 ho]
  exact ⟨tp, _, rfl, zae, _, _, rfl, rfl, _, _, rfl, rfl, rfl⟩
theorem zeg (T : Txt K mg a d) {p : Addr} {C : Hp → Prop} {m : Nat} {leaf : Nat → Nat → Option PyData} {fdL : FuncData} {pl : List Str} {φ : Heap → Prop}
  (L : FnOk P w K mg base CX0 7 p fdL pl (zut C leaf)) (LB : Binds K fdL pl []) (LP : ∀ h : Heap, φ h → ∃ o fd', h.get? p = some o ∧ o.data = .func fd') (hC : ∀ H H', Same H H' → C H → C H') (hCp : ∀ H, C H → H p = some (.ext φ)) :
  ∀ f : Nat, FnOk P w K mg base CX0 (f + 8) a.f_told_tree d.f_told_tree ["wood", "ties", "yes", "no", "leaf_at"] (zk8 f p C m leaf)
 | 0 => zkr T 0 L LB LP hC hCp fun h => absurd rfl h
 | f + 1 => zkr T (f + 1) L LB LP hC hCp fun _ => zeg T L LB LP hC hCp f
end
section
variable {P : Program} {w : World} {K : PySem.W.Frag} {mg : Str → Option Value} {base : Heap} {a : Adr} {d : Fds}
def znp : Sp := fun vs H Q _ => ∃ (wd : Addr) (m : Nat) (ts : List Tie) (y n : Nat), vs = [.ref wd, .int y, .int n] ∧ WoodT H wd m ts ∧ ∀ (v : V) (H' : Hp), Same H H' → zgt (zcz m) y n H' v → Q v H'
theorem zk2 (T : Txt K mg a d) : FnOk P w K mg base CX0 3 a.f_ware_leaf d.f_ware_leaf ["wood", "yes", "no"] znp := by
 have G_open_options := zb8 (P := P) (w := w) (base := base) T
 refine T.K_ware_leaf.ok zlq (fun vs H Q E h => ?_) (fun cdv A outer s H vs Q E hr h => ?_)
 ·obtain ⟨wd, m, ts, y, n, rfl, _⟩ := h
  rfl
 obtain ⟨wd, m, ts, y, n, rfl, W, q⟩ := h
 have m9 := W.m9
 refine ⟨_, (zaf (zaz (zal za4 (zaw (zdd (K := K)) rfl T.m_len PySem.boot_len (zaa (zad G_open_options hr.lv rfl T.K_open_options (zaa (zan (ixT (K := K)) (pv 0) zac (fun _ _ => rfl)) (zaa (pv 1) (zaa (pv 2) zab)))) zab)) zac (zak _)) (zah (zaj (za8 (zaa zay zab)))) zaq)
   (zah (zaj zga))), ?_⟩
 obtain ⟨xs, ys, ⟨tb, tc, hw, hb, hc⟩, dn⟩ := W.ex
 refine ⟨_, rfl, wd, _, _, _, rfl, rfl, sqT hw, at0, _, rfl, _, rfl, m, y, n, rfl, by omega, fun l H2 s2 nl hl => ?_⟩
 refine ⟨l, _, rfl, .inl (SqL.of hl), rfl, _, rfl, ?_⟩
 rw [zfi, List.length_map]
 obtain ⟨ol, hol⟩ : ∃ ol, zar m y n = ol := ⟨_, rfl⟩
 rw [hol]
 rcases ol with _ | ⟨k, r⟩
 ·refine zdv rfl ?_
  refine ⟨small (by show 1 ≤ 1000; decide), fun tp htp => ?_⟩
  have s3 := zai htp (.tup [.str ("ware" : Str)])
  refine q _ _ (s2.trans s3) ?_
  unfold zgt zcz
  rw [if_pos hol]
  exact ⟨⟨tp, _, rfl, zae, _, _, rfl, rfl, rfl⟩, tp, rfl⟩
 ·refine zbn (by simp) ?_
  refine q _ _ s2 ?_
  unfold zgt zcz
  rw [if_neg (by rw [hol]; simp)]
end
section
variable {P : Program} {w : World} {K : PySem.W.Frag} {mg : Str → Option Value} {base : Heap} {a : Adr} {d : Fds}
theorem zmv (T : Txt K mg a d) (LB : zfr mg base a.c_cases_of a.t_cases_of) (f : Nat) : FnOk P w K mg base CX0 (f + 9) a.f_cases_of d.f_cases_of ["wood", "ties", "yes", "no"] (spT a.t_cases_of (zqk f)) := by
 refine T.K_cases_of.okC znf (fun vs H Q E h => ?_) (fun cdv A outer s H vs Q E hcd hr h => ?_)
 ·obtain ⟨_, wd, m, ts, tl, il, y, n, rfl, _⟩ := h
  rfl
 obtain ⟨tb, wd, m, ts, tl, il, y, n, rfl, W, htl, ilt, hf, q⟩ := h
 have LC : ((zcj CX0 P w K mg base ["wood", "ties", "yes", "no"] "cases_of" (zag zb4) a.f_cases_of cdv A outer s H E).nox).env.code = .ref a.c_cases_of := hcd.symm.trans T.code_cases_of
 have LF : ∀ y ∈ (zc0 (zfy (zso (za3 zb4)[0]?))).names, y.2 = .free → ∃ c, ((zcj CX0 P w K mg base ["wood", "ties", "yes", "no"] "cases_of" (zag zb4) a.f_cases_of cdv A outer s H E).nox).env.cells.lookup y.1 = some c := by
  intro y hy hz
  have e : y = (("wood" : Str), NameKind.free) := by
   have h := (by decide +kernel : ∀ y ∈ (zc0 (zfy (zso (za3 zb4)[0]?))).names, y.2 = NameKind.free → y = (("wood" : Str), NameKind.free))
   exact h y hy hz
  subst e
  exact ⟨_, rfl⟩
 refine ⟨_, (zah (zaj (zi6 (k := f + 8) hr.lv rfl T.K_told_tree.g T.K_told_tree.kp T.K_told_tree.B (fun _ => rfl) (zaa (pv 0) (zaa (pv 1) (zaa (pv 2) (zaa (pv 3) (zaa (zkx LC LB rfl LF) zab)))))))), ?_⟩
 refine ⟨_, rfl, _, rfl, _, rfl, _, rfl, tb, fun p c' H1 np s1 hp hc base' ci _ _ => ?_⟩
 obtain ⟨cw, u, e1, r1, ic⟩ := ci 0 "wood" (.ref wd) rfl rfl rfl
 have hcells : ((zcj CX0 P w K mg base ["wood", "ties", "yes", "no"] "cases_of" (zag zb4) a.f_cases_of cdv A outer s H E).nox).env.cells = [(("wood" : Str), cw)] := by
  have z : cw = s.heap.objs.size + 1 := (Option.some.inj (show some (s.heap.objs.size + 1) = some cw from e1)).symm
  rw [z]
  rfl
 have G_ware_leaf := zk2 (P := P) (w := w) (base := base') T
 have L := zrj (P := P) (w := w) (K := K) (mg := mg) (base := base') (ps := ["come", "gone"]) (fr := ["wood"]) (fv := [.ref wd]) (k := 6) (leaf := zcz m) (fun H => WoodT H wd m ts) hp ⟨rfl, rfl, rfl, by decide +kernel, by decide +kernel, by decide +kernel, by decide +kernel⟩
  (fun x cc h => by
   have h' := zbp LF h
   rw [hcells] at h'
   obtain ⟨_, rfl⟩ := zgi h'
   exact ⟨_, ic⟩)
  (fun x y cc h1 h2 => by
   have h1' := zbp LF h1
   have h2' := zbp LF h2
   rw [hcells] at h1' h2'
   rw [(zgi h1').1, (zgi h2').1])
  (fun y hy hz => by
   obtain ⟨c, hc⟩ := LF y hy hz
   exact ⟨c, zfu LF (by rw [← hz]; exact hy) hc⟩)
  (fun i x v h1 h2 => by
   cases i with
   | zero =>
    cases h1
    cases h2
    exact ⟨cw, u, zfu LF (by decide +kernel) e1, r1, ic⟩
   | succ i => cases h1)
  rfl (fun _ _ _ => rfl) rfl
  (fun q A outer s H y n Q hr W0 q' => ⟨_, zow G_ware_leaf (hr.mono (by decide)) rfl T.K_ware_leaf.g T.K_ware_leaf.kp T.K_ware_leaf.B .nil zrt (zaa (pv 2) (zaa (pv 0) (zaa (pv 1) zab))), ⟨_, rfl, _, rfl, _, rfl, wd, m, ts, y, n, rfl, W0, q'⟩⟩)
 have G := zeg (P := P) (w := w) (base := base') (m := m) T L (.all fun us hl => match us, hl with | [_, _], _ => rfl) zlg (fun H H' s h => ⟨h.1.same s, s _ _ h.2.1, s _ _ h.2.2⟩) (fun H h => h.2.1) f
 refine ⟨_, G, wd, ts, tl, il, y, n, rfl, W.same s1, s1 _ _ htl, ilt, hf, ⟨W.same s1, hp, hc⟩, EndsR.all (fun y n hb ho => by unfold zcz; rw [if_pos ho]; simp) _ _, fun v H' s2 dv => q v H' (s1.trans s2) ?_⟩
 rw [← zgf f y n hf]
 exact dv
end
section
variable {P : Program} {w : World} {K : PySem.W.Frag} {mg : Str → Option Value} {base : Heap} {a : Adr} {d : Fds}
theorem zi5 (T : Txt K mg a d) (LB : zfr mg base a.c_cases_of a.t_cases_of) : FnOk P w K mg base CX0 19 a.f_cases d.f_cases ["wood", "yes", "no"] (spT a.t_cases_of zti) := by
 have G_cases_of := zmv (P := P) (w := w) (base := base) T LB 9
 have G_every_tie := zes (P := P) (w := w) (base := base) T
 refine T.K_cases.ok zq3 (fun vs H Q E h => ?_) (fun cdv A outer s H vs Q E hr h => ?_)
 ·obtain ⟨_, wd, m, ts, y, n, rfl, _⟩ := h
  rfl
 obtain ⟨tb, wd, m, ts, y, n, rfl, W, m9, q⟩ := h
 have of := ze4 m y n
 refine ⟨_, (zah (zaj (zad G_cases_of hr.lv rfl T.K_cases_of (zaa (pv 0) (zaa (zad G_every_tie hr.lv rfl T.K_every_tie (zaa (pv 0) zab)) (zaa (pv 1) (zaa (pv 2) zab))))))), ?_⟩
 refine ⟨_, rfl, _, rfl, wd, m, ts, rfl, W, fun l H1 s1 nl hl => ?_⟩
 refine ⟨_, rfl, _, rfl, s1.tab tb, wd, m, ts, l, zci ts, y, n, rfl, W.same s1, hl, fun i hi => List.mem_range.mp hi, by omega, fun v H2 s2 dv => ?_⟩
 exact q v H2 (s1.trans s2) dv
end
section
variable {P : Program} {w : World} {K : PySem.W.Frag} {mg : Str → Option Value} {base : Heap} {a : Adr} {d : Fds}
theorem zh9 (T : Txt K mg a d) : FnOk P w K mg base CX0 7 a.f_is_ware_leaf d.f_is_ware_leaf ["wood", "word", "yes", "no"] zs6 := by
 have G_open_options := zb8 (P := P) (w := w) (base := base) T
 have G_is_ware := znr (P := P) (w := w) (base := base) T
 refine T.K_is_ware_leaf.ok zia (fun vs H Q E h => ?_) (fun cdv A outer s H vs Q E hr h => ?_)
 ·obtain ⟨wd, m, ts, wo, y, n, rfl, _⟩ := h
  rfl
 obtain ⟨wd, m, ts, wo, y, n, rfl, W, q⟩ := h
 have m9 := W.m9
 have q0 := q H (Same.refl H)
 obtain ⟨xs, ys, ⟨tb, tc, hw, hb, hc⟩, dn⟩ := W.ex
 refine ⟨_, (zah (zaj (zcl (zbf za4 (pv 1) zay (zak _)) (zcl (zbf za4 (zaw (zdd (K := K)) rfl T.m_len PySem.boot_len (zaa (zad G_open_options hr.lv rfl T.K_open_options (zaa (zan (ixT (K := K)) (pv 0) zac (fun _ _ => rfl)) (zaa (pv 2) (zaa (pv 3) zab)))) zab)) zac (zak _)) (zco (zad G_is_ware hr.lv rfl T.K_is_ware (zaa (pv 0) (zaa (pv 2) zab)))))))), ?_⟩
 refine ⟨_, rfl, rfl, _, rfl, ?_⟩
 by_cases c0 : V.str wo = V.str ("ware" : Str)
 ·refine zdv c0 ?_
  refine ⟨_, rfl, wd, _, _, _, rfl, rfl, sqT hw, at0, _, rfl, _, rfl, m, y, n, rfl, by omega, fun l H2 s2 nl hl => ?_⟩
  refine ⟨l, _, rfl, .inl (SqL.of hl), rfl, _, rfl, ?_⟩
  have q2 := q H2 s2
  by_cases c1 : zar m y n = []
  ·refine zdv (by rw [c1]; rfl) ?_
   refine ⟨_, rfl, _, rfl, wd, m, ts, y, rfl, W.same s2, fun H3 s3 => ?_⟩
   have q3 := q H3 (s2.trans s3)
   unfold zcc at q3
   rw [decide_eq_true c0, decide_eq_true c1, Bool.true_and, Bool.true_and] at q3
   exact q3
  ·refine zbn (fun z => c1 (by
    injection z with z
    rw [List.length_map] at z
    exact List.length_eq_zero_iff.mp (by omega))) ?_
   unfold zcc at q2
   rw [decide_eq_false c1, Bool.false_and, Bool.and_false] at q2
   exact q2
 ·refine zbn c0 ?_
  unfold zcc at q0
  rw [decide_eq_false c0, Bool.false_and] at q0
  exact q0
end
section
variable {P : Program} {w : World} {K : PySem.W.Frag} {mg : Str → Option Value} {base : Heap} {a : Adr} {d : Fds}
theorem zg4 (T : Txt K mg a d) : FnOk P w K mg base CX0 5 a.f_is_broken_leaf d.f_is_broken_leaf ["wood", "yes", "no", "t"] zr6 := by
 have G_many_ties := zg3 (P := P) (w := w) (base := base) T
 have G_tie_at := zhl (P := P) (w := w) (base := base) T
 have G_sure_broken := zfp (P := P) (w := w) (base := base) T
 refine T.K_is_broken_leaf.ok zgu (fun vs H Q E h => ?_) (fun cdv A outer s H vs Q E hr h => ?_)
 ·obtain ⟨wd, m, ts, y, n, t, rfl, _⟩ := h
  rfl
 obtain ⟨wd, m, ts, y, n, t, rfl, W, q⟩ := h
 have m9 := W.m9
 have q0 := q H (Same.refl H)
 obtain ⟨xs, ys, WA, dn⟩ := W.ex
 have lx : (xs.length : Int) + (ys.length : Int) = (ts.length : Int) := by
  have := dn.length
  rw [List.length_map, List.length_append] at this
  omega
 refine ⟨_, (zah (zaj (zcl (zmn zkc zf9 zac (pv 3) (zad G_many_ties hr.lv rfl T.K_many_ties (zaa (pv 0) zab))) (zco (zad G_sure_broken hr.lv rfl T.K_sure_broken (zaa (zad G_tie_at hr.lv rfl T.K_tie_at (zaa (pv 0) (zaa (pv 3) zab))) (zaa (pv 1) (zaa (pv 2) zab)))))))), ?_⟩
 refine ⟨_, rfl, _, _, rfl, rfl, _, rfl, ?_⟩
 by_cases c0 : 0 ≤ t
 ·refine zdj (decide_eq_true c0) ?_
  refine ⟨_, rfl, wd, m, xs, ys, rfl, WA, _, _, rfl, rfl, _, rfl, ?_⟩
  rw [lx]
  by_cases c1 : t < (ts.length : Int)
  ·refine zdj (decide_eq_true c1) ?_
   obtain ⟨j, rfl⟩ : ∃ j : Nat, t = (j : Int) := ⟨t.toNat, by omega⟩
   have jl : j < ts.length := by omega
   have hts : ts[j]? = some ts[j] := List.getElem?_eq_getElem jl
   obtain ⟨v2, hv2, hd⟩ := DnL.get' dn (i := j) (d := ts[j].toD) (by rw [List.getElem?_map, hts]; rfl)
   refine ⟨_, rfl, _, rfl, wd, m, xs, ys, j, v2, rfl, WA, hv2, ?_⟩
   refine ⟨_, rfl, _, rfl, ts[j], m, y, n, v2, rfl, hd, W.ok _ (List.getElem_mem jl), by omega, fun H3 s3 => ?_⟩
   have e : brB ts (j : Int) y n = ts[j].sb y n := by
    unfold brB zgc
    rw [decide_eq_true c0, decide_eq_true c1, Int.toNat_natCast, hts]
    rfl
   have q1 := q H3 s3
   rw [e] at q1
   exact q1
  ·refine zb3 (decide_eq_false c1) ?_
   have e : brB ts t y n = false := by
    unfold brB
    rw [decide_eq_false c1, Bool.false_and, Bool.and_false]
   rw [e] at q0
   exact q0
 ·refine zb3 (decide_eq_false c0) ?_
  have e : brB ts t y n = false := by
   unfold brB
   rw [decide_eq_false c0, Bool.false_and]
  rw [e] at q0
  exact ⟨_, rfl, q0⟩
end
section
variable {P : Program} {w : World} {K : PySem.W.Frag} {mg : Str → Option Value} {base : Heap} {a : Adr} {d : Fds}
theorem zo8 (T : Txt K mg a d) (f : Nat) {p : Addr} {C : Hp → Prop} {R : Nat → Nat → Prop} {m : Nat} {ts : List Tie} {lf : Str → Nat → Nat → Bool} {fdL : FuncData} {pl : List Str} {φ : Heap → Prop}
  (L_is_leaf : FnOk P w K mg base CX0 9 p fdL pl (zlh C R lf)) (LB_is_leaf : Binds K fdL pl []) (LP_is_leaf : ∀ h : Heap, φ h → ∃ o fd', h.get? p = some o ∧ o.data = .func fd') (hC : ∀ H H', Same H H' → C H → C H') (hCp : ∀ H, C H → H p = some (.ext φ)) (hR : ∀ y n k, R y n → k ∈ zar m y n → R (y ||| 2 ^ k) n ∧ R y (n ||| 2 ^ k))
  (G_is_tree : FnOk P w K mg base CX0 (f + 9) a.f_is_tree d.f_is_tree ["wood", "yes", "no", "tree", "is_leaf"] (zht f p C R m ts lf)) : FnOk P w K mg base CX0 (f + 10) a.f_is_tree d.f_is_tree ["wood", "yes", "no", "tree", "is_leaf"] (zht (f + 1) p C R m ts lf) := by
 have G_is_broken_leaf := zg4 (P := P) (w := w) (base := base) T
 have G_open_options := zb8 (P := P) (w := w) (base := base) T
 have G_with_option := zbs (P := P) (w := w) (base := base) T
 refine T.K_is_tree.ok sc_is_tree (fun vs H Q E h => ?_) (fun cdv A outer s H vs Q E hr h => ?_)
 ·obtain ⟨wd, y, n, t, v, rfl, _⟩ := h
  rfl
 obtain ⟨wd, y, n, t, v, rfl, W, dn, gd, dp, c0, q⟩ := h
 have m9 := W.m9
 obtain ⟨xs, ys, ⟨tb, tc, hw, hb, hc⟩, _⟩ := W.ex
 refine ⟨_, (zaf (zaz (zal za4 (zan (ixT (K := K)) (pv 3) zac (fun _ _ => rfl)) zay (zak _)) (zah (zaj (zad G_is_broken_leaf hr.lv rfl T.K_is_broken_leaf (zaa (pv 0) (zaa (pv 1) (zaa (pv 2) (zaa (zan (ixT (K := K)) (pv 3) zac (fun _ _ => rfl)) zab))))))) zaq)
   (zaf (zaz (zal zoo (zan (ixT (K := K)) (pv 3) zac (fun _ _ => rfl)) zay (zak _)) (zah (zaj (zm1 (i := 4) L_is_leaf hr.lv rfl (.inl rfl) LB_is_leaf LP_is_leaf (zaa (zan (ixT (K := K)) (pv 3) zac (fun _ _ => rfl)) (zaa (pv 1) (zaa (pv 2) zab)))))) zaq)
   (zaf (zat (i := 5) sc_is_tree.nd rfl (Or.inl rfl) (zan (ixT (K := K)) (pv 3) zac (fun _ _ => rfl)))
   (zaf (zaz (zal zku (pv 5) (zad G_open_options hr.lv rfl T.K_open_options (zaa (zan (ixT (K := K)) (pv 0) zac (fun _ _ => rfl)) (zaa (pv 1) (zaa (pv 2) zab)))) (by with_unfolding_all rfl)) (zah (zaj ze8)) zaq)
   (zaf (zaz (ze0 (zbu (zad G_is_tree hr.lv rfl T.K_is_tree (zaa (pv 0) (zaa (zad G_with_option hr.lv rfl T.K_with_option (zaa (pv 1) (zaa (pv 5) zab))) (zaa (pv 2) (zaa (zan (ixT (K := K)) (pv 3) zac (fun _ _ => rfl)) (zaa (pv 4) zab)))))))) (zah (zaj ze8)) zaq)
   (zah (zaj (zad G_is_tree hr.lv rfl T.K_is_tree (zaa (pv 0) (zaa (pv 1) (zaa (zad G_with_option hr.lv rfl T.K_with_option (zaa (pv 2) (zaa (pv 5) zab))) (zaa (zan (ixT (K := K)) (pv 3) zac (fun _ _ => rfl)) (zaa (pv 4) zab))))))))))))), ?_⟩
 cases t with
 | broken t =>
  obtain ⟨q0, xs, rfl, hp, xu, r1, rfl, hu, xl, r2, rfl, hlo, hnil⟩ := zbo dn
  cases (show r2 = [] from hnil)
  cases (show xu = .str ("broken" : Str) from hu)
  cases (show xl = .int t from hlo)
  refine ⟨_, rfl, q0, _, _, _, rfl, rfl, sqT hp, at0, rfl, _, rfl, ?_⟩
  refine zdv rfl ?_
  exact ⟨_, rfl, _, rfl, _, rfl, _, rfl, q0, _, _, _, rfl, rfl, sqT hp, at1, wd, m, ts, y, n, t, rfl, W, q⟩
 | leaf wo =>
  obtain ⟨q0, xs, rfl, hp, xu, r1, rfl, hu, hnil⟩ := zbo dn
  cases (show r1 = [] from hnil)
  cases (show xu = .str wo from hu)
  refine ⟨_, rfl, q0, _, _, _, rfl, rfl, sqT hp, at0, rfl, _, rfl, ?_⟩
  refine zbn gd.1 ?_
  refine ⟨_, rfl, q0, _, _, _, rfl, rfl, sqT hp, at0, rfl, _, rfl, ?_⟩
  refine zoe gd.2 ?_
  exact ⟨rfl, _, rfl, q0, _, _, _, rfl, rfl, sqT hp, at0, _, rfl, _, rfl, hCp _ c0.1, wo, y, n, rfl, c0, q⟩
 | split k ta tb' =>
  obtain ⟨q0, xs, rfl, hp, xu, r1, rfl, hu, xl, r2, rfl, hlo, va, r3, rfl, ha, vb, r4, rfl, hb', hnil⟩ := zbo dn
  cases (show r4 = [] from hnil)
  cases (show xu = .str ("split" : Str) from hu)
  cases (show xl = .int k from hlo)
  have da : ta.depth < f := by have e : (WT.split k ta tb').depth = max ta.depth tb'.depth + 1 := rfl; have := Nat.le_max_left ta.depth tb'.depth; omega
  have db : tb'.depth < f := by have e : (WT.split k ta tb').depth = max ta.depth tb'.depth + 1 := rfl; have := Nat.le_max_right ta.depth tb'.depth; omega
  refine ⟨_, rfl, q0, _, _, _, rfl, rfl, sqT hp, at0, rfl, _, rfl, ?_⟩
  refine zbn zgy ?_
  refine ⟨_, rfl, q0, _, _, _, rfl, rfl, sqT hp, at0, rfl, _, rfl, ?_⟩
  refine zmf rfl ?_
  refine ⟨_, rfl, q0, _, _, _, rfl, rfl, sqT hp, at1, ?_⟩
  refine ⟨_, rfl, _, rfl, wd, _, _, _, rfl, rfl, sqT hw, at0, _, rfl, _, rfl, m, y, n, rfl, by omega, fun l H2 s2 nl hl => ?_⟩
  refine ⟨l, _, rfl, .inl (SqL.of hl), rfl, zpf _, _, rfl, ?_⟩
  by_cases c : 0 ≤ k ∧ k.toNat ∈ zar m y n
  ·refine zb3 (show (!inV (.int k) (zav (zar m y n))) = false by rw [zon, decide_eq_true c]; rfl) ?_
   obtain ⟨j, rfl⟩ : ∃ j : Nat, k = (j : Int) := ⟨k.toNat, by omega⟩
   have jo : j ∈ zar m y n := by have := c.2; rwa [Int.toNat_natCast] at this
   have jm := (mem_open.mp jo).1
   refine ⟨_, rfl, _, rfl, _, rfl, y, j, rfl, by omega, _, rfl, _, rfl, q0, _, _, _, rfl, rfl, sqT (s2 _ _ hp), at2, _, rfl, wd, y ||| 2 ^ j, n, ta, va, rfl, W.same s2, Dn.same s2 _ _ ha, gd.1, da, ⟨hC _ _ s2 c0.1, (hR y n j c0.2 jo).1⟩, fun H3 s3 => ?_⟩
   refine ⟨_, rfl, ?_⟩
   have s13 := s2.trans s3
   have e : ∀ H', Same H H' → Q (.bl (isT ts m lf ta (y ||| 2 ^ j) n && isT ts m lf tb' y (n ||| 2 ^ j))) H' := fun H' s' => by
    have := q H' s'
    unfold isT at this
    rw [if_pos c, Int.toNat_natCast] at this
    exact this
   cases ea : isT ts m lf ta (y ||| 2 ^ j) n with
   | false =>
    refine zdj rfl ?_
    have q3 := e _ s13
    rw [ea, Bool.false_and] at q3
    exact q3
   | true =>
    refine zb3 rfl ?_
    refine ⟨_, rfl, _, rfl, _, rfl, _, rfl, n, j, rfl, by omega, _, rfl, q0, _, _, _, rfl, rfl, sqT (s13 _ _ hp), at3, _, rfl, wd, y, n ||| 2 ^ j, tb', vb, rfl, W.same s13, Dn.same s13 _ _ hb', gd.2, db, ⟨hC _ _ s13 c0.1, (hR y n j c0.2 jo).2⟩, fun H4 s4 => ?_⟩
    have q3 := e _ (s13.trans s4)
    rw [ea, Bool.true_and] at q3
    exact q3
  ·refine zdj (show (!inV (.int k) (zav (zar m y n))) = true by rw [zon, decide_eq_false c]; rfl) ?_
   have q2 := q _ s2
   unfold isT at q2
   rw [if_neg c] at q2
   exact q2
theorem zh5 (T : Txt K mg a d) {p : Addr} {C : Hp → Prop} {R : Nat → Nat → Prop} {m : Nat} {ts : List Tie} {lf : Str → Nat → Nat → Bool} {fdL : FuncData} {pl : List Str} {φ : Heap → Prop}
  (L : FnOk P w K mg base CX0 9 p fdL pl (zlh C R lf)) (LB : Binds K fdL pl []) (LP : ∀ h : Heap, φ h → ∃ o fd', h.get? p = some o ∧ o.data = .func fd') (hC : ∀ H H', Same H H' → C H → C H') (hCp : ∀ H, C H → H p = some (.ext φ)) (hR : ∀ y n k, R y n → k ∈ zar m y n → R (y ||| 2 ^ k) n ∧ R y (n ||| 2 ^ k)) :
  ∀ f : Nat, FnOk P w K mg base CX0 (f + 9) a.f_is_tree d.f_is_tree ["wood", "yes", "no", "tree", "is_leaf"] (zht f p C R m ts lf)
 | 0 => ⟨fun _ _ _ _ h => by obtain ⟨_, _, _, _, _, _, _, _, _, z, _⟩ := h; exact absurd z (Nat.not_lt_zero _), fun _ _ _ _ _ _ _ _ _ _ _ _ _ h => by obtain ⟨_, _, _, _, _, _, _, _, _, z, _⟩ := h; exact absurd z (Nat.not_lt_zero _)⟩
 | f + 1 => zo8 T f L LB LP hC hCp hR (zh5 T L LB LP hC hCp hR f)
end
section
variable {P : Program} {w : World} {K : PySem.W.Frag} {mg : Str → Option Value} {base : Heap} {a : Adr} {d : Fds}
theorem zf7 (T : Txt K mg a d) (f : Nat) (G_wares_in : f ≠ 0 → FnOk P w K mg base CX0 (f + 1) a.f_wares_in d.f_wares_in ["yes", "tree"] (zjj (f - 1))) : FnOk P w K mg base CX0 (f + 2) a.f_wares_in d.f_wares_in ["yes", "tree"] (zjj f) := by
 have G_with_option := zbs (P := P) (w := w) (base := base) T
 refine T.K_wares_in.ok zl2 (fun vs H Q E h => ?_) (fun cdv A outer s H vs Q E hr h => ?_)
 ·obtain ⟨y, t, v, rfl, _⟩ := h
  rfl
 obtain ⟨y, t, v, rfl, hd, hdp, f9, sml, q⟩ := h
 cases t with
 | ware =>
  refine ⟨_, zaf (zaz (zal za4 (zan zld (pv 1) zac (fun _ _ => rfl)) zay (zak _)) (zah (zaj (zbz (zaa (pv 0) zab)))) zaq) zfw, ?_⟩
  obtain ⟨p, rfl, hp⟩ := zs5 hd
  refine ⟨_, rfl, p, _, _, _, rfl, rfl, sqT hp, at0, rfl, _, rfl, ?_⟩
  refine zdv rfl ?_
  refine ⟨_, rfl, small (by show 1 ≤ 1000; decide), fun l hl => ?_⟩
  exact q l _ (zai hl _) hl zae
 | broken tt =>
  refine ⟨_, zaf (zaz (zal za4 (zan zld (pv 1) zac (fun _ _ => rfl)) zay (zak _)) zfw zaq) (zaf (zaz (zal za4 (zan zld (pv 1) zac (fun _ _ => rfl)) zay (zak _)) zfw zaq) (zah (zaj (zbz zab)))), ?_⟩
  obtain ⟨p, rfl, hp⟩ := zqa hd
  refine ⟨_, rfl, p, _, _, _, rfl, rfl, sqT hp, at0, rfl, _, rfl, ?_⟩
  refine zbn zls ?_
  refine ⟨_, rfl, p, _, _, _, rfl, rfl, sqT hp, at0, rfl, _, rfl, ?_⟩
  refine zbn zk6 ?_
  refine ⟨small (by decide), fun l hl => ?_⟩
  exact q l _ (zai hl _) hl zae
 | split k ta tb =>
  have hf0 : f ≠ 0 := fun z => by rw [z] at hdp; simp [CT.depth] at hdp
  have G_wares_in := G_wares_in hf0
  have hdp' : max ta.depth tb.depth + 1 ≤ f := hdp
  refine ⟨_, (zaf (zaz (zal za4 (zan (ixT (K := K)) (pv 1) zac (fun _ _ => rfl)) zay (zak _)) (zah (zaj (zbz (zaa (pv 0) zab)))) zaq)
   (zaf (zaz (zal za4 (zan (ixT (K := K)) (pv 1) zac (fun _ _ => rfl)) zay (zak _)) (zah (zaj (zau zn7 (zad G_wares_in hr.lv rfl T.K_wares_in (zaa (zad G_with_option hr.lv rfl T.K_with_option (zaa (pv 0) (zaa (zan (ixT (K := K)) (pv 1) zac (fun _ _ => rfl)) zab))) (zaa (zan (ixT (K := K)) (pv 1) zac (fun _ _ => rfl)) zab))) (zad G_wares_in hr.lv rfl T.K_wares_in (zaa (pv 0) (zaa (zan (ixT (K := K)) (pv 1) zac (fun _ _ => rfl)) zab)))))) zaq)
   (zah (zaj (zbz zab))))), ?_⟩
  obtain ⟨p, va, vb, rfl, hp, da, db⟩ := zrx hd
  obtain ⟨k1, sa, sb⟩ := sml
  refine ⟨_, rfl, p, _, _, _, rfl, rfl, sqT hp, at0, rfl, _, rfl, ?_⟩
  refine zbn znx ?_
  refine ⟨_, rfl, p, _, _, _, rfl, rfl, sqT hp, at0, rfl, _, rfl, ?_⟩
  refine zdv rfl ?_
  refine ⟨_, rfl, _, rfl, p, _, _, _, rfl, rfl, sqT hp, at1, y, k, rfl, k1, _, rfl, p, _, _, _, rfl, rfl, sqT hp, at2, y ||| 2 ^ k, ta, va, rfl, da, by omega, by omega, sa, fun l1 H1 s1 n1 h1 => ?_⟩
  refine ⟨_, rfl, _, rfl, p, _, _, _, rfl, rfl, sqT (s1 _ _ hp), at3, y, tb, vb, rfl, Dn.same s1 _ _ db, by omega, by omega, sb, fun l2 H2 s2 n2 h2 => ?_⟩
  have f1 := zei ta (y ||| 2 ^ k)
  have f2 := zei tb y
  have p1 : 2 ^ ta.depth ≤ 2 ^ 8 := Nat.pow_le_pow_right (by decide) (by omega)
  have p2 : 2 ^ tb.depth ≤ 2 ^ 8 := Nat.pow_le_pow_right (by decide) (by omega)
  refine ⟨l1, l2, _, _, rfl, rfl, s2 _ _ h1, h2, (by rw [List.length_map, List.length_map]; exact small (by omega)), fun l3 h3 => ?_⟩
  have e : zav (ta.leaves (y ||| 2 ^ k)) ++ zav (tb.leaves y) = zav ((CT.split k ta tb).leaves y) := by
   show _ = zav (ta.leaves (y ||| 2 ^ k) ++ tb.leaves y)
   rw [zav, zav, zav, List.map_append]
  rw [e]
  exact q l3 _ ((s1.trans s2).trans (zai h3 _)) ((s1.trans s2).free h3) zae
theorem zh4 (T : Txt K mg a d) : ∀ f : Nat, FnOk P w K mg base CX0 (f + 2) a.f_wares_in d.f_wares_in ["yes", "tree"] (zjj f)
 | 0 => zf7 T 0 fun h => absurd rfl h
 | f + 1 => zf7 T (f + 1) fun _ => zh4 T f
end
section
variable {P : Program} {w : World} {K : PySem.W.Frag} {mg : Str → Option Value} {base : Heap} {a : Adr} {d : Fds}
theorem znb (T : Txt K mg a d) (LB : zfr mg base a.c_cases_of a.t_cases_of) : FnOk P w K mg base CX0 20 a.f_wares d.f_wares ["wood"] (spT a.t_cases_of ztg) := by
 have G_cases := zi5 (P := P) (w := w) (base := base) T LB
 have G_wares_in := zh4 (P := P) (w := w) (base := base) T 9
 have G_with_option := zbs (P := P) (w := w) (base := base) T
 refine T.K_wares.ok sc_wares (fun vs H Q E h => ?_) (fun cdv A outer s H vs Q E hr h => ?_)
 ·obtain ⟨_, wd, m, ts, rfl, _⟩ := h
  rfl
 obtain ⟨tb, wd, m, ts, rfl, W, m1, m9, q⟩ := h
 have of := ze4 m 1 0
 have dp := zcg (ts := ts) (il := zci ts) (m := m) 9 1 0
 have sml := zev (ts := ts) (il := zci ts) (m := m) (by omega) 9 1 0
 have pm := zni W.ok m1 9 (by omega)
 refine ⟨_, (zaf (zat (i := 1) sc_wares.nd rfl (Or.inl rfl) (zad G_with_option hr.lv rfl T.K_with_option (zaa zac (zaa zac zab))))
   (zah (zaj (zaw zk7 rfl T.m_sorted PyProof.Rows.boot_sorted (zaa (zad G_wares_in hr.lv rfl T.K_wares_in (zaa (pv 1) (zaa (zad G_cases hr.lv rfl T.K_cases (zaa (pv 0) (zaa (pv 1) (zaa zac zab)))) zab))) zab))))), ?_⟩
 refine ⟨0, 0, rfl, by decide, ?_⟩
 refine ⟨_, rfl, _, rfl, _, rfl, tb, wd, m, ts, 1, 0, rfl, W, m9, fun v H1 s1 dv => ?_⟩
 refine ⟨1, _, v, rfl, dv, dp, by omega, sml, fun l H2 s2 n2 hl2 => ?_⟩
 refine ⟨l, ((zba ts (zci ts) m 9 1 0).leaves 1).map (fun k : Nat => (k : Int)), rfl, SqL.of (by rw [hl2]; exact congrArg some (congrArg HO.lst (zqi _).symm)), fun ms h1 h2 l3 h3 => ?_⟩
 rw [zm8 h1 h2 pm (zjh m ts), zqi]
 exact q l3 _ ((s1.trans s2).trans (zai h3 _)) ((s1.trans s2).free h3) zae
end
section
variable {P : Program} {w : World} {K : PySem.W.Frag} {mg : Str → Option Value} {base : Heap} {a : Adr} {d : Fds}
theorem ze6 (T : Txt K mg a d) : FnOk P w K mg base CX0 3 a.f_price_of d.f_price_of ["prices", "some"] zto := by
 have G_options_of := zj6 (P := P) (w := w) (base := base) T
 refine T.K_price_of.ok zmm (fun vs H Q E h => ?_) (fun cdv A outer s H vs Q E hr h => ?_)
 ·obtain ⟨lp, ps, n, rfl, _⟩ := h
  rfl
 obtain ⟨lp, ps, n, rfl, hlp, p9, hn, q⟩ := h
 have n9 : n < 512 := Nat.lt_of_lt_of_le hn (Nat.le_trans (Nat.pow_le_pow_right (by decide) p9) (by decide))
 have bl : (zf5 n).length ≤ 9 := by
  refine Nat.le_trans (List.length_filter_le _ _) ?_
  rw [List.length_range]
  exact zlv n9
 refine ⟨_, (zah (zaj (zaw (zb7 rfl) rfl T.m_sum PyProof.Rows.boot_sum (zaa (zd1 (sc0 := zag zef) (XN := ["prices", "some"]) (N' := ["k", "prices"]) (n := 1) (kp := [0]) rfl (piL (K := K) (zad G_options_of hr.lv rfl T.K_options_of (zaa (pv 1) zab))) rfl rfl (by decide +kernel) (fun _ _ _ _ _ => (za0 (i := 0) (by show List.Nodup (["k", "prices"] : List Str); decide +kernel) rfl (Or.inl rfl))) (fun _ _ _ _ _ => zdl) (fun _ _ _ _ _ => (zan (ixL (K := K)) (pv 1) (pv 0) (fun _ _ => rfl)))) zab)))), ?_⟩
 refine ⟨_, rfl, n, rfl, n9, fun l H1 s1 nl hl => ?_⟩
 refine ⟨l, rfl, ⟨_, SqL.of hl⟩, ?_⟩
 refine zdp (K := K) (a := l) (xs := zav (zf5 n)) (fun j ys σ H2 => (∃ v, σ = [v, some (.ref lp)]) ∧ H2 = H1 ∧ ys = (((zf5 n).take j).map fun k => ps.getD k 0).map V.int) ⟨⟨none, rfl⟩, rfl, rfl⟩ (fun j ys σ H2 hj pv => ?_) (fun j ys σ H2 hj pv => ?_) (fun j x ys σ H2 hx pv => ?_) (fun ys σ H2 pv la hla => ?_)
 ·obtain ⟨_, _, rfl⟩ := pv
  rw [List.length_map, List.length_map, List.length_take]
  exact small (by omega)
 ·rw [pv.2.1]
  exact SqL.of hl
 ·obtain ⟨⟨v, rfl⟩, rfl, rfl⟩ := pv
  rw [List.getElem?_map] at hx
  obtain ⟨k, hk, rfl⟩ := Option.map_eq_some_iff.mp hx
  have kb := mem_bitsL.mp (List.mem_of_getElem? hk)
  have kl : k < ps.length := by
   rcases Nat.lt_or_ge k ps.length with z | z
   ·exact z
   ·have p : 2 ^ ps.length ≤ 2 ^ k := Nat.pow_le_pow_right (by decide) z
    rw [Nat.testBit_lt_two_pow (by omega)] at kb
    cases kb
  have pk : ps[k]? = some ps[k] := List.getElem?_eq_getElem kl
  refine ⟨_, rfl, _, rfl, lp, _, _, .int ps[k], rfl, rfl, SqL.of (s1 _ _ hlp), zb9 (by rw [List.getElem?_map, pk]; rfl), ⟨_, rfl⟩, rfl, ?_⟩
  rw [zdz hk, List.map_append, List.getD_eq_getElem?_getD, pk]
  rfl
 obtain ⟨_, rfl, rfl⟩ := pv
 rw [show (zav (zf5 n)).length = (zf5 n).length from List.length_map _, List.take_length]
 exact ⟨la, _, rfl, SqL.of zae, q _ (s1.trans (zai hla _))⟩
end
section
variable {P : Program} {w : World} {K : PySem.W.Frag} {mg : Str → Option Value} {base : Heap} {a : Adr} {d : Fds}
theorem zin (T : Txt K mg a d) : FnOk P w K mg base CX0 3 a.f_is_dear d.f_is_dear ["prices", "price", "yes", "no"] zt8 := by
 have G_least_sum := zf6 (P := P) (w := w) (base := base) T
 refine T.K_is_dear.ok zn5 (fun vs H Q E h => ?_) (fun cdv A outer s H vs Q E hr h => ?_)
 ·obtain ⟨lp, ps, p, y, n, rfl, _⟩ := h
  rfl
 obtain ⟨lp, ps, p, y, n, rfl, hl, p9, q⟩ := h
 refine ⟨_, (zah (zaj (zbf ziw (zad G_least_sum hr.lv rfl T.K_least_sum (zaa (zmo (K := K) rfl rfl T.m_list rfl T.m_enumerate (zaa (pv 0) zab)) (zaa (pv 2) (zaa (pv 3) zab)))) (pv 1) (zak _)))), ?_⟩
 refine ⟨_, rfl, lp, _, rfl, SqL.of hl, fun l xs H1 s1 nl hl1 en => ?_⟩
 refine ⟨_, rfl, _, rfl, l, xs, zcm ps, y, n, rfl, .inr hl1, zt9 en, by unfold zcm; rw [List.length_map, List.length_range]; omega, fun H2 s2 => ?_⟩
 exact ⟨_, rfl, _, _, rfl, rfl, q H2 (s1.trans s2)⟩
end
section
variable {P : Program} {w : World} {K : PySem.W.Frag} {mg : Str → Option Value} {base : Heap} {a : Adr} {d : Fds}
theorem zlk (T : Txt K mg a d) : FnOk P w K mg base CX0 4 a.f_dear_leaf d.f_dear_leaf ["prices", "price", "yes", "no"] znz := by
 have G_is_dear := zin (P := P) (w := w) (base := base) T
 refine T.K_dear_leaf.ok zlf (fun vs H Q E h => ?_) (fun cdv A outer s H vs Q E hr h => ?_)
 ·obtain ⟨lp, ps, p, y, n, rfl, _⟩ := h
  rfl
 obtain ⟨lp, ps, p, y, n, rfl, hl, p9, q⟩ := h
 refine ⟨_, (zaf (zaz (zbu (zad G_is_dear hr.lv rfl T.K_is_dear (zaa (pv 0) (zaa (pv 1) (zaa (pv 2) (zaa (pv 3) zab)))))) (zah (zaj (za8 (zaa zay zab)))) zaq)
   (zah (zaj zga))), ?_⟩
 refine ⟨_, rfl, _, rfl, _, rfl, _, rfl, lp, ps, p, y, n, rfl, hl, p9, fun H1 s1 => ?_⟩
 refine ⟨_, rfl, ?_⟩
 cases c : zmq ps p y n with
 | true =>
  refine zdj rfl ?_
  refine ⟨small (by show 1 ≤ 1000; decide), fun tp htp => ?_⟩
  have s2 := zai htp (.tup [.str ("dear" : Str)])
  refine q _ _ (s1.trans s2) ?_
  unfold zgt zbk
  rw [if_pos c]
  exact ⟨⟨tp, _, rfl, zae, _, _, rfl, rfl, rfl⟩, tp, rfl⟩
 | false =>
  refine zb3 rfl ?_
  refine q _ _ s1 ?_
  unfold zgt zbk
  rw [if_neg (by rw [c]; exact Bool.false_ne_true)]
end
section
variable {P : Program} {w : World} {K : PySem.W.Frag} {mg : Str → Option Value} {base : Heap} {a : Adr} {d : Fds}
theorem ztl (T : Txt K mg a d) (LBc : zfr mg base a.c_cases_of a.t_cases_of) (LB : zfr mg base a.c_best a.t_best) : FnOk P w K mg base CX0 22 a.f_best d.f_best ["wood", "prices"] (spT a.t_cases_of (spT a.t_best zt6)) := by
 have G_cases := zi5 (P := P) (w := w) (base := base) T LBc
 have G_wares := znb (P := P) (w := w) (base := base) T LBc
 have G_with_option := zbs (P := P) (w := w) (base := base) T
 have G_every_tie := zes (P := P) (w := w) (base := base) T
 have G_price_of := ze6 (P := P) (w := w) (base := base) T
 refine T.K_best.okC sc_best (fun vs H Q E h => ?_) (fun cdv A outer s H vs Q E hcd hr h => ?_)
 ·obtain ⟨_, _, wd, lp, m, ts, ps, rfl, _⟩ := h
  rfl
 obtain ⟨tb, tb2, wd, lp, m, ts, ps, rfl, W, m1, m9, hlp, lm, qn, qb⟩ := h
 have LC : ((zcj CX0 P w K mg base ["wood", "prices", "root", "sold", "ware", "price", "tree"] "best" (zag zdy) a.f_best cdv A outer s H E).nox).env.code = .ref a.c_best := hcd.symm.trans T.code_best
 have LF1 : ∀ y ∈ (zc0 (zts (zsa (za3 zdy)[3]?))).names, y.2 = .free → ∃ c, ((zcj CX0 P w K mg base ["wood", "prices", "root", "sold", "ware", "price", "tree"] "best" (zag zdy) a.f_best cdv A outer s H E).nox).env.cells.lookup y.1 = some c := by
  intro y hy hz
  have e : y = (("prices" : Str), NameKind.free) := (by decide +kernel : ∀ y ∈ (zc0 (zts (zsa (za3 zdy)[3]?))).names, y.2 = NameKind.free → y = (("prices" : Str), NameKind.free)) y hy hz
  subst e
  exact ⟨_, rfl⟩
 have LF2 : ∀ y ∈ (zc0 (zfy (zsa (za3 zdy)[5]?))).names, y.2 = .free → ∃ c, ((zcj CX0 P w K mg base ["wood", "prices", "root", "sold", "ware", "price", "tree"] "best" (zag zdy) a.f_best cdv A outer s H E).nox).env.cells.lookup y.1 = some c := by
  intro y hy hz
  have e : y = (("prices" : Str), NameKind.free) ∨ y = (("price" : Str), NameKind.free) := (by decide +kernel : ∀ y ∈ (zc0 (zfy (zsa (za3 zdy)[5]?))).names, y.2 = NameKind.free → y = (("prices" : Str), NameKind.free) ∨ y = (("price" : Str), NameKind.free)) y hy hz
  rcases e with rfl | rfl
  ·exact ⟨_, rfl⟩
  ·exact ⟨_, rfl⟩
 refine ⟨_, (zaf (zat (i := 2) sc_best.nd rfl (Or.inl rfl) (zad G_with_option hr.lv rfl T.K_with_option (zaa zac (zaa zac zab))))
   (zaf (zat (i := 3) sc_best.nd rfl (Or.inl rfl) (zad G_wares hr.lv rfl T.K_wares (zaa (pv 0) zab)))
   (zaf (zaz (zal za4 (zaw (zdd (K := K)) rfl T.m_len PySem.boot_len (zaa (pv 3) zab)) zac (zak _)) (zah (zaj (za8 (zaa zay (zaa (zad G_cases hr.lv rfl T.K_cases (zaa (pv 0) (zaa (pv 2) (zaa zac zab)))) zab))))) zaq)
   (zaf (zat (i := 4) sc_best.nd rfl (Or.inl rfl) (zpb (k := 4) rfl hr.lv rfl T.m_min PyProof.Rows.boot_min (fun _ => rfl) (zaa (pv 3) zab) (zte (zkx LC LB rfl LF1) zt4)))
   (zaf (zat (i := 5) sc_best.nd rfl (Or.inr rfl) (zad G_price_of hr.lv rfl T.K_price_of (zaa (pv 1) (zaa (pv 4) zab))))
   (zaf (zat (i := 6) sc_best.nd rfl (Or.inl rfl) (zi6 (k := 17) hr.lv rfl T.K_told_tree.g T.K_told_tree.kp T.K_told_tree.B (fun _ => rfl) (zaa (pv 0) (zaa (zad G_every_tie hr.lv rfl T.K_every_tie (zaa (pv 0) zab)) (zaa (pv 2) (zaa zac (zaa (zkx LC LB rfl LF2) zab)))))))
   (zah (zaj (za8 (zaa zay (zaa (pv 4) (zaa (pv 5) (zaa (pv 6) zab))))))))))))), ?_⟩
 refine ⟨0, 0, rfl, by decide, ?_⟩
 refine ⟨_, rfl, tb, wd, m, ts, rfl, W, m1, m9, fun l H1 s1 nl hl => ?_⟩
 refine ⟨_, rfl, l, _, rfl, .inl (SqL.of hl), rfl, _, rfl, ?_⟩
 rw [zfi, List.length_map]
 have W1 := W.same s1
 by_cases c : zbh m ts = []
 ·refine zdv (by rw [c]; rfl) ?_
  refine ⟨_, rfl, _, rfl, Same.tab s1 tb, wd, m, ts, 1, 0, rfl, W1, m9, fun v H2 s2 dv => ?_⟩
  refine ⟨small (by show 2 ≤ 1000; decide), fun tp htp => ?_⟩
  have s3 := zai htp (.tup [.str ("none" : Str), v])
  exact qn c _ _ ((s1.trans s2).trans s3) ⟨tp, _, rfl, zae, _, _, rfl, rfl, _, _, rfl, Dn.same s3 _ _ dv, rfl⟩
 have wl : 0 < (zbh m ts).length := List.length_pos_iff.mpr c
 refine zbn (by omega) ?_
 have hp1 : H1 lp = some (.lst (ps.map V.int)) := s1 _ _ hlp
 refine ⟨_, rfl, Same.tab s1 tb2, fun p c' H2 np s2 hp hc => ?_⟩
 have hp2 : H2 lp = some (.lst (ps.map V.int)) := s2 _ _ hp1
 refine ⟨l, p, _, rfl, rfl, s2 _ _ hl, by rw [List.length_map]; exact wl, fun base' ci _ _ => ?_⟩
 have LM := zhh (fr := ["prices"]) (fv := [.ref lp]) LF1 rfl ci (by decide +kernel) (by decide +kernel) rfl (fun i x v h1 h2 => by
  cases i with
  | zero =>
   cases h1
   cases h2
   exact ⟨1, rfl, rfl, rfl⟩
  | succ i => cases h1)
 have G_price := ze6 (P := P) (w := w) (base := base') T
 have L := zov (P := P) (w := w) (K := K) (mg := mg) (base := base') (ps := ["some"]) (k := 3) (zvt lp ps) hp LM ⟨rfl, rfl, rfl, by decide +kernel, by decide +kernel, by decide +kernel, by decide +kernel⟩ rfl (fun _ _ _ => rfl) (fun vs H Q E h => by obtain ⟨_, rfl, _⟩ := h; rfl)
  (fun q A outer s H vs Q E hr h => by
   obtain ⟨n, rfl, hl, ln, q'⟩ := h
   exact ⟨_, zad G_price hr.lv rfl T.K_price_of (zaa (pv 1) (zaa (pv 0) zab)), _, rfl, _, rfl, lp, ps, n, rfl, hl, by omega, ln, q'⟩)
 refine ⟨_, ["some"], _, fun j => za6 ps ((zbh m ts).getD j 0), L, .all fun us hl => match us, hl with | [_], _ => rfl, fun j v H3 hj s3 => ?_, fun i v H3 hi best s3 => ?_⟩
 ·rw [List.getElem?_map] at hj
  obtain ⟨w0, hw, rfl⟩ := Option.map_eq_some_iff.mp hj
  have wm := (mem_wareL.mp (List.mem_of_getElem? hw)).1
  refine ⟨⟨w0, rfl, s3 _ _ hp2, by rw [lm]; exact wm, fun H4 s4 => ⟨?_, s4⟩⟩, s3 _ _ hp, s3 _ _ hc⟩
  show _ = V.int (za6 ps ((zbh m ts).getD j 0))
  rw [List.getD_eq_getElem?_getD, hw]
  rfl
 rw [List.getElem?_map] at hi
 obtain ⟨w0, hw, rfl⟩ := Option.map_eq_some_iff.mp hi
 have wm := (mem_wareL.mp (List.mem_of_getElem? hw)).1
 have B := ztd hw best
 have s03 := (s1.trans s2).trans s3
 refine ⟨_, rfl, _, rfl, lp, ps, w0, rfl, s03 _ _ hlp, by omega, by rw [lm]; exact wm, fun H4 s4 => ?_⟩
 have s04 := s03.trans s4
 have W4 := W.same s04
 refine ⟨_, rfl, _, rfl, wd, m, ts, rfl, W4, fun tl H5 s5 nl5 hl5 => ?_⟩
 have s05 := s04.trans s5
 refine ⟨_, rfl, Same.tab s05 tb2, fun p2 c2 H6 np2 s6 hp2' hc2 base2 ci2 _ _ => ?_⟩
 have s06 := s05.trans s6
 have LM2 := zhh (fr := ["prices", "price"]) (fv := [.ref lp, .int (za6 ps w0)]) LF2 rfl ci2 (by decide +kernel) (by decide +kernel) rfl (fun i x v h1 h2 => by
  cases i with
  | zero =>
   cases h1
   cases h2
   exact ⟨1, rfl, rfl, rfl⟩
  | succ i =>
   cases i with
   | zero =>
    cases h1
    cases h2
    exact ⟨5, rfl, rfl, rfl⟩
   | succ i => cases h1)
 have G_leaf := zlk (P := P) (w := w) (base := base2) T
 have L2 := zrj (P := P) (w := w) (K := K) (mg := mg) (base := base2) (ps := ["yes", "no"]) (k := 6) (leaf := zbk ps (za6 ps w0)) (fun H => H lp = some (.lst (ps.map V.int))) hp2' ⟨rfl, rfl, rfl, by decide +kernel, by decide +kernel, by decide +kernel, by decide +kernel⟩ LM2.cell LM2.inj LM2.has LM2.val rfl (fun _ _ _ => rfl) rfl
  (fun q A outer s H y n Q hr hl q' => ⟨_, zad G_leaf hr.lv rfl T.K_dear_leaf (zaa (pv 2) (zaa (pv 3) (zaa (pv 0) (zaa (pv 1) zab)))), ⟨_, rfl, _, rfl, _, rfl, _, rfl, lp, ps, za6 ps w0, y, n, rfl, hl, by omega, q'⟩⟩)
 have G := zeg (P := P) (w := w) (base := base2) (m := m) T L2 (.all fun us hl => match us, hl with | [_, _], _ => rfl) zlg (fun H H' s h => ⟨s _ _ h.1, s _ _ h.2.1, s _ _ h.2.2⟩) (fun H h => h.2.1) 9
 have of := ze4 m 1 0
 refine ⟨_, G, wd, ts, tl, zci ts, 1, 0, rfl, W.same s06, s6 _ _ hl5, (fun i hi => List.mem_range.mp hi), by omega, ⟨s06 _ _ hlp, hp2', hc2⟩, zkq W.ok m1 lm B, fun v H7 s7 dv => ?_⟩
 refine ⟨_, rfl, _, rfl, _, rfl, small (by show 4 ≤ 1000; decide), fun tp htp => ?_⟩
 have s8 := zai htp (.tup [.str ("best" : Str), .int (w0 : Int), .int (za6 ps w0), v])
 exact qb w0 _ _ B ((s06.trans s7).trans s8) ⟨tp, _, rfl, zae, _, _, rfl, rfl, _, _, rfl, rfl, _, _, rfl, rfl, _, _, rfl, Dn.same s8 _ _ dv, rfl⟩
end
section
variable {P : Program} {w : World} {K : PySem.W.Frag} {mg : Str → Option Value} {base : Heap} {a : Adr} {d : Fds}
theorem zg7 (T : Txt K mg a d) : FnOk P w K mg base CX0 8 a.f_is_bound_leaf d.f_is_bound_leaf ["wood", "prices", "price", "word", "yes", "no"] zmt := by
 have G_is_dear := zin (P := P) (w := w) (base := base) T
 have G_is_ware_leaf := zh9 (P := P) (w := w) (base := base) T
 have G_price_of := ze6 (P := P) (w := w) (base := base) T
 refine T.K_is_bound_leaf.ok zhk (fun vs H Q E h => ?_) (fun cdv A outer s H vs Q E hr h => ?_)
 ·obtain ⟨wd, lp, m, ts, ps, p, wo, y, n, rfl, _⟩ := h
  rfl
 obtain ⟨wd, lp, m, ts, ps, p, wo, y, n, rfl, W, hl, lm, m9, ym, q⟩ := h
 refine ⟨_, (zaf (zaz (zal za4 (pv 3) zay (zak _)) (zah (zaj (zad G_is_dear hr.lv rfl T.K_is_dear (zaa (pv 1) (zaa (pv 2) (zaa (pv 4) (zaa (pv 5) zab))))))) zaq)
   (zah (zaj (zcl (zad G_is_ware_leaf hr.lv rfl T.K_is_ware_leaf (zaa (pv 0) (zaa (pv 3) (zaa (pv 4) (zaa (pv 5) zab))))) (zco (zbf ziw (zad G_price_of hr.lv rfl T.K_price_of (zaa (pv 1) (zaa (pv 4) zab))) (pv 2) (zak _))))))), ?_⟩
 refine ⟨_, rfl, rfl, _, rfl, ?_⟩
 unfold za2 at q
 by_cases c : V.str wo = V.str ("dear" : Str)
 ·refine zdv c ?_
  rw [if_pos c] at q
  exact ⟨_, rfl, _, rfl, _, rfl, _, rfl, lp, ps, p, y, n, rfl, hl, by omega, q⟩
 ·refine zbn c ?_
  rw [if_neg c] at q
  refine ⟨_, rfl, _, rfl, _, rfl, _, rfl, wd, m, ts, wo, y, n, rfl, W, fun H1 s1 => ?_⟩
  cases e : zcc ts m wo y n with
  | true =>
   refine ⟨_, rfl, ?_⟩
   refine zdj rfl ?_
   refine ⟨_, rfl, _, rfl, lp, ps, y, rfl, s1 _ _ hl, by omega, by rw [lm]; exact ym e, fun H2 s2 => ?_⟩
   have q2 := q H2 (s1.trans s2)
   rw [e, Bool.true_and] at q2
   exact ⟨_, rfl, _, _, rfl, rfl, q2⟩
  | false =>
   refine ⟨_, rfl, ?_⟩
   refine zb3 rfl ?_
   have q1 := q H1 s1
   rw [e, Bool.false_and] at q1
   exact q1
end
section
variable {P : Program} {w : World} {K : PySem.W.Frag} {mg : Str → Option Value} {base : Heap} {a : Adr} {d : Fds}
theorem zj2 (T : Txt K mg a d) (LB : zfr mg base a.c_are_bounds a.t_are_bounds) (f : Nat) : FnOk P w K mg base CX0 (f + 10) a.f_are_bounds d.f_are_bounds ["wood", "prices", "price", "tree"] (spT a.t_are_bounds (zrq f)) := by
 have G_with_option := zbs (P := P) (w := w) (base := base) T
 refine T.K_are_bounds.okC sc_are_bounds (fun vs H Q E h => ?_) (fun cdv A outer s H vs Q E hcd hr h => ?_)
 ·obtain ⟨_, wd, lp, m, ts, ps, p, t, v, rfl, _⟩ := h
  rfl
 obtain ⟨tb, wd, lp, m, ts, ps, p, t, v, rfl, W, m1, m9, hlp, lm, dn, gd, dp, q⟩ := h
 have LC : ((zcj CX0 P w K mg base ["wood", "prices", "price", "tree", "root"] "are_bounds" (zag zbt) a.f_are_bounds cdv A outer s H E).nox).env.code = .ref a.c_are_bounds := hcd.symm.trans T.code_are_bounds
 have LF : ∀ y ∈ (zc0 (zfy (zso (za3 zbt)[1]?))).names, y.2 = .free → ∃ c, ((zcj CX0 P w K mg base ["wood", "prices", "price", "tree", "root"] "are_bounds" (zag zbt) a.f_are_bounds cdv A outer s H E).nox).env.cells.lookup y.1 = some c := by
  intro y hy hz
  have e : y = (("wood" : Str), NameKind.free) ∨ y = (("prices" : Str), NameKind.free) ∨ y = (("price" : Str), NameKind.free) := (by decide +kernel : ∀ y ∈ (zc0 (zfy (zso (za3 zbt)[1]?))).names, y.2 = NameKind.free → y = (("wood" : Str), NameKind.free) ∨ y = (("prices" : Str), NameKind.free) ∨ y = (("price" : Str), NameKind.free)) y hy hz
  rcases e with rfl | rfl | rfl
  ·exact ⟨_, rfl⟩
  ·exact ⟨_, rfl⟩
  ·exact ⟨_, rfl⟩
 refine ⟨_, (zaf (zat (i := 4) sc_are_bounds.nd rfl (Or.inl rfl) (zad G_with_option hr.lv rfl T.K_with_option (zaa zac (zaa zac zab))))
   (zah (zaj (zi6 (k := f + 9) hr.lv rfl T.K_is_tree.g T.K_is_tree.kp T.K_is_tree.B (fun _ => rfl) (zaa (pv 0) (zaa (pv 4) (zaa zac (zaa (pv 3) (zaa (zkx LC LB rfl LF) zab))))))))), ?_⟩
 refine ⟨0, 0, rfl, by decide, ?_⟩
 refine ⟨_, rfl, _, rfl, _, rfl, tb, fun p1 c1 H1 np s1 hp hc base' ci _ _ => ?_⟩
 have LM := zhh (fr := ["wood", "prices", "price"]) (fv := [.ref wd, .ref lp, .int p]) LF rfl ci (by decide +kernel) (by decide +kernel) rfl (fun i x v h1 h2 => by
  match i, h1, h2 with
  | 0, h1, h2 =>
   cases h1
   cases h2
   exact ⟨0, rfl, rfl, rfl⟩
  | 1, h1, h2 =>
   cases h1
   cases h2
   exact ⟨1, rfl, rfl, rfl⟩
  | 2, h1, h2 =>
   cases h1
   cases h2
   exact ⟨2, rfl, rfl, rfl⟩
  | i + 3, h1, h2 => cases h1)
 have G_leaf := zg7 (P := P) (w := w) (base := base') T
 have L := zov (P := P) (w := w) (K := K) (mg := mg) (base := base') (ps := ["word", "yes", "no"]) (k := 8) (zlh (fun H => WoodT H wd m ts ∧ H lp = some (.lst (ps.map V.int))) (fun y _ => y < 2 ^ m) (za2 m ts ps p)) hp LM ⟨rfl, rfl, rfl, by decide +kernel, by decide +kernel, by decide +kernel, by decide +kernel⟩ rfl (fun _ _ _ => rfl) (fun vs H Q E h => by obtain ⟨_, _, _, rfl, _⟩ := h; rfl)
  (fun q A outer s H vs Q E hr h => by
   obtain ⟨wo, y, n, rfl, ⟨⟨W0, hl⟩, ym⟩, q'⟩ := h
   exact ⟨_, zad G_leaf hr.lv rfl T.K_is_bound_leaf (zaa (pv 3) (zaa (pv 4) (zaa (pv 5) (zaa (pv 0) (zaa (pv 1) (zaa (pv 2) zab)))))), _, rfl, _, rfl, _, rfl, _, rfl, _, rfl, _, rfl, wd, lp, m, ts, ps, p, wo, y, n, rfl, W0, hl, lm, m9, fun _ => ym, q'⟩)
 have L' := L.imp (sp' := zlh (fun H => (WoodT H wd m ts ∧ H lp = some (.lst (ps.map V.int))) ∧ H p1 = _ ∧ H c1 = _) (fun y _ => y < 2 ^ m) (za2 m ts ps p)) (fun vs H Q E h => by
  obtain ⟨wo, y, n, rfl, ⟨⟨W0, h1, h2⟩, ym⟩, q'⟩ := h
  exact ⟨⟨wo, y, n, rfl, ⟨W0, ym⟩, q'⟩, h1, h2⟩)
 have G := zh5 (P := P) (w := w) (base := base') (m := m) (ts := ts) T L' (.all fun us hl => match us, hl with | [_, _, _], _ => rfl) zlg (fun H H' s h => ⟨⟨h.1.1.same s, s _ _ h.1.2⟩, s _ _ h.2.1, s _ _ h.2.2⟩) (fun H h => h.2.1) (fun y n k h hk => ⟨znm h (mem_open.mp hk).1, h⟩) f
 exact ⟨_, G, wd, 1, 0, t, v, rfl, W.same s1, Dn.same s1 _ _ dn, gd, dp, ⟨⟨⟨W.same s1, s1 _ _ hlp⟩, hp, hc⟩, (zfg m1).ym⟩, fun H' s2 => q H' (s1.trans s2)⟩
end
section
variable {P : Program} {w : World} {K : PySem.W.Frag} {mg : Str → Option Value} {base : Heap} {a : Adr} {d : Fds}
theorem zbi (T : Txt K mg a d) : FnOk P w K mg base CX0 1 a.f_law_take d.f_law_take ["_law_state", "_law_most_here"] (zvb K) := by
 refine T.K_law_take.ok sc_law_take (fun vs H Q E h => ?_) (fun cdv A outer s H vs Q E hr h => ?_)
 ·obtain ⟨pen, sp, ns, most, k, rfl, _⟩ := h
  rfl
 obtain ⟨pen, sp, ns, most, k, rfl, pn, k0, k1, m0, q⟩ := h
 have hp := pn.at_
 have el : (ns.map V.int).length = ns.length := List.length_map _
 have kk0 : 0 ≤ k * k := Int.mul_nonneg k0 k0
 have kk1 : k * k ≤ 1000000 * 1000000 := Int.mul_le_mul k1 k1 k0 (by decide)
 have p64 : (2 : Int) ^ 64 = 18446744073709551616 := by decide
 have item : ∀ j : Int, 0 ≤ j → j < ns.length → ∃ v : Int, atI (ns.map V.int) j = some (.int v) := fun j j0 j1 => by
  obtain ⟨m, rfl⟩ : ∃ m : Nat, j = (m : Int) := ⟨j.toNat, by omega⟩
  have hj : m < ns.length := by omega
  refine ⟨ns[m], zb9 ?_⟩
  rw [List.getElem?_map, List.getElem?_eq_getElem hj]
  rfl
 have last : ∃ t, PSs (zcj CX0 P w K mg base ["_law_state", "_law_most_here", "_law_at", "_law_script", "_law_mingled"] "_law_take" (zag zdc) a.f_law_take cdv A outer s H E).nox ((za3 zdc).drop 6) t ∧ ∀ (N : Int) (v0 v2 v3 : Option V), 0 ≤ N → N ≤ 1000000000000000 → t { nx := fun _ H' => Q .non H', rt := Q } [v0, some (.int most), v2, v3, some (.int N)] (L2.upd H pen (.lst [.ref sp, .int (k + 1)])) := by
  refine ⟨_, (zah (zaj (zau ze5 (zau ze5 (zau zdw (pv 4) (pv 4)) zac) (pv 1)))), fun N v0 v2 v3 n0 n1 => ?_⟩
  refine ⟨_, rfl, _, rfl, _, _, rfl, rfl, .inl ⟨by rw [p64]; omega, by rw [p64]; omega⟩, _, _, rfl, rfl, (by show (0 : Int) < 2147483647; decide), _, rfl, _, _, rfl, rfl, m0, ?_⟩
  exact q _ (Int.emod_nonneg _ (by omega)) (Int.emod_lt_of_pos _ m0)
 obtain ⟨t6, h6, r6⟩ := last
 refine ⟨_, (zaf (zat (i := 2) sc_law_take.nd rfl (Or.inl rfl) (zan (ixL (K := K)) (pv 0) zac (fun _ _ => rfl)))
   (zaf (zn4 (zau zbv (pv 2) zac) (zu6 (pv 0) zac zqv))
   (zaf (zat (i := 3) sc_law_take.nd rfl (Or.inl rfl) (zan (ixL (K := K)) (pv 0) zac (fun _ _ => rfl)))
   (zaf (zaz (zal zf9 (pv 2) (zaw (zdd (K := K)) rfl T.m_len PySem.boot_len (zaa (pv 3) zab)) (zak _)) (zah (zaj (zau ze5 (zan (ixL (K := K)) (pv 3) (pv 2) (fun _ _ => rfl)) (pv 1)))) zaq)
   (zaf (zat (i := 4) sc_law_take.nd rfl (Or.inl rfl) (zau zbv (zau zbv (zau zdw (pv 2) (pv 2)) (zau zdw zac (pv 2))) zac))
   (zaf (zaz (zal zg1 (zaw (zdd (K := K)) rfl T.m_len PySem.boot_len (zaa (pv 3) zab)) zac (zak _)) (zah (zat (i := 4) sc_law_take.nd rfl (Or.inl rfl) (zau zbv (pv 4) (zau zdw (zau ze5 (zan (ixL (K := K)) (pv 3) (zau ze5 (zau zbv (zau zdw zac (pv 2)) zac) (zaw (zdd (K := K)) rfl T.m_len PySem.boot_len (zaa (pv 3) zab))) (fun _ _ => rfl)) zac) zac)))) zaq)
   h6)))))), ?_⟩
 refine ⟨_, rfl, pen, _, _, _, rfl, rfl, SqL.of hp, rfl, ?_⟩
 refine ⟨_, rfl, _, _, rfl, rfl, _, rfl, pen, _, _, _, rfl, rfl, hp, rfl, ?_⟩
 have hS := pn.scr _ (zam (pen := pen) (H := H) (.lst [.ref sp, .int (k + 1)]))
 have hp1 : L2.upd H pen (.lst [.ref sp, .int (k + 1)]) pen = some (.lst [.ref sp, .int (k + 1)]) := zae
 refine ⟨_, rfl, pen, _, _, _, rfl, rfl, SqL.of hp1, rfl, ?_⟩
 refine ⟨_, rfl, _, rfl, sp, _, rfl, .inl hS, _, _, rfl, rfl, _, rfl, ?_⟩
 refine zbl (fun c => ?_) (fun c => ?_)
 ·have c' : k < ((ns.map V.int).length : Nat) := of_decide_eq_true c
  rw [el] at c'
  obtain ⟨v, hv⟩ := item k k0 c'
  exact ⟨_, rfl, _, rfl, sp, _, _, _, rfl, rfl, hS, hv, _, rfl, _, _, rfl, rfl, m0, q _ (Int.emod_nonneg _ (by omega)) (Int.emod_lt_of_pos _ m0)⟩
 refine ⟨_, rfl, _, rfl, _, _, rfl, rfl, (by unfold CMul; omega), _, rfl, _, _, rfl, rfl, .inl ⟨by decide, by decide⟩, _, _, rfl, rfl, _, _, rfl, rfl, ?_⟩
 refine ⟨_, rfl, sp, _, rfl, .inl hS, _, _, rfl, rfl, _, rfl, ?_⟩
 refine zbl (fun c2 => ?_) (fun c2 => ?_)
 ·have c2' : (0 : Int) < ((ns.map V.int).length : Nat) := of_decide_eq_true c2
  rw [el] at c2'
  have m0' : 0 ≤ (5 * k + 2) % (ns.length : Int) := Int.emod_nonneg _ (by omega)
  have m1' : (5 * k + 2) % (ns.length : Int) < ns.length := Int.emod_lt_of_pos _ c2'
  obtain ⟨v, hv⟩ := item _ m0' m1'
  have v0 : 0 ≤ v % 2147483629 := Int.emod_nonneg _ (by decide)
  have v1 : v % 2147483629 < 2147483629 := Int.emod_lt_of_pos _ (by decide)
  refine ⟨_, rfl, _, rfl, _, rfl, _, _, rfl, rfl, .inl ⟨by decide, by decide⟩, _, _, rfl, rfl, _, rfl, sp, _, rfl, .inl hS, _, _, rfl, rfl, (by rw [el]; exact c2'), sp, _, _, _, rfl, rfl, hS, (by rw [el]; exact hv), ?_⟩
  refine ⟨_, _, rfl, rfl, (by show (0 : Int) < 2147483629; decide), _, _, rfl, rfl, .inr ⟨by decide, by decide⟩, _, _, rfl, rfl, ?_⟩
  exact r6 _ _ _ _ (by omega) (by omega)
 ·exact r6 _ _ _ _ (by omega) (by omega)
end
section
variable {P : Program} {w : World} {K : PySem.W.Frag} {mg : Str → Option Value} {base : Heap} {a : Adr} {d : Fds}
theorem zlm (T : Txt K mg a d) : FnOk P w K mg base CX0 3 a.f_law_bough d.f_law_bough ["_law_state", "_law_up", "_law_kids"] (zrs K) := by
 have G_law_take := zbi (P := P) (w := w) (base := base) T
 refine T.K_law_bough.ok sc_law_bough (fun vs H Q E h => ?_) (fun cdv A outer s H vs Q E hr h => ?_)
 ·obtain ⟨pen, sp, ns, tk, u, kids, m, k, rfl, _⟩ := h
  rfl
 obtain ⟨pen, sp, ns, tk, u, kids, m, k, rfl, pn, k0, k1, hk, kl, u0, kne, ris, q⟩ := h
 have el : (kids.map V.int).length = kids.length := List.length_map _
 have kp := List.length_pos_iff.mpr kne
 have done : ∀ (lo hi k' : Int) (H1 : Hp), SameX pen H H1 → H1 pen = some (.lst [.ref sp, .int k']) → k ≤ k' → k' ≤ k + 3 → 0 ≤ lo → lo ≤ hi → 1 ≤ hi → hi ≤ kids.length → ∀ tb, H1 tb = none → Q (.ref tb) (L2.upd H1 tb (.tup [.int u, .int lo, .int hi, .ref tk])) := by
  intro lo hi k' H1 sx hp kk0 kk1 l0 l1 h1 h2 tb htb
  have s1 := zai htb (.tup [.int u, .int lo, .int hi, .ref tk])
  refine q (zsl u lo hi kids) _ k' _ (sx.trans (Same.x s1)) (s1 _ _ hp) kk0 kk1 ?_ (zuj u0 kne ris l0 l1 h1 h2) (zq4 _ _ _ _ (by omega)) (zqp _ _ _ _)
  exact ⟨tb, _, rfl, zae, _, _, rfl, rfl, _, _, rfl, rfl, _, _, rfl, rfl, _, _, rfl, ⟨tk, _, rfl, s1 _ _ (SameX.tup pn.at_ sx _ _ hk), zl0 kids⟩, rfl⟩
 refine ⟨_, (zaf (zat (i := 3) sc_law_bough.nd rfl (Or.inl rfl) (zaw (zdd (K := K)) rfl T.m_len PySem.boot_len (zaa (pv 2) zab)))
   (zaf (zat (i := 4) sc_law_bough.nd rfl (Or.inl rfl) (zad G_law_take hr.lv rfl T.K_law_take (zaa (pv 0) (zaa zac zab))))
   (zaf (zaz (zal za4 (pv 4) zac (zak _)) (zah (zaj (za8 (zaa (pv 1) (zaa zac (zaa (pv 3) (zaa (pv 2) zab))))))) zaq)
   (zaf (zaz (zal za4 (pv 4) zac (zak _)) (zah (zaj (za8 (zaa (pv 1) (zaa zac (zaa zac (zaa (pv 2) zab))))))) zaq)
   (zaf (zaz (zal za4 (pv 4) zac (zak _)) (zah (zaj (za8 (zaa (pv 1) (zaa (pv 3) (zaa (pv 3) (zaa (pv 2) zab))))))) zaq)
   (zaf (zat (i := 5) sc_law_bough.nd rfl (Or.inl rfl) (zau zbv zac (zad G_law_take hr.lv rfl T.K_law_take (zaa (pv 0) (zaa (pv 3) zab)))))
   (zah (zaj (za8 (zaa (pv 1) (zaa (zad G_law_take hr.lv rfl T.K_law_take (zaa (pv 0) (zaa (zau zbv (pv 5) zac) zab))) (zaa (pv 5) (zaa (pv 2) zab))))))))))))), ?_⟩
 refine ⟨_, rfl, tk, _, rfl, .inr (sqT hk), ?_⟩
 rw [el]
 refine ⟨_, rfl, pen, sp, ns, 5, k, rfl, pn, by omega, by omega, by decide, fun w1 w10 w11 => ?_⟩
 have sx1 := zam (pen := pen) (H := H) (.lst [.ref sp, .int (k + 1)])
 have g1 : L2.upd H pen (.lst [.ref sp, .int (k + 1)]) pen = some (.lst [.ref sp, .int (k + 1)]) := zae
 generalize L2.upd H pen (.lst [.ref sp, .int (k + 1)]) = H1 at sx1 g1 ⊢
 refine ⟨_, rfl, rfl, _, rfl, ?_⟩
 refine zbl (fun c => ?_) (fun c => ?_)
 ·refine ⟨_, rfl, _, rfl, _, rfl, small (by show 4 ≤ 1000; decide), fun tb htb => ?_⟩
  exact done 0 kids.length (k + 1) H1 sx1 g1 (by omega) (by omega) (by omega) (by omega) (by omega) (by omega) tb htb
 refine ⟨_, rfl, rfl, _, rfl, ?_⟩
 refine zbl (fun c2 => ?_) (fun c2 => ?_)
 ·refine ⟨_, rfl, _, rfl, small (by show 4 ≤ 1000; decide), fun tb htb => ?_⟩
  exact done 1 1 (k + 1) H1 sx1 g1 (by omega) (by omega) (by omega) (by omega) (by omega) (by omega) tb htb
 refine ⟨_, rfl, rfl, _, rfl, ?_⟩
 refine zbl (fun c3 => ?_) (fun c3 => ?_)
 ·refine ⟨_, rfl, _, rfl, _, rfl, _, rfl, small (by show 4 ≤ 1000; decide), fun tb htb => ?_⟩
  exact done kids.length kids.length (k + 1) H1 sx1 g1 (by omega) (by omega) (by omega) (by omega) (by omega) (by omega) tb htb
 refine ⟨_, rfl, _, rfl, pen, sp, ns, _, k + 1, rfl, pn.to sx1 g1, by omega, by omega, by omega, fun w2 w20 w21 => ?_⟩
 have sx2 := sx1.trans (zam (pen := pen) (H := H1) (.lst [.ref sp, .int (k + 1 + 1)]))
 have g2 : L2.upd H1 pen (.lst [.ref sp, .int (k + 1 + 1)]) pen = some (.lst [.ref sp, .int (k + 1 + 1)]) := zae
 generalize L2.upd H1 pen (.lst [.ref sp, .int (k + 1 + 1)]) = H2 at sx2 g2 ⊢
 refine ⟨_, _, rfl, rfl, _, rfl, _, rfl, _, rfl, _, _, rfl, rfl, pen, sp, ns, _, k + 1 + 1, rfl, pn.to sx2 g2, by omega, by omega, by omega, fun w3 w30 w31 => ?_⟩
 have sx3 := sx2.trans (zam (pen := pen) (H := H2) (.lst [.ref sp, .int (k + 1 + 1 + 1)]))
 have g3 : L2.upd H2 pen (.lst [.ref sp, .int (k + 1 + 1 + 1)]) pen = some (.lst [.ref sp, .int (k + 1 + 1 + 1)]) := zae
 generalize L2.upd H2 pen (.lst [.ref sp, .int (k + 1 + 1 + 1)]) = H3 at sx3 g3 ⊢
 refine ⟨_, rfl, _, rfl, small (by show 4 ≤ 1000; decide), fun tb htb => ?_⟩
 exact done w3 (1 + w2) (k + 1 + 1 + 1) H3 sx3 g3 (by omega) (by omega) (by omega) (by omega) (by omega) (by omega) tb htb
end
section
variable {P : Program} {w : World} {K : PySem.W.Frag} {mg : Str → Option Value} {base : Heap} {a : Adr} {d : Fds}
theorem zj4 (T : Txt K mg a d) : FnOk P w K mg base CX0 5 a.f_law_boughs d.f_law_boughs ["_law_state", "_law_many"] (zpt K) := by
 have G_law_take := zbi (P := P) (w := w) (base := base) T
 have G_law_bough := zlm (P := P) (w := w) (base := base) T
 refine T.K_law_boughs.ok sc_law_boughs (fun vs H Q E h => ?_) (fun cdv A outer s H vs Q E hr h => ?_)
 ·obtain ⟨pen, sp, ns, m, k, rfl, _⟩ := h
  rfl
 obtain ⟨pen, sp, ns, m, k, rfl, pn, k0, k1, m1, m9, q⟩ := h
 have p62 : (2 : Int) ^ 62 = 4611686018427387904 := by decide
 refine ⟨_, (zaf (zat (i := 2) sc_law_boughs.nd rfl (Or.inl rfl) (zbz zab))
   (zaf (zgk PassesOwn.never rfl (zpo rfl T.m_range (zaa zac (zaa (pv 1) zab))) (za0 (i := 3) sc_law_boughs.nd rfl (Or.inl rfl)) (zaf (zat (i := 4) sc_law_boughs.nd rfl (Or.inr rfl) (zad G_law_take hr.lv rfl T.K_law_take (zaa (pv 0) (zaa (pv 3) zab))))
   (zaf (zfl (i := 5) sc_law_boughs.nd rfl rfl rfl (sc0 := zag zcf) (XN := ["_law_state", "_law_many", "_law_groups", "_law_k", "_law_up", "_law_mates"]) (N' := ["_law_group", "_law_up"]) (n := 1) (kp := [4]) rfl (piL (K := K) (pv 2)) rfl rfl (by decide +kernel) (fun _ _ _ _ _ => (za0 (i := 0) (by show List.Nodup (["_law_group", "_law_up"] : List Str); decide +kernel) rfl (Or.inl rfl))) (fun _ _ _ _ _ => (zcx (zal za4 (zan (ixT (K := K)) (pv 0) zac (fun _ _ => rfl)) (pv 1) (zak _)))) (fun _ _ _ _ _ => (pv 0)))
   (zah (zaz (PW.pt (zgb (zal zg1 (zaw (zdd (K := K)) rfl T.m_len PySem.boot_len (zaa (pv 5) zab)) zac (zak _)) (zeu (zal zg1 (zad G_law_take hr.lv rfl T.K_law_take (zaa (pv 0) (zaa zac zab))) zac (zak _))))) (zah (zfz (zhq (K := K) PySem.F.plainAttrs_list PySem.F.slot_list_append PySem.F.type_list_append zd0 (zan (ixT (K := K)) (zan (ixL (K := K)) (pv 5) (zad G_law_take hr.lv rfl T.K_law_take (zaa (pv 0) (zaa (zaw (zdd (K := K)) rfl T.m_len PySem.boot_len (zaa (pv 5) zab)) zab))) (fun _ _ => rfl)) zac (fun _ _ => rfl)) (zaa (pv 3) zab)))) (zah (zfz (zhq (K := K) PySem.F.plainAttrs_list PySem.F.slot_list_insert PySem.F.type_list_insert zpj (pv 2) (zaa (zad G_law_take hr.lv rfl T.K_law_take (zaa (pv 0) (zaa (zau zbv (zaw (zdd (K := K)) rfl T.m_len PySem.boot_len (zaa (pv 2) zab)) zac) zab))) (zaa (za8 (zaa (pv 4) (zaa (zbz (zaa (pv 3) zab)) zab))) zab))))))))))
   (zah (zaj (zd1 (sc0 := zag zcf) (XN := ["_law_state", "_law_many", "_law_groups", "_law_k", "_law_up", "_law_mates"]) (N' := ["_law_up", "_law_kids", "_law_state"]) (n := 2) (kp := [0]) rfl (piL (K := K) (pv 2)) rfl rfl (by decide +kernel) (fun _ _ _ _ _ => (pgT (K := K) (n := 2) rfl (zb1 (za0 (i := 0) (by show List.Nodup (["_law_up", "_law_kids", "_law_state"] : List Str); decide +kernel) rfl (Or.inl rfl)) (zb1 (za0 (i := 1) (by show List.Nodup (["_law_up", "_law_kids", "_law_state"] : List Str); decide +kernel) rfl (Or.inl rfl)) zgw)))) (fun _ _ _ _ _ => zdl) (fun _ _ _ _ _ => (zad G_law_bough hr.lv rfl T.K_law_bough (zaa (pv 2) (zaa (pv 0) (zaa (zbj (zu8 (K := K)) rfl T.m_tuple PyProof.Rows.boot_tuple (zaa (pv 1) zab)) zab)))))))))), ?_⟩
 refine ⟨small (by decide), fun g hg => ?_⟩
 have ngp : pen ≠ g := zax pn.at_ hg
 refine ⟨_, rfl, _, _, rfl, ⟨by rw [p62]; omega, by rw [p62]; omega, by rw [p62]; omega, by rw [p62]; omega⟩, ?_⟩
 obtain ⟨Pv, hPv⟩ : ∃ Pv : Nat → St → Hp → Prop, ∀ i σ H2, Pv i σ H2 ↔ (∃ (v3 v4 v5 : Option V) (gs : List Grp) (kk : Int), σ = [some (.ref pen), some (.int (m : Int)), some (.ref g), v3, v4, v5] ∧ SameX pen H H2 ∧ H2 pen = some (.lst [.ref sp, .int kk]) ∧ k ≤ kk ∧ kk ≤ k + 4 * i ∧ GAt H H2 g gs ∧ GOk ((i : Int) + 1) gs) := ⟨_, fun _ _ _ => Iff.rfl⟩
 refine zki (lo := 1) (n := ((m : Int) - 1).toNat) Pv ((hPv _ _ _).mpr ⟨none, none, none, [], k, rfl, Same.x (zai hg _), (zai hg _) _ _ pn.at_, Int.le_refl _, by omega, ⟨zae, hg, (fun _ z => nomatch z), (fun _ z => nomatch z), List.nodup_nil⟩, ⟨(fun _ z => nomatch z), List.Perm.refl _⟩⟩) ?_ ?_
 ·rintro i σ H2 hi pv0
  obtain ⟨v3, v4, v5, gs, kk, rfl, sx, hp2, kk0, kk1, GA, GK⟩ := (hPv _ _ _).mp pv0
  have few := GK.few
  have i9 : (i : Int) < 9 := by omega
  have el : ∀ l : List Grp, (l.map fun x => V.ref x.t).length = l.length := fun l => List.length_map _
  have e1 : 1 + (i : Int) = (i : Int) + 1 := by omega
  have e2 : ((i + 1 : Nat) : Int) + 1 = (i : Int) + 2 := by omega
  refine ⟨_, rfl, _, rfl, pen, sp, ns, _, kk, rfl, pn.to sx hp2, by omega, by omega, by omega, fun u u0 u1 => ?_⟩
  have sx4 := sx.trans (zam (pen := pen) (H := H2) (.lst [.ref sp, .int (kk + 1)]))
  have GA4 := GA.pen (ys := [.ref sp, .int (kk + 1)]) ⟨_, pn.at_⟩ hp2
  have hp4 : L2.upd H2 pen (.lst [.ref sp, .int (kk + 1)]) pen = some (.lst [.ref sp, .int (kk + 1)]) := zae
  generalize L2.upd H2 pen (.lst [.ref sp, .int (kk + 1)]) = H4 at sx4 GA4 hp4 ⊢
  refine ⟨_, rfl, g, rfl, ⟨_, SqL.of GA4.at_⟩, ?_⟩
  refine zdp (K := K) (a := g) (xs := gs.map fun x => V.ref x.t) (fun j ys σ H5 => (∃ v, σ = [v, some (.int u)]) ∧ H5 = H4 ∧ ys = ((gs.take j).filter fun x => decide (x.up = u)).map fun x => V.ref x.t) ⟨⟨none, rfl⟩, rfl, rfl⟩ (fun j ys σ H5 hj pv => ?_) (fun j ys σ H5 hj pv => ?_) (fun j x ys σ H5 hx pv => ?_) (fun ys σ H5 pv ol hol => ?_)
  ·obtain ⟨_, _, rfl⟩ := pv
   rw [el]
   have := List.length_filter_le (fun x : Grp => decide (x.up = u)) (gs.take j)
   rw [List.length_take] at this
   exact small (by omega)
  ·rw [pv.2.1]
   exact SqL.of GA4.at_
  ·obtain ⟨⟨v, rfl⟩, rfl, rfl⟩ := pv
   rw [List.getElem?_map] at hx
   obtain ⟨y, hy, rfl⟩ := Option.map_eq_some_iff.mp hx
   have et : gs.take (j + 1) = gs.take j ++ [y] := by rw [List.take_add_one, hy, Option.toList_some]
   refine ⟨_, rfl, y.t, _, _, _, rfl, rfl, sqT (GA4.tup y (List.mem_of_getElem? hy)), at0, _, rfl, rfl, _, rfl, ?_⟩
   by_cases cc : y.up = u
   ·refine zdv (by rw [cc]) ?_
    refine ⟨_, rfl, ⟨_, rfl⟩, rfl, ?_⟩
    rw [et, List.filter_append, List.filter_cons_of_pos (by simpa using cc), List.map_append]
    rfl
   ·refine zbn (fun z => cc (by injection z)) ?_
    refine ⟨⟨_, rfl⟩, rfl, ?_⟩
    rw [et, List.filter_append, List.filter_cons_of_neg (by simpa using cc), List.filter_nil, List.append_nil]
  obtain ⟨_, rfl, rfl⟩ := pv
  have nop : ol ≠ pen := Ne.symm (zax hp4 hol)
  rw [el, List.take_length] at *
  generalize hold : gs.filter (fun x => decide (x.up = u)) = old at *
  have omem : ∀ x ∈ old, x ∈ gs := fun x hx => by rw [← hold] at hx; exact (List.mem_filter.mp hx).1
  have lox : old.length ≤ gs.length := by rw [← hold]; exact List.length_filter_le _ _
  have s6 := zai hol (.lst (old.map fun x => V.ref x.t))
  have GA7 := GA4.same s6
  have hp7 := s6 _ _ hp4
  have sx7 := sx4.trans (Same.x s6)
  have hol7 : L2.upd H5 ol (.lst (old.map fun x => V.ref x.t)) ol = some (.lst (old.map fun x => V.ref x.t)) := zae
  generalize L2.upd H5 ol (.lst (old.map fun x => V.ref x.t)) = H7 at s6 GA7 hp7 sx7 hol7 ⊢
  refine ⟨_, rfl, ol, _, rfl, .inl (SqL.of hol7), _, _, rfl, rfl, _, rfl, ?_⟩
  rw [el]
  have new : ∀ (k3 : Int) (H8 : Hp) (v5 : Option V), k ≤ k3 → k3 ≤ k + 4 * i + 4 → SameX pen H H8 → H8 pen = some (.lst [.ref sp, .int k3]) → GAt H H8 g gs → ∀ (nl nt : Addr) (j : Nat), H8 nl = none → L2.upd H8 nl (.lst [.int (1 + (i : Int))]) nt = none → j ≤ gs.length →
    Pv (i + 1) [some (.ref pen), some (.int (m : Int)), some (.ref g), some (.int (1 + (i : Int))), some (.int u), v5] (L2.upd (L2.upd (L2.upd H8 nl (.lst [.int (1 + (i : Int))])) nt (.tup [.int u, .ref nl])) g (.lst ((gs.map fun x => V.ref x.t).take j ++ V.ref nt :: (gs.map fun x => V.ref x.t).drop j))) := by
   intro k3 H8 v5 k30 k31 sx8 hp8 GA8 nl nt j hnl hnt hj
   have s9 := (zai hnl (.lst [.int (1 + (i : Int))])).trans (zai hnt (.tup [.int u, .ref nl]))
   rw [← List.map_take, ← List.map_drop]
   refine (hPv _ _ _).mpr ⟨_, _, _, gs.take j ++ ⟨nt, u, nl, [1 + (i : Int)]⟩ :: gs.drop j, k3, rfl, SameX.put (sx8.trans (Same.x s9)) hg (Ne.symm ngp) (s9 _ _ GA8.at_), ?_, k30, by push_cast; omega, ?_, ?_⟩
   ·rw [zap ngp]
    exact s9 _ _ hp8
   ·exact GAt.ins (pre := gs.take j) (post := gs.drop j) (by rw [List.take_append_drop]; exact GA8) (sx8.free ⟨_, hp8⟩ hnl) hnl hnt
   ·rw [e2, e1]
    exact GOk.ins (k := i) (by rw [List.take_append_drop]; exact GK) u0 (by omega)
  by_cases c5 : old = []
  ·refine zb3 (by rw [c5]; rfl) ?_
   refine zib ?_
   refine ⟨_, rfl, .inl ⟨rfl, _, SqL.of GA7.at_⟩, _, rfl, _, rfl, g, _, rfl, .inl (SqL.of GA7.at_), ?_⟩
   refine ⟨_, _, rfl, rfl, pen, sp, ns, _, kk + 1, rfl, pn.to sx7 hp7, by omega, by omega, (by rw [el]; omega), fun j j0 j1 => ?_⟩
   rw [el] at j1
   have sx8 := sx7.trans (zam (pen := pen) (.lst [.ref sp, .int (kk + 1 + 1)]))
   have GA8 := GA7.pen (ys := [.ref sp, .int (kk + 1 + 1)]) ⟨_, pn.at_⟩ hp7
   have hp8 : L2.upd H7 pen (.lst [.ref sp, .int (kk + 1 + 1)]) pen = some (.lst [.ref sp, .int (kk + 1 + 1)]) := zae
   generalize L2.upd H7 pen (.lst [.ref sp, .int (kk + 1 + 1)]) = H8 at sx8 GA8 hp8 ⊢
   refine ⟨_, rfl, _, rfl, small (by show 1 ≤ 1000; decide), fun nl hnl => ?_⟩
   refine ⟨small (by show 2 ≤ 1000; decide), fun nt hnt => ?_⟩
   have s9 := (zai hnl (.lst [.int (1 + (i : Int))])).trans (zai hnt (.tup [.int u, .ref nl]))
   refine ⟨g, _, _, _, rfl, rfl, s9 _ _ GA8.at_, j0, (by rw [el]; omega), (by rw [el]; exact zct (by omega)), ?_⟩
   exact new (kk + 1 + 1) H8 _ (by omega) (by omega) sx8 hp8 GA8 nl nt j.toNat hnl hnt (by omega)
  ·have lo1 : 0 < old.length := List.length_pos_iff.mpr c5
   refine zdj (decide_eq_true (show ((old.length : Nat) : Int) > 0 by omega)) ?_
   refine ⟨_, rfl, pen, sp, ns, 3, kk + 1, rfl, pn.to sx7 hp7, by omega, by omega, by decide, fun e e0 e1' => ?_⟩
   have sx8 := sx7.trans (zam (pen := pen) (.lst [.ref sp, .int (kk + 1 + 1)]))
   have GA8 := GA7.pen (ys := [.ref sp, .int (kk + 1 + 1)]) ⟨_, pn.at_⟩ hp7
   have hp8 : L2.upd H7 pen (.lst [.ref sp, .int (kk + 1 + 1)]) pen = some (.lst [.ref sp, .int (kk + 1 + 1)]) := zae
   have hol8 : L2.upd H7 pen (.lst [.ref sp, .int (kk + 1 + 1)]) ol = some (.lst (old.map fun x => V.ref x.t)) := by rw [zap nop]; exact hol7
   generalize L2.upd H7 pen (.lst [.ref sp, .int (kk + 1 + 1)]) = H8 at sx8 GA8 hp8 hol8 ⊢
   refine ⟨_, _, rfl, rfl, _, rfl, ?_⟩
   refine zbl (fun c6 => ?_) (fun c6 => ?_)
   ·refine ⟨_, rfl, _, rfl, _, rfl, ol, _, rfl, .inl (SqL.of hol8), ?_⟩
    rw [el]
    refine ⟨pen, sp, ns, _, kk + 1 + 1, rfl, pn.to sx8 hp8, by omega, by omega, by omega, fun jj j0 j1 => ?_⟩
    obtain ⟨jn, rfl⟩ : ∃ jn : Nat, jj = (jn : Int) := ⟨jj.toNat, by omega⟩
    have sx9 := sx8.trans (zam (pen := pen) (.lst [.ref sp, .int (kk + 1 + 1 + 1)]))
    have GA9 := GA8.pen (ys := [.ref sp, .int (kk + 1 + 1 + 1)]) ⟨_, pn.at_⟩ hp8
    have hp9 : L2.upd H8 pen (.lst [.ref sp, .int (kk + 1 + 1 + 1)]) pen = some (.lst [.ref sp, .int (kk + 1 + 1 + 1)]) := zae
    have hol9 : L2.upd H8 pen (.lst [.ref sp, .int (kk + 1 + 1 + 1)]) ol = some (.lst (old.map fun x => V.ref x.t)) := by rw [zap nop]; exact hol8
    generalize L2.upd H8 pen (.lst [.ref sp, .int (kk + 1 + 1 + 1)]) = H9 at sx9 GA9 hp9 hol9 ⊢
    obtain ⟨x, hxo⟩ : ∃ x, old[jn]? = some x := ⟨_, List.getElem?_eq_getElem (by omega)⟩
    have hx := omem x (List.mem_of_getElem? hxo)
    obtain ⟨pre, post, egs⟩ := List.append_of_mem hx
    have ty := GA9.tup x hx
    have ly := GA9.lst x hx
    refine ⟨ol, _, _, .ref x.t, rfl, rfl, SqL.of hol9, zb9 (by rw [List.getElem?_map, hxo]; rfl), x.t, _, _, _, rfl, rfl, sqT ty, at1, .inl ⟨rfl, _, SqL.of ly.1⟩, _, rfl, x.l, _, _, rfl, rfl, ly.1, ?_, ?_⟩
    ·have h1 := GK.perm.length_eq
     rw [List.length_map, List.length_range', egs, List.flatMap_append, List.flatMap_cons, List.length_append, List.length_append] at h1
     rw [List.length_map]
     exact zct (by omega)
    have G9 : GAt H _ g _ := GAt.put (k := 1 + (i : Int)) (pre := pre) (post := post) (x := x) (by rw [← egs]; exact GA9)
    refine (hPv _ _ _).mpr ⟨_, _, _, _, kk + 1 + 1 + 1, rfl, SameX.put sx9 ly.2.1 (fun z => by have := pn.at_; rw [← z, ly.2.1] at this; cases this) ly.1, ?_, by omega, by push_cast; omega, G9, ?_⟩
    ·rw [zap (fun z => by have := pn.at_; rw [z, ly.2.1] at this; cases this)]
     exact hp9
    ·rw [e2, e1]
     exact GOk.put (k := i) (by rw [← egs]; exact GK)
   ·refine ⟨_, rfl, .inl ⟨rfl, _, SqL.of GA8.at_⟩, _, rfl, _, rfl, g, _, rfl, .inl (SqL.of GA8.at_), ?_⟩
    refine ⟨_, _, rfl, rfl, pen, sp, ns, _, kk + 1 + 1, rfl, pn.to sx8 hp8, by omega, by omega, (by rw [el]; omega), fun j j0 j1 => ?_⟩
    rw [el] at j1
    have sx9 := sx8.trans (zam (pen := pen) (.lst [.ref sp, .int (kk + 1 + 1 + 1)]))
    have GA9 := GA8.pen (ys := [.ref sp, .int (kk + 1 + 1 + 1)]) ⟨_, pn.at_⟩ hp8
    have hp9 : L2.upd H8 pen (.lst [.ref sp, .int (kk + 1 + 1 + 1)]) pen = some (.lst [.ref sp, .int (kk + 1 + 1 + 1)]) := zae
    generalize L2.upd H8 pen (.lst [.ref sp, .int (kk + 1 + 1 + 1)]) = H9 at sx9 GA9 hp9 ⊢
    refine ⟨_, rfl, _, rfl, small (by show 1 ≤ 1000; decide), fun nl hnl => ?_⟩
    refine ⟨small (by show 2 ≤ 1000; decide), fun nt hnt => ?_⟩
    have s10 := (zai hnl (.lst [.int (1 + (i : Int))])).trans (zai hnt (.tup [.int u, .ref nl]))
    refine ⟨g, _, _, _, rfl, rfl, s10 _ _ GA9.at_, j0, (by rw [el]; omega), (by rw [el]; exact zct (by omega)), ?_⟩
    exact new (kk + 1 + 1 + 1) H9 _ (by omega) (by omega) sx9 hp9 GA9 nl nt j.toNat hnl hnt (by omega)
 ·rintro σ H2 pv0
  obtain ⟨v3, v4, v5, gs, kk, rfl, sx, hp2, kk0, kk1, GA, GK⟩ := (hPv _ _ _).mp pv0
  have em : (((m : Int) - 1).toNat : Int) + 1 = (m : Int) := by omega
  rw [em] at GK
  have few := GK.few
  have el : (gs.map fun x => V.ref x.t).length = gs.length := List.length_map _
  refine ⟨_, rfl, g, rfl, ⟨_, SqL.of GA.at_⟩, ?_⟩
  refine zdp (K := K) (a := g) (xs := gs.map fun x => V.ref x.t) (fun j ys σ H3 => (∃ v v', σ = [v, v', some (.ref pen)]) ∧ SameX pen H2 H3 ∧ ∃ (kc : Int) (bs : List PyData), H3 pen = some (.lst [.ref sp, .int kc]) ∧ kk ≤ kc ∧ kc ≤ kk + 3 * j ∧ DnL H3 bs ys ∧ bs.length = j ∧ (∀ b ∈ bs, zeq m b = true) ∧ bs.flatMap zlc = (gs.take j).flatMap (·.kids) ∧ bs.all (zbe 3) = true) ⟨⟨none, none, rfl⟩, SameX.refl _ _, kk, [], hp2, Int.le_refl _, by omega, rfl, rfl, (fun _ z => nomatch z), rfl, rfl⟩ (fun j ys σ H3 hj pv => ?_) (fun j ys σ H3 hj pv => ?_) (fun j y ys σ H3 hy pv => ?_) (fun ys σ H3 pv l1 hl1 => ?_)
  ·obtain ⟨_, _, kc, bs, _, _, _, dn, ln, _⟩ := pv
   rw [← dn.length, ln]
   exact small (by rw [el] at hj; omega)
  ·exact SqL.of (pv.2.1 _ _ (Ne.symm ngp) GA.at_)
  ·obtain ⟨⟨v, v', rfl⟩, sx3, kc, bs, hp3, kc0, kc1, dn, ln, okb, ki, fl⟩ := pv
   rw [List.getElem?_map] at hy
   obtain ⟨x, hx', rfl⟩ := Option.map_eq_some_iff.mp hy
   have hm := List.mem_of_getElem? hx'
   have hj : j < gs.length := (List.getElem?_eq_some_iff.mp hx').1
   have lx := GA.lst x hm
   have nlp : x.l ≠ pen := fun z => by have := pn.at_; rw [← z, lx.2.1] at this; cases this
   have hxl := sx3 _ _ nlp lx.1
   have gx := GK.each x hm
   have kl : x.kids.length ≤ 9 := by
    have pk := GK.perm.length_eq
    rw [List.length_map, List.length_range'] at pk
    obtain ⟨l1, l2, e⟩ := List.append_of_mem hm
    rw [e, List.flatMap_append, List.flatMap_cons, List.length_append, List.length_append] at pk
    omega
   refine ⟨x.t, _, rfl, sqT ((SameX.tup hp2 sx3) _ _ (GA.tup x hm)), rfl, _, _, rfl, _, _, rfl, rfl, ?_⟩
   refine ⟨_, rfl, _, rfl, _, rfl, x.l, _, rfl, .inl ⟨SqL.of hxl, fun tk htk => ?_⟩⟩
   have s4 := zai htk (.tup (x.kids.map V.int))
   have g4 : L2.upd H3 tk (.tup (x.kids.map V.int)) tk = some (.tup (x.kids.map V.int)) := zae
   have dn4 := DnL.same s4 _ _ dn
   generalize L2.upd H3 tk (.tup (x.kids.map V.int)) = H4 at s4 g4 dn4 ⊢
   have sx4 := sx3.trans (Same.x s4)
   refine ⟨pen, sp, ns, tk, x.up, x.kids, (m : Int), kc, rfl, pn.to (sx.trans sx4) (s4 _ _ hp3), by omega, by omega, g4, kl, gx.1, gx.2.1, gx.2.2, fun d v k' H5 sx5 hp5 k50 k51 dv okd fd kd => ?_⟩
   refine ⟨⟨_, _, rfl⟩, sx4.trans sx5, k', bs ++ [d], hp5, by omega, by push_cast; omega, (DnL.tupS (SameX.tup (s4 _ _ hp3) sx5) fl dn4).append ⟨v, [], rfl, dv, rfl⟩, by rw [List.length_append, List.length_singleton, ln], fun b hb => ?_, ?_, ?_⟩
   ·rcases List.mem_append.mp hb with z | z
    ·exact okb b z
    ·rw [List.mem_singleton.mp z]
     exact okd
   ·rw [List.flatMap_append, ki, zlp hx']
    simp [kd]
   ·rw [List.all_append, fl]
    simp [fd]
  ·obtain ⟨_, sx3, kc, bs, hp3, kc0, kc1, dn, ln, okb, ki, fl⟩ := pv
   rw [el] at ln kc1 ki
   rw [List.take_length] at ki
   have s4 := zai hl1 (.lst ys)
   exact q l1 bs ys kc _ ((sx.trans sx3).trans (Same.x s4)) (s4 _ _ hp3) (by omega) (by omega) zae ((sx.trans sx3).free ⟨_, hp3⟩ hl1) (DnL.same s4 _ _ dn) ⟨okb, by rw [ki]; exact GK.perm⟩ (by omega) fl
end
section
variable {P : Program} {w : World} {K : PySem.W.Frag} {mg : Str → Option Value} {base : Heap} {a : Adr} {d : Fds}
theorem zmp (T : Txt K mg a d) : FnOk P w K mg base CX0 2 a.f_law_most d.f_law_most ["_law_state", "_law_many"] (zms K) := by
 have G_law_take := zbi (P := P) (w := w) (base := base) T
 refine T.K_law_most.ok sc_law_most (fun vs H Q E h => ?_) (fun cdv A outer s H vs Q E hr h => ?_)
 ·obtain ⟨pen, sp, ns, m, k, rfl, _⟩ := h
  rfl
 obtain ⟨pen, sp, ns, m, k, rfl, pn, k0, k1, m1, m9, q⟩ := h
 have p62 : (2 : Int) ^ 62 = 4611686018427387904 := by decide
 have p64 : (2 : Int) ^ 64 = 18446744073709551616 := by decide
 obtain ⟨ct4, ch4, cu4⟩ := zpw (X := (zcj CX0 P w K mg base ["_law_state", "_law_many", "_law_far", "_law_pairs", "_law_k"] "_law_most" (zag zda) a.f_law_most cdv A outer s H E).nox) (st := (za3 zda).drop 4) (zah (zaj (za8 (zaa zay (zaa (zau zdw (pv 2) (zau zbw (zad G_law_take hr.lv rfl T.K_law_take (zaa (pv 0) (zaa zac zab))) zac)) (zaa (zbj zcw rfl T.m_tuple PyProof.Rows.boot_tuple (zaa (pv 3) zab)) zab))))))
 refine ⟨_, (zaf (zat (i := 2) sc_law_most.nd rfl (Or.inl rfl) (zan (ixL (K := K)) (zbz (zaa zac (zaa (zau zr2 zac zac) zab))) (zbj zhn rfl T.m_int PyProof.Rows.boot_int (zaa (zbf za4 (zad G_law_take hr.lv rfl T.K_law_take (zaa (pv 0) (zaa zac zab))) zac (zak _)) zab)) (fun _ _ => rfl)))
   (zaf (zat (i := 3) sc_law_most.nd rfl (Or.inl rfl) (zbz zab))
   (zaf (zgk PassesOwn.never rfl (zbr rfl T.m_range (zaa (pv 1) zab)) (za0 (i := 4) sc_law_most.nd rfl (Or.inl rfl)) (zah (zaz (zal za4 (zad G_law_take hr.lv rfl T.K_law_take (zaa (pv 0) (zaa zac zab))) zac (zak _)) (zah (zfz (zhq (K := K) PySem.F.plainAttrs_list PySem.F.slot_list_append PySem.F.type_list_append zd0 (pv 3) (zaa (za8 (zaa (pv 4) (zaa (zau zdw (pv 2) (zau zbw (zad G_law_take hr.lv rfl T.K_law_take (zaa (pv 0) (zaa zac zab))) zac)) zab))) zab)))) zaq)))
   (zaf (zaz (zal za4 (zaw (zdd (K := K)) rfl T.m_len PySem.boot_len (zaa (pv 3) zab)) zac (zak _)) (zah (zfz (zhq (K := K) PySem.F.plainAttrs_list PySem.F.slot_list_append PySem.F.type_list_append zd0 (pv 3) (zaa (za8 (zaa (zad G_law_take hr.lv rfl T.K_law_take (zaa (pv 0) (zaa (pv 1) zab))) (zaa (zau zdw (pv 2) (zau zbw (zad G_law_take hr.lv rfl T.K_law_take (zaa (pv 0) (zaa zac zab))) zac)) zab))) zab)))) zaq)
   ch4)))), ?_⟩
 refine ⟨_, _, rfl, rfl, ⟨by decide, by decide, by decide⟩, small (by show 2 ≤ 1000; decide), fun fl hfl => ?_⟩
 have sf := zai hfl (.lst [.int 1, .int (10 ^ (58 : Int).toNat)])
 have gf : L2.upd H fl (.lst [.int 1, .int (10 ^ (58 : Int).toNat)]) fl = some (.lst [.int 1, .int (10 ^ (58 : Int).toNat)]) := zae
 have pn1 := pn.same sf
 have x1 := Same.x (pen := pen) sf
 have nfp : fl ≠ pen := fun z => by rw [z, pn.at_] at hfl; cases hfl
 generalize L2.upd H fl (.lst [.int 1, .int (10 ^ (58 : Int).toNat)]) = H1 at sf gf pn1 x1 ⊢
 refine ⟨_, rfl, pen, sp, ns, 6, k, rfl, pn1, by omega, by omega, by decide, fun w1 w10 w11 => ?_⟩
 have x2 := x1.trans (zam (pen := pen) (H := H1) (.lst [.ref sp, .int (k + 1)]))
 have g2 : L2.upd H1 pen (.lst [.ref sp, .int (k + 1)]) pen = some (.lst [.ref sp, .int (k + 1)]) := zae
 have g2f : L2.upd H1 pen (.lst [.ref sp, .int (k + 1)]) fl = some (.lst [.int 1, .int (10 ^ (58 : Int).toNat)]) := by rw [zap nfp]; exact gf
 generalize L2.upd H1 pen (.lst [.ref sp, .int (k + 1)]) = H2 at x2 g2 g2f ⊢
 refine ⟨rfl, .inr ⟨_, rfl, ?_⟩⟩
 obtain ⟨far, hat⟩ : ∃ far : Int, atI [V.int 1, V.int (10 ^ (58 : Int).toNat)] (if decide (V.int w1 = V.int 0) = true then 1 else 0) = some (.int far) := by
  split
  ·exact ⟨_, rfl⟩
  ·exact ⟨_, rfl⟩
 refine ⟨fl, _, _, _, rfl, rfl, SqL.of g2f, hat, ?_⟩
 refine ⟨small (by show 0 ≤ 1000; decide), fun pl hpl => ?_⟩
 have s3 := zai hpl (.lst [])
 have g3 : L2.upd H2 pl (.lst []) pl = some (.lst []) := zae
 have g3p := s3 _ _ g2
 have npp : pl ≠ pen := fun z => by rw [z, g2] at hpl; cases hpl
 have npH : H pl = none := x2.free ⟨_, g2⟩ hpl
 generalize L2.upd H2 pl (.lst []) = H3 at s3 g3 g3p ⊢
 have x3 := x2.trans (Same.x (pen := pen) s3)
 have tail : ∀ (v4 : Option V) (kc : Int) (ps : List PyData) (xs : List V) (H4 : Hp), SameX pen H H4 → H4 pen = some (.lst [.ref sp, .int kc]) → k ≤ kc → kc ≤ k + 25 → H4 pl = some (.lst xs) → PairsTo H4 m ps xs → 0 < ps.length → ct4 { nx := fun _ H' => Q .non H', rt := Q } [some (.ref pen), some (.int (m : Int)), some (.int far), some (.ref pl), v4] H4 := by
  intro v4 kc ps xs H4 x4 hp4 kc0 kc1 hl4 pt p0
  refine cu4 _ _ _ ?_
  refine ⟨_, rfl, _, rfl, pen, sp, ns, 24, kc, rfl, pn.to x4 hp4, by omega, by omega, by decide, fun y y0 y1 => ?_⟩
  have x5' := zam (pen := pen) (H := H4) (.lst [.ref sp, .int (kc + 1)])
  have x5 := x4.trans x5'
  have g5 : L2.upd H4 pen (.lst [.ref sp, .int (kc + 1)]) pen = some (.lst [.ref sp, .int (kc + 1)]) := zae
  have g5l : L2.upd H4 pen (.lst [.ref sp, .int (kc + 1)]) pl = some (.lst xs) := by rw [zap npp]; exact hl4
  have pt5 := pt.tupS (SameX.tup hp4 x5')
  generalize L2.upd H4 pen (.lst [.ref sp, .int (kc + 1)]) = H5 at x5 g5 g5l pt5 x5' ⊢
  refine ⟨_, _, rfl, rfl, _, _, rfl, rfl, .inr ⟨by rw [p64]; omega, by rw [p64]; omega⟩, _, rfl, pl, _, rfl, .inl ⟨SqL.of g5l, fun tk htk => ?_⟩⟩
  refine ⟨small (by show 3 ≤ 1000; decide), fun tt htt => ?_⟩
  have sa := zai htk (.tup xs)
  have sb := zai htt (.tup [.str ("most" : Str), .int (far * (y - 4)), .ref tk])
  have sab := sa.trans sb
  have fw := pt.few
  exact q (.tuple [.str ("most" : Str), .int (far * (y - 4)), .tuple ps]) _ (kc + 1) _ (x5.trans (Same.x sab)) (sab _ _ g5) (by omega) (by omega) ⟨tt, _, rfl, zae, _, _, rfl, rfl, _, _, rfl, rfl, _, _, rfl, ⟨tk, _, rfl, sb _ _ zae, DnL.same sab _ _ pt5.dn⟩, rfl⟩ (zqo pt.ok pt.ris p0) (zpn (m := m) pt.flat (by omega))
 refine ⟨_, rfl, _, rfl, by rw [p62]; omega, by rw [p62]; omega, ?_⟩
 rw [Int.toNat_natCast]
 refine zet (n := m) (fun i σ H4 => ∃ (v4 : Option V) (kc : Int) (ps : List PyData) (xs : List V), σ = [some (.ref pen), some (.int (m : Int)), some (.int far), some (.ref pl), v4] ∧ SameX pen H H4 ∧ H4 pen = some (.lst [.ref sp, .int kc]) ∧ k ≤ kc ∧ kc ≤ k + 1 + 2 * i ∧ H4 pl = some (.lst xs) ∧ PairsTo H4 i ps xs) ⟨none, k + 1, [], [], rfl, x3, g3p, by omega, by omega, g3, ⟨rfl, rfl, rfl, rfl, Nat.le_refl _⟩⟩ ?_ ?_
 ·rintro i σ H4 hi ⟨v4, kc, ps, xs, rfl, x4, hp4, kc0, kc1, hl4, pt⟩
  refine ⟨_, rfl, pen, sp, ns, 2, kc, rfl, pn.to x4 hp4, by omega, by omega, by decide, fun y y0 y1 => ?_⟩
  have x5' := zam (pen := pen) (H := H4) (.lst [.ref sp, .int (kc + 1)])
  have x5 := x4.trans x5'
  have g5 : L2.upd H4 pen (.lst [.ref sp, .int (kc + 1)]) pen = some (.lst [.ref sp, .int (kc + 1)]) := zae
  have g5l : L2.upd H4 pen (.lst [.ref sp, .int (kc + 1)]) pl = some (.lst xs) := by rw [zap npp]; exact hl4
  have pt5 := pt.tupS (SameX.tup hp4 x5')
  generalize L2.upd H4 pen (.lst [.ref sp, .int (kc + 1)]) = H5 at x5 g5 g5l pt5 x5' ⊢
  refine ⟨rfl, _, rfl, ?_⟩
  refine zbl (fun _ => ?_) (fun _ => ?_)
  ·refine ⟨_, rfl, .inl ⟨rfl, _, SqL.of g5l⟩, _, rfl, _, rfl, _, rfl, pen, sp, ns, 12, kc + 1, rfl, pn.to x5 g5, by omega, by omega, by decide, fun z z0 z1 => ?_⟩
   have x6' := zam (pen := pen) (H := H5) (.lst [.ref sp, .int (kc + 1 + 1)])
   have x6 := x5.trans x6'
   have g6 : L2.upd H5 pen (.lst [.ref sp, .int (kc + 1 + 1)]) pen = some (.lst [.ref sp, .int (kc + 1 + 1)]) := zae
   have g6l : L2.upd H5 pen (.lst [.ref sp, .int (kc + 1 + 1)]) pl = some (.lst xs) := by rw [zap npp]; exact g5l
   have pt6 := pt5.tupS (SameX.tup g5 x6')
   generalize L2.upd H5 pen (.lst [.ref sp, .int (kc + 1 + 1)]) = H6 at x6 g6 g6l pt6 x6' ⊢
   refine ⟨_, _, rfl, rfl, _, _, rfl, rfl, .inr ⟨by rw [p64]; omega, by rw [p64]; omega⟩, small (by show 2 ≤ 1000; decide), fun tp htp => ?_⟩
   have s7 := zai htp (.tup [.int (i : Int), .int (far * (z - 3))])
   have g7 : L2.upd H6 tp (.tup [.int (i : Int), .int (far * (z - 3))]) tp = some (.tup [.int (i : Int), .int (far * (z - 3))]) := zae
   have g7l := s7 _ _ g6l
   have pt7 := (pt6.tupS (Same.tup s7)).snoc g7
   have g7p := s7 _ _ g6
   have x7 := x6.trans (Same.x (pen := pen) s7)
   generalize L2.upd H6 tp (.tup [.int (i : Int), .int (far * (z - 3))]) = H7 at s7 g7l pt7 g7p x7 g7 ⊢
   have lx := pt.dn.length
   have fw := pt.few
   refine ⟨pl, _, _, rfl, rfl, g7l, zct (by omega), ?_⟩
   have tp8 := zlw (o' := .lst (xs ++ [.ref tp])) g7l (fun _ z => nomatch z)
   refine ⟨_, kc + 1 + 1, _, _, rfl, SameX.put x7 npH npp g7l, ?_, by omega, by push_cast; omega, zae, pt7.tupS tp8⟩
   rw [zap (Ne.symm npp)]
   exact g7p
  ·exact ⟨_, kc + 1, ps, xs, rfl, x5, g5, by omega, by push_cast; omega, g5l, pt5.up⟩
 ·rintro σ H4 ⟨v4, kc, ps, xs, rfl, x4, hp4, kc0, kc1, hl4, pt⟩
  have lx := pt.dn.length
  refine ⟨_, rfl, pl, _, rfl, .inl (SqL.of hl4), rfl, _, rfl, ?_⟩
  by_cases e : xs = []
  ·refine zdv (by rw [e]; rfl) ?_
   have hl4' : H4 pl = some (.lst []) := by rw [hl4, e]
   refine ⟨_, rfl, .inl ⟨rfl, _, SqL.of hl4⟩, _, rfl, _, rfl, pen, sp, ns, (m : Int), kc, rfl, pn.to x4 hp4, by omega, by omega, by omega, fun y y0 y1 => ?_⟩
   have x5' := zam (pen := pen) (H := H4) (.lst [.ref sp, .int (kc + 1)])
   have x5 := x4.trans x5'
   have g5 : L2.upd H4 pen (.lst [.ref sp, .int (kc + 1)]) pen = some (.lst [.ref sp, .int (kc + 1)]) := zae
   have g5l : L2.upd H4 pen (.lst [.ref sp, .int (kc + 1)]) pl = some (.lst []) := by rw [zap npp]; exact hl4'
   generalize L2.upd H4 pen (.lst [.ref sp, .int (kc + 1)]) = H5 at x5 g5 g5l x5' ⊢
   refine ⟨_, rfl, _, rfl, pen, sp, ns, 12, kc + 1, rfl, pn.to x5 g5, by omega, by omega, by decide, fun z z0 z1 => ?_⟩
   have x6' := zam (pen := pen) (H := H5) (.lst [.ref sp, .int (kc + 1 + 1)])
   have x6 := x5.trans x6'
   have g6 : L2.upd H5 pen (.lst [.ref sp, .int (kc + 1 + 1)]) pen = some (.lst [.ref sp, .int (kc + 1 + 1)]) := zae
   have g6l : L2.upd H5 pen (.lst [.ref sp, .int (kc + 1 + 1)]) pl = some (.lst []) := by rw [zap npp]; exact g5l
   generalize L2.upd H5 pen (.lst [.ref sp, .int (kc + 1 + 1)]) = H6 at x6 g6 g6l x6' ⊢
   refine ⟨_, _, rfl, rfl, _, _, rfl, rfl, .inr ⟨by rw [p64]; omega, by rw [p64]; omega⟩, small (by show 2 ≤ 1000; decide), fun tp htp => ?_⟩
   have s7 := zai htp (.tup [.int y, .int (far * (z - 3))])
   have g7 : L2.upd H6 tp (.tup [.int y, .int (far * (z - 3))]) tp = some (.tup [.int y, .int (far * (z - 3))]) := zae
   have g7l := s7 _ _ g6l
   have g7p := s7 _ _ g6
   have x7 := x6.trans (Same.x (pen := pen) s7)
   generalize L2.upd H6 tp (.tup [.int y, .int (far * (z - 3))]) = H7 at s7 g7l g7p x7 g7 ⊢
   refine ⟨pl, _, _, rfl, rfl, g7l, zct (by decide), ?_⟩
   have tp8 := zlw (o' := .lst ([] ++ [.ref tp])) g7l (fun _ z => nomatch z)
   refine tail _ (kc + 1 + 1) [.tuple [.int y, .int (far * (z - 3))]] [.ref tp] _ (SameX.put x7 npH npp g7l) ?_ (by omega) (by omega) zae (zpx y0 y1 (tp8 _ _ g7)) (by show 0 < 1; decide)
   rw [zap (Ne.symm npp)]
   exact g7p
  ·refine zbn (fun z => ?_) ?_
   ·injection z with z
    exact e (List.length_eq_zero_iff.mp (by omega))
   have lpos := List.length_pos_iff.mpr e
   exact tail _ kc ps xs H4 x4 hp4 (by omega) (by omega) hl4 pt (by omega)
end
section
variable {P : Program} {w : World} {K : PySem.W.Frag} {mg : Str → Option Value} {base : Heap} {a : Adr} {d : Fds}
theorem zlo (T : Txt K mg a d) : FnOk P w K mg base CX0 3 a.f_law_cross d.f_law_cross ["_law_state", "_law_many"] (zrm K) := by
 have G_law_take := zbi (P := P) (w := w) (base := base) T
 have G_law_most := zmp (P := P) (w := w) (base := base) T
 refine T.K_law_cross.ok sc_law_cross (fun vs H Q E h => ?_) (fun cdv A outer s H vs Q E hr h => ?_)
 ·obtain ⟨pen, sp, ns, m, k, rfl, _⟩ := h
  rfl
 obtain ⟨pen, sp, ns, m, k, rfl, pn, k0, k1, m1, m9, q⟩ := h
 refine ⟨_, (zaf (zaz (PW.pt (zhx (zal za4 (pv 1) zac (zak _)) (zhg (zal za4 (zad G_law_take hr.lv rfl T.K_law_take (zaa (pv 0) (zaa zac zab))) zac (zak _))))) (zah (zaj (zad G_law_most hr.lv rfl T.K_law_most (zaa (pv 0) (zaa (pv 1) zab))))) zaq)
   (zaf (zat (i := 2) sc_law_cross.nd rfl (Or.inl rfl) (zad G_law_take hr.lv rfl T.K_law_take (zaa (pv 0) (zaa (pv 1) zab))))
   (zaf (zat (i := 3) sc_law_cross.nd rfl (Or.inl rfl) (zau ze5 (zau zbv (zau zbv (pv 2) zac) (zad G_law_take hr.lv rfl T.K_law_take (zaa (pv 0) (zaa (zau zbw (pv 1) zac) zab)))) (pv 1)))
   (zah (zaj (za8 (zaa (zan (ixL (K := K)) (zbz (zaa zay (zaa zay zab))) (zad G_law_take hr.lv rfl T.K_law_take (zaa (pv 0) (zaa zac zab))) (fun _ _ => rfl)) (zaa (pv 2) (zaa (pv 3) zab))))))))), ?_⟩
 have most : ∀ (kc : Int) (H1 : Hp), SameX pen H H1 → H1 pen = some (.lst [.ref sp, .int kc]) → k ≤ kc → kc ≤ k + 1 → zr0 (zms K) [] E0 (zou (zo4 0) (zou (zo4 1) zu2)) [some (.ref pen), some (.int (m : Int)), none, none] H1 Q := by
  intro kc H1 x1 hp1 kc0 kc1
  exact ⟨_, rfl, _, rfl, pen, sp, ns, m, kc, rfl, pn.to x1 hp1, by omega, by omega, m1, m9, fun c v k' H' x' hp' k'0 k'1 dv ti fd => q c v k' H' (x1.trans x') hp' (by omega) (by omega) dv ti fd⟩
 refine ⟨_, rfl, rfl, _, rfl, ?_⟩
 by_cases e : m = 1
 ·refine zdv (by rw [e]; rfl) ?_
  exact most k H (SameX.refl _ _) pn.at_ (by omega) (by omega)
 ·refine zbn (fun z => ?_) ?_
  ·injection z with z
   omega
  refine ⟨_, rfl, pen, sp, ns, 3, k, rfl, pn, by omega, by omega, by decide, fun y y0 y1 => ?_⟩
  have x1 := zam (pen := pen) (H := H) (.lst [.ref sp, .int (k + 1)])
  have g1 : L2.upd H pen (.lst [.ref sp, .int (k + 1)]) pen = some (.lst [.ref sp, .int (k + 1)]) := zae
  generalize L2.upd H pen (.lst [.ref sp, .int (k + 1)]) = H1 at x1 g1 ⊢
  refine ⟨rfl, _, rfl, ?_⟩
  refine zbl (fun _ => ?_) (fun _ => ?_)
  ·exact most (k + 1) H1 x1 g1 (by omega) (by omega)
  refine ⟨_, rfl, _, rfl, pen, sp, ns, (m : Int), k + 1, rfl, pn.to x1 g1, by omega, by omega, by omega, fun one o0 o1 => ?_⟩
  have x2 := x1.trans (zam (pen := pen) (H := H1) (.lst [.ref sp, .int (k + 1 + 1)]))
  have g2 : L2.upd H1 pen (.lst [.ref sp, .int (k + 1 + 1)]) pen = some (.lst [.ref sp, .int (k + 1 + 1)]) := zae
  generalize L2.upd H1 pen (.lst [.ref sp, .int (k + 1 + 1)]) = H2 at x2 g2 ⊢
  refine ⟨_, rfl, _, _, rfl, rfl, _, rfl, _, rfl, _, _, rfl, rfl, pen, sp, ns, (m : Int) - 1, k + 1 + 1, rfl, pn.to x2 g2, by omega, by omega, by omega, fun x x0 x1' => ?_⟩
  have x3 := x2.trans (zam (pen := pen) (H := H2) (.lst [.ref sp, .int (k + 1 + 1 + 1)]))
  have g3 : L2.upd H2 pen (.lst [.ref sp, .int (k + 1 + 1 + 1)]) pen = some (.lst [.ref sp, .int (k + 1 + 1 + 1)]) := zae
  generalize L2.upd H2 pen (.lst [.ref sp, .int (k + 1 + 1 + 1)]) = H3 at x3 g3 ⊢
  refine ⟨_, _, rfl, rfl, _, rfl, _, _, rfl, rfl, (by show (0 : Int) < m; omega), ?_⟩
  refine ⟨small (by show 2 ≤ 1000; decide), fun lp hlp => ?_⟩
  have s4 := zai hlp (.lst [.str ("needs" : Str), .str ("bans" : Str)])
  have g4 : L2.upd H3 lp (.lst [.str ("needs" : Str), .str ("bans" : Str)]) lp = some (.lst [.str ("needs" : Str), .str ("bans" : Str)]) := zae
  have g4p := s4 _ _ g3
  have nlp : lp ≠ pen := fun z => by rw [z, g3] at hlp; cases hlp
  have x4 := x3.trans (Same.x (pen := pen) s4)
  generalize L2.upd H3 lp (.lst [.str ("needs" : Str), .str ("bans" : Str)]) = H4 at s4 g4 g4p x4 ⊢
  refine ⟨_, rfl, pen, sp, ns, 2, k + 1 + 1 + 1, rfl, pn.to x4 g4p, by omega, by omega, by decide, fun way w0 w1 => ?_⟩
  have x5 := x4.trans (zam (pen := pen) (H := H4) (.lst [.ref sp, .int (k + 1 + 1 + 1 + 1)]))
  have g5 : L2.upd H4 pen (.lst [.ref sp, .int (k + 1 + 1 + 1 + 1)]) pen = some (.lst [.ref sp, .int (k + 1 + 1 + 1 + 1)]) := zae
  have g5l : L2.upd H4 pen (.lst [.ref sp, .int (k + 1 + 1 + 1 + 1)]) lp = some (.lst [.str ("needs" : Str), .str ("bans" : Str)]) := by rw [zap nlp]; exact g4
  generalize L2.upd H4 pen (.lst [.ref sp, .int (k + 1 + 1 + 1 + 1)]) = H5 at x5 g5 g5l ⊢
  obtain ⟨sN, sk, snm, sok, hat⟩ : ∃ sN : Str, (sN = ("needs" : Str) ∨ sN = ("bans" : Str)) ∧ ¬ sN = ("most" : Str) ∧ PyData.strOk sN = true ∧ atI ([.str ("needs" : Str), .str ("bans" : Str)] : List V) way = some (.str sN) := by
   have e : way = 0 ∨ way = 1 := by omega
   rcases e with e | e <;> rw [e]
   ·exact ⟨_, .inl rfl, by decide +kernel, zm3, rfl⟩
   ·exact ⟨_, .inr rfl, by decide +kernel, znq, rfl⟩
  refine ⟨lp, _, _, _, rfl, rfl, SqL.of g5l, hat, _, rfl, _, rfl, small (by show 3 ≤ 1000; decide), fun tp htp => ?_⟩
  obtain ⟨n0', n1', n2'⟩ := zrr (many := m) (by omega) (by omega) o0 o1 x0 (by omega)
  have st := zai htp (.tup [.str sN, .int one, .int ((one + 1 + x) % (m : Int))])
  refine q (.tuple [.str sN, .int one, .int ((one + 1 + x) % (m : Int))]) _ (k + 1 + 1 + 1 + 1) _ (x5.trans (Same.x st)) (st _ _ g5) (by omega) (by omega) ⟨tp, _, rfl, zae, _, _, rfl, rfl, _, _, rfl, rfl, _, _, rfl, rfl, rfl⟩ ?_ ?_
  ·show zpg m sN _ _ = true
   unfold zpg
   rw [if_neg snm, if_pos sk]
   show ((decide ((0 : Int) ≤ _) && decide (_ ≤ (m : Int) - 1)) && ((decide ((0 : Int) ≤ _) && decide (_ ≤ (m : Int) - 1)) && !decide (_ = _))) = true
   rw [decide_eq_true o0, decide_eq_true (by omega), decide_eq_true n0', decide_eq_true (by omega), decide_eq_false n2']
   rfl
  ·show (true && (zbe 2 (.str sN) && (true && (true && true)))) = true
   rw [show zbe 2 (.str sN) = true from sok]
   rfl
end
section
variable {P : Program} {w : World} {K : PySem.W.Frag} {mg : Str → Option Value} {base : Heap} {a : Adr} {d : Fds}
theorem zlu (T : Txt K mg a d) : FnOk P w K mg base CX0 6 a.f_law_wood d.f_law_wood ["_law_state"] (ztp K) := by
 have G_law_take := zbi (P := P) (w := w) (base := base) T
 have G_law_boughs := zj4 (P := P) (w := w) (base := base) T
 have G_law_cross := zlo (P := P) (w := w) (base := base) T
 refine T.K_law_wood.ok sc_law_wood (fun vs H Q E h => ?_) (fun cdv A outer s H vs Q E hr h => ?_)
 ·obtain ⟨pen, sp, ns, k, rfl, _⟩ := h
  rfl
 obtain ⟨pen, sp, ns, k, rfl, pn, k0, k1, q⟩ := h
 have p62 : (2 : Int) ^ 62 = 4611686018427387904 := by decide
 obtain ⟨ct5, ch5, cu5⟩ := zpw (X := (zcj CX0 P w K mg base ["_law_state", "_law_many", "_law_boughs_here", "_law_count"] "_law_wood" (zag zb0) a.f_law_wood cdv A outer s H E).nox) (st := (za3 zb0).drop 5) (zah (zaj (za8 (zaa (pv 1) (zaa (zbj zcw rfl T.m_tuple PyProof.Rows.boot_tuple (zaa (pv 2) zab)) (zaa (zbj zcw rfl T.m_tuple PyProof.Rows.boot_tuple (zaa (zd1 (sc0 := zag zb0) (XN := ["_law_state", "_law_many", "_law_boughs_here", "_law_count"]) (N' := ["_law_k", "_law_state", "_law_many"]) (n := 1) (kp := [0, 1]) rfl (zbr rfl T.m_range (zaa (pv 3) zab)) rfl rfl (by decide +kernel) (fun _ _ _ _ _ => (za0 (i := 0) (by show List.Nodup (["_law_k", "_law_state", "_law_many"] : List Str); decide +kernel) rfl (Or.inl rfl))) (fun _ _ _ _ _ => zdl) (fun _ _ _ _ _ => (zad G_law_cross hr.lv rfl T.K_law_cross (zaa (pv 1) (zaa (pv 2) zab))))) zab)) zab))))))
 have last : ∀ (m : Nat) (l : Addr) (bs : List PyData) (xs : List V) (n : Int) (k1 : Int) (H1 : Hp), SameX pen H H1 → H1 pen = some (.lst [.ref sp, .int k1]) → k ≤ k1 → k1 ≤ k + 95 → 1 ≤ m → m ≤ 9 → H1 l = some (.lst xs) → DnL H1 bs xs → zr7 m bs → bs.length ≤ 8 → bs.all (zbe 3) = true → 0 ≤ n → n ≤ 8 → ct5 { nx := fun _ H' => Q .non H', rt := Q } [some (.ref pen), some (.int (m : Int)), some (.ref l), some (.int n)] H1 := by
  intro m l bs xs n k1 H1 x1 hp1 k10 k11 m1 m9 hl1 dn gb b8 fb n0 n8
  refine cu5 _ _ _ ?_
  refine ⟨_, rfl, _, rfl, l, _, rfl, .inl ⟨SqL.of hl1, fun t1 ht1 => ?_⟩⟩
  have s2 := zai ht1 (.tup xs)
  have g2 : L2.upd H1 t1 (.tup xs) t1 = some (.tup xs) := zae
  have hp2 := s2 _ _ hp1
  have x2 := x1.trans (Same.x (pen := pen) s2)
  have d2 := DnL.same s2 _ _ dn
  generalize L2.upd H1 t1 (.tup xs) = H2 at s2 g2 hp2 x2 d2 ⊢
  refine ⟨_, rfl, _, rfl, by rw [p62]; omega, by rw [p62]; omega, ?_⟩
  refine zcs (k := n.toNat) (fun i ys σ H3 => (∃ v, σ = [v, some (.ref pen), some (.int (m : Int))]) ∧ SameX pen H2 H3 ∧ ∃ (kc : Int) (cs : List PyData), H3 pen = some (.lst [.ref sp, .int kc]) ∧ k1 ≤ kc ∧ kc ≤ k1 + 31 * i ∧ DnL H3 cs ys ∧ cs.length = i ∧ (∀ c ∈ cs, zh2 m c = true) ∧ cs.all (zbe 3) = true) ⟨⟨none, rfl⟩, SameX.refl _ _, k1, [], hp2, by omega, by omega, rfl, rfl, (fun _ z => nomatch z), rfl⟩ (fun i ys σ H3 hi pv => ?_) (fun i ys σ H3 hi pv => ?_) (fun ys σ H3 pv cl hcl => ?_)
  ·obtain ⟨_, _, kc, cs, _, _, _, dc, ln, _⟩ := pv
   rw [← dc.length, ln]
   exact small (by omega)
  ·obtain ⟨⟨v, rfl⟩, x3, kc, cs, hp3, kc0, kc1, dc, ln, okc, fc⟩ := pv
   refine ⟨_, rfl, _, rfl, pen, sp, ns, m, kc, rfl, pn.to (x2.trans x3) hp3, by omega, by omega, m1, m9, fun c v k' H4 x4 hp4 k40 k41 dv ti fd => ?_⟩
   refine ⟨⟨_, rfl⟩, x3.trans x4, k', cs ++ [c], hp4, by omega, by push_cast; omega, (DnL.tupS (SameX.tup hp3 x4) fc dc).append ⟨v, [], rfl, dv, rfl⟩, by rw [List.length_append, List.length_singleton, ln], fun b hb => ?_, ?_⟩
   ·rcases List.mem_append.mp hb with z | z
    ·exact okc b z
    ·rw [List.mem_singleton.mp z]
     exact ti
   ·rw [List.all_append, fc]
    simp [fd]
  obtain ⟨_, x3, kc, cs, hp3, kc0, kc1, dc, ln, okc, fc⟩ := pv
  have s4 := zai hcl (.lst ys)
  have g4 : L2.upd H3 cl (.lst ys) cl = some (.lst ys) := zae
  have hp4 := s4 _ _ hp3
  have tS := zb5 (SameX.tup hp2 x3) (Same.tup s4)
  have dc4 := DnL.same s4 _ _ dc
  have x4 := (x2.trans x3).trans (Same.x (pen := pen) s4)
  generalize L2.upd H3 cl (.lst ys) = H4 at s4 g4 hp4 tS dc4 x4 ⊢
  refine ⟨cl, _, rfl, .inl ⟨SqL.of g4, fun t2 ht2 => ?_⟩⟩
  have s5 := zai ht2 (.tup ys)
  refine ⟨small (by show 3 ≤ 1000; decide), fun wd hwd => ?_⟩
  have s6 := zai hwd (.tup [.int (m : Int), .ref t1, .ref t2])
  have s56 := s5.trans s6
  exact q wd m bs cs kc _ (x4.trans (Same.x s56)) (s56 _ _ hp4) (by omega) (by omega) m1 m9 ⟨⟨xs, ys, ⟨t1, t2, zae, s56 _ _ (tS _ _ g2), s6 _ _ zae⟩, DnL.same s56 _ _ (DnL.tupS tS fb d2), DnL.same s56 _ _ dc4⟩, gb, okc, by omega, by omega, fb, fc, m1, m9⟩ (by omega)
 obtain ⟨ct2, ch2, cu2⟩ := zpw (X := (zcj CX0 P w K mg base ["_law_state", "_law_many", "_law_boughs_here", "_law_count"] "_law_wood" (zag zb0) a.f_law_wood cdv A outer s H E).nox) (st := (za3 zb0).drop 2) (zaf (zat (i := 2) sc_law_wood.nd rfl (Or.inl rfl) (zad G_law_boughs hr.lv rfl T.K_law_boughs (zaa (pv 0) (zaa (pv 1) zab))))
   (zaf (zat (i := 3) sc_law_wood.nd rfl (Or.inl rfl) (zad G_law_take hr.lv rfl T.K_law_take (zaa (pv 0) (zaa zac zab))))
   (zaf (zaz (zal za4 (zad G_law_take hr.lv rfl T.K_law_take (zaa (pv 0) (zaa zac zab))) zac (zak _)) (zah (zat (i := 3) sc_law_wood.nd rfl (Or.inl rfl) (zad G_law_take hr.lv rfl T.K_law_take (zaa (pv 0) (zaa (zan (ixL (K := K)) (zbz (zaa zac (zaa zac zab))) (zbj zhn rfl T.m_int PyProof.Rows.boot_int (zaa (zbf zg1 (pv 1) zac (zak _)) zab)) (fun _ _ => rfl)) zab))))) zaq)
   ch5)))
 have mid : ∀ (m : Nat) (k1 : Int) (H1 : Hp), SameX pen H H1 → H1 pen = some (.lst [.ref sp, .int k1]) → k ≤ k1 → k1 ≤ k + 3 → 1 ≤ m → m ≤ 9 → ct2 { nx := fun _ H' => Q .non H', rt := Q } [some (.ref pen), some (.int (m : Int)), none, none] H1 := by
  intro m k1 H1 x1 hp1 k10 k11 m1 m9
  refine cu2 _ _ _ ?_
  refine ⟨_, rfl, _, rfl, pen, sp, ns, m, k1, rfl, pn.to x1 hp1, by omega, by omega, m1, m9, fun l bs xs k2 H2 x2 hp2 k20 k21 hl2 nl dn gb b8 fb => ?_⟩
  have nlp : l ≠ pen := fun z => by rw [z, hp1] at nl; cases nl
  refine ⟨_, rfl, pen, sp, ns, 4, k2, rfl, pn.to (x1.trans x2) hp2, by omega, by omega, by decide, fun c c0 c1 => ?_⟩
  have x3' := zam (pen := pen) (H := H2) (.lst [.ref sp, .int (k2 + 1)])
  have g3 : L2.upd H2 pen (.lst [.ref sp, .int (k2 + 1)]) pen = some (.lst [.ref sp, .int (k2 + 1)]) := zae
  have g3l : L2.upd H2 pen (.lst [.ref sp, .int (k2 + 1)]) l = some (.lst xs) := by rw [zap nlp]; exact hl2
  have d3 := DnL.tupS (SameX.tup hp2 x3') fb dn
  generalize L2.upd H2 pen (.lst [.ref sp, .int (k2 + 1)]) = H3 at x3' g3 g3l d3 ⊢
  refine ⟨_, rfl, pen, sp, ns, 4, k2 + 1, rfl, pn.to ((x1.trans x2).trans x3') g3, by omega, by omega, by decide, fun e e0 e1 => ?_⟩
  have x4' := zam (pen := pen) (H := H3) (.lst [.ref sp, .int (k2 + 1 + 1)])
  have g4 : L2.upd H3 pen (.lst [.ref sp, .int (k2 + 1 + 1)]) pen = some (.lst [.ref sp, .int (k2 + 1 + 1)]) := zae
  have g4l : L2.upd H3 pen (.lst [.ref sp, .int (k2 + 1 + 1)]) l = some (.lst xs) := by rw [zap nlp]; exact g3l
  have d4 := DnL.tupS (SameX.tup g3 x4') fb d3
  generalize L2.upd H3 pen (.lst [.ref sp, .int (k2 + 1 + 1)]) = H4 at x4' g4 g4l d4 ⊢
  have x4 := ((x1.trans x2).trans x3').trans x4'
  refine ⟨rfl, _, rfl, ?_⟩
  refine zbl (fun _ => ?_) (fun _ => ?_)
  ·refine ⟨_, rfl, small (by show 2 ≤ 1000; decide), fun fl hfl => ?_⟩
   have s5 := zai hfl (.lst [.int 9, .int 7])
   have g5 : L2.upd H4 fl (.lst [.int 9, .int 7]) fl = some (.lst [.int 9, .int 7]) := zae
   have g5p := s5 _ _ g4
   have g5l := s5 _ _ g4l
   have d5 := DnL.same s5 _ _ d4
   have x5 := x4.trans (Same.x (pen := pen) s5)
   generalize L2.upd H4 fl (.lst [.int 9, .int 7]) = H5 at s5 g5 g5p g5l d5 x5 ⊢
   refine ⟨_, rfl, _, _, rfl, rfl, .inr ⟨_, rfl, ?_⟩⟩
   obtain ⟨top, hat, t0, t9⟩ : ∃ top : Int, atI [V.int 9, V.int 7] (if decide ((m : Int) > 6) = true then 1 else 0) = some (.int top) ∧ 0 < top ∧ top ≤ 9 := by
    split
    ·exact ⟨_, rfl, by decide, by decide⟩
    ·exact ⟨_, rfl, by decide, by decide⟩
   refine ⟨fl, _, _, _, rfl, rfl, SqL.of g5, hat, pen, sp, ns, top, k2 + 1 + 1, rfl, pn.to x5 g5p, by omega, by omega, t0, fun y y0 y1 => ?_⟩
   have x6' := zam (pen := pen) (H := H5) (.lst [.ref sp, .int (k2 + 1 + 1 + 1)])
   have g6 : L2.upd H5 pen (.lst [.ref sp, .int (k2 + 1 + 1 + 1)]) pen = some (.lst [.ref sp, .int (k2 + 1 + 1 + 1)]) := zae
   have g6l : L2.upd H5 pen (.lst [.ref sp, .int (k2 + 1 + 1 + 1)]) l = some (.lst xs) := by rw [zap nlp]; exact g5l
   have d6 := DnL.tupS (SameX.tup g5p x6') fb d5
   generalize L2.upd H5 pen (.lst [.ref sp, .int (k2 + 1 + 1 + 1)]) = H6 at x6' g6 g6l d6 ⊢
   exact last m l bs xs y _ H6 (x5.trans x6') g6 (by omega) (by omega) m1 m9 g6l d6 gb b8 fb y0 (by omega)
  ·exact last m l bs xs c _ H4 x4 g4 (by omega) (by omega) m1 m9 g4l d4 gb b8 fb c0 (by omega)
 refine ⟨_, (zaf (zat (i := 1) sc_law_wood.nd rfl (Or.inr rfl) (zau zbv zac (zad G_law_take hr.lv rfl T.K_law_take (zaa (pv 0) (zaa zac zab)))))
   (zaf (zaz (zal za4 (zad G_law_take hr.lv rfl T.K_law_take (zaa (pv 0) (zaa zac zab))) zac (zak _)) (zah (zat (i := 1) sc_law_wood.nd rfl (Or.inr rfl) (zau zbv zac (zad G_law_take hr.lv rfl T.K_law_take (zaa (pv 0) (zaa zac zab)))))) zaq)
   ch2)), ?_⟩
 refine ⟨_, rfl, pen, sp, ns, 6, k, rfl, pn, k0, by omega, by decide, fun c c0 c1 => ?_⟩
 refine ⟨_, _, rfl, rfl, ?_⟩
 have x1 := zam (pen := pen) (H := H) (.lst [.ref sp, .int (k + 1)])
 have h1 : L2.upd H pen (.lst [.ref sp, .int (k + 1)]) pen = some (.lst [.ref sp, .int (k + 1)]) := zae
 generalize L2.upd H pen (.lst [.ref sp, .int (k + 1)]) = H1 at x1 h1 ⊢
 refine ⟨_, rfl, pen, sp, ns, 8, k + 1, rfl, pn.to x1 h1, by omega, by omega, by decide, fun e e0 e1 => ?_⟩
 have x2 := x1.trans (zam (pen := pen) (H := H1) (.lst [.ref sp, .int (k + 1 + 1)]))
 have h2 : L2.upd H1 pen (.lst [.ref sp, .int (k + 1 + 1)]) pen = some (.lst [.ref sp, .int (k + 1 + 1)]) := zae
 generalize L2.upd H1 pen (.lst [.ref sp, .int (k + 1 + 1)]) = H2 at x2 h2 ⊢
 refine ⟨rfl, _, rfl, ?_⟩
 refine zbl (fun _ => ?_) (fun _ => ?_)
 ·refine ⟨_, rfl, pen, sp, ns, 3, k + 1 + 1, rfl, pn.to x2 h2, by omega, by omega, by decide, fun g g0 g1 => ?_⟩
  refine ⟨_, _, rfl, rfl, ?_⟩
  have x3 := x2.trans (zam (pen := pen) (H := H2) (.lst [.ref sp, .int (k + 1 + 1 + 1)]))
  have h3 : L2.upd H2 pen (.lst [.ref sp, .int (k + 1 + 1 + 1)]) pen = some (.lst [.ref sp, .int (k + 1 + 1 + 1)]) := zae
  have t := mid (7 + g).toNat _ _ x3 h3 (by omega) (by omega) (by omega) (by omega)
  rw [show (((7 + g).toNat : Nat) : Int) = 7 + g by omega] at t
  exact t
 ·have t := mid (1 + c).toNat _ _ x2 h2 (by omega) (by omega) (by omega) (by omega)
  rw [show (((1 + c).toNat : Nat) : Int) = 1 + c by omega] at t
  exact t
end
section
variable {P : Program} {w : World} {K : PySem.W.Frag} {mg : Str → Option Value} {base : Heap} {a : Adr} {d : Fds}
theorem zer (T : Txt K mg a d) : FnOk P w K mg base CX0 1 a.f_law_has d.f_law_has ["_law_some", "_law_k"] zul := by
 refine T.K_law_has.ok zn9 (fun vs H Q E h => ?_) (fun cdv A outer s H vs Q E hr h => ?_)
 ·obtain ⟨n, k, rfl, _⟩ := h
  rfl
 obtain ⟨n, k, rfl, k9, q⟩ := h
 have pk := zq7 k
 refine ⟨_, (zah (zaj (zbf za4 (zau ze5 (zau zsx (pv 0) (zau zji zac (pv 1))) zac) zac (zak _)))), ?_⟩
 refine ⟨_, rfl, _, rfl, _, _, rfl, rfl, ⟨by omega, by omega, by decide⟩, _, _, rfl, rfl, ?_, _, _, rfl, rfl, (by show (0 : Int) < 2; decide), rfl, ?_⟩
 ·have p20 : 2 ^ k ≤ 2 ^ 20 := Nat.pow_le_pow_right (by decide) k9
  have e20 : (2 : Nat) ^ 20 = 1048576 := by decide
  show zuw _ _
  unfold zuw
  rw [zq5]
  omega
 ·have e : decide ((fun i j : Int => V.int (i % j)) ((n : Int) / (1 * (2 : Int) ^ ((k : Nat) : Int).toNat)) 2 = V.int 1) = n.testBit k := by
   rw [zq5]
   exact ztb n k
  rw [e]
  exact q
end
section
variable {P : Program} {w : World} {K : PySem.W.Frag} {mg : Str → Option Value} {base : Heap} {a : Adr} {d : Fds}
theorem zj5 (T : Txt K mg a d) : FnOk P w K mg base CX0 2 a.f_law_prices d.f_law_prices ["_law_state", "_law_many"] (zqj K) := by
 have G_law_take := zbi (P := P) (w := w) (base := base) T
 refine T.K_law_prices.ok sc_law_prices (fun vs H Q E h => ?_) (fun cdv A outer s H vs Q E hr h => ?_)
 ·obtain ⟨pen, sp, ns, m, k, rfl, _⟩ := h
  rfl
 obtain ⟨pen, sp, ns, m, k, rfl, pn, k0, k1, m9, q⟩ := h
 have p62 : (2 : Int) ^ 62 = 4611686018427387904 := by decide
 have p64 : (2 : Int) ^ 64 = 18446744073709551616 := by decide
 refine ⟨_, (zaf (zat (i := 2) sc_law_prices.nd rfl (Or.inr rfl) (zan (ixL (K := K)) (zbz (zaa zac (zaa (zau zr2 zac zac) zab))) (zbj zhn rfl T.m_int PyProof.Rows.boot_int (zaa (zbf za4 (zad G_law_take hr.lv rfl T.K_law_take (zaa (pv 0) (zaa zac zab))) zac (zak _)) zab)) (fun _ _ => rfl)))
   (zaf (zfl (i := 3) sc_law_prices.nd rfl rfl rfl (sc0 := zag zcn) (XN := ["_law_state", "_law_many", "_law_far", "_law_prices_here"]) (N' := ["_law_k", "_law_far", "_law_state"]) (n := 1) (kp := [2, 0]) rfl (zbr rfl T.m_range (zaa (pv 1) zab)) rfl rfl (by decide +kernel) (fun _ _ _ _ _ => (za0 (i := 0) (by show List.Nodup (["_law_k", "_law_far", "_law_state"] : List Str); decide +kernel) rfl (Or.inl rfl))) (fun _ _ _ _ _ => zdl) (fun _ _ _ _ _ => (zau zdw (pv 1) (zau zbw (zad G_law_take hr.lv rfl T.K_law_take (zaa (pv 2) (zaa zac zab))) zac))))
   (zaf (zaz (zal za4 (zad G_law_take hr.lv rfl T.K_law_take (zaa (pv 0) (zaa zac zab))) zac (zak _)) (zah (zfl (i := 3) sc_law_prices.nd rfl rfl rfl (sc0 := zag zcn) (XN := ["_law_state", "_law_many", "_law_far", "_law_prices_here"]) (N' := ["_law_k", "_law_far", "_law_state"]) (n := 1) (kp := [2, 0]) rfl (zbr rfl T.m_range (zaa (pv 1) zab)) rfl rfl (by decide +kernel) (fun _ _ _ _ _ => (za0 (i := 0) (by show List.Nodup (["_law_k", "_law_far", "_law_state"] : List Str); decide +kernel) rfl (Or.inl rfl))) (fun _ _ _ _ _ => zdl) (fun _ _ _ _ _ => (zau zdw (pv 1) (zau zbw (zad G_law_take hr.lv rfl T.K_law_take (zaa (pv 2) (zaa zac zab))) zac))))) zaq)
   (zah (zaj (pv 3)))))), ?_⟩
 refine ⟨_, _, rfl, rfl, ⟨by decide, by decide, by decide⟩, small (by show 2 ≤ 1000; decide), fun fl hfl => ?_⟩
 have sf := zai hfl (.lst [.int 1, .int (10 ^ (57 : Int).toNat)])
 have gf : L2.upd H fl (.lst [.int 1, .int (10 ^ (57 : Int).toNat)]) fl = some (.lst [.int 1, .int (10 ^ (57 : Int).toNat)]) := zae
 have pn1 := pn.same sf
 have x1 := Same.x (pen := pen) sf
 have nfp : fl ≠ pen := fun z => by rw [z, pn.at_] at hfl; cases hfl
 generalize L2.upd H fl (.lst [.int 1, .int (10 ^ (57 : Int).toNat)]) = H1 at sf gf pn1 x1 ⊢
 refine ⟨_, rfl, pen, sp, ns, 6, k, rfl, pn1, by omega, by omega, by decide, fun w1 w10 w11 => ?_⟩
 have x2 := x1.trans (zam (pen := pen) (H := H1) (.lst [.ref sp, .int (k + 1)]))
 have g2 : L2.upd H1 pen (.lst [.ref sp, .int (k + 1)]) pen = some (.lst [.ref sp, .int (k + 1)]) := zae
 have g2f : L2.upd H1 pen (.lst [.ref sp, .int (k + 1)]) fl = some (.lst [.int 1, .int (10 ^ (57 : Int).toNat)]) := by rw [zap nfp]; exact gf
 generalize L2.upd H1 pen (.lst [.ref sp, .int (k + 1)]) = H2 at x2 g2 g2f ⊢
 refine ⟨rfl, .inr ⟨_, rfl, ?_⟩⟩
 obtain ⟨far, hat⟩ : ∃ far : Int, atI [V.int 1, V.int (10 ^ (57 : Int).toNat)] (if decide (V.int w1 = V.int 0) = true then 1 else 0) = some (.int far) := by
  split
  ·exact ⟨_, rfl⟩
  ·exact ⟨_, rfl⟩
 refine ⟨fl, _, _, _, rfl, rfl, SqL.of g2f, hat, ?_⟩
 refine ⟨_, rfl, _, rfl, by rw [p62]; omega, by rw [p62]; omega, ?_⟩
 rw [Int.toNat_natCast]
 refine zcs (k := m) (fun i ys σ H3 => (∃ v, σ = [v, some (.int far), some (.ref pen)]) ∧ SameX pen H H3 ∧ ∃ (kc : Int) (ps : List Int), H3 pen = some (.lst [.ref sp, .int kc]) ∧ k + 1 ≤ kc ∧ kc ≤ k + 1 + i ∧ ys = ps.map V.int ∧ ps.length = i) ⟨⟨none, rfl⟩, x2, k + 1, [], g2, by omega, by omega, rfl, rfl⟩ (fun i ys σ H3 hi pv => ?_) (fun i ys σ H3 hi pv => ?_) (fun ys σ H3 pv l hl => ?_)
 ·obtain ⟨_, _, kc, ps, _, _, _, rfl, ln⟩ := pv
  rw [List.length_map, ln]
  exact small (by omega)
 ·obtain ⟨⟨v, rfl⟩, x3, kc, ps, hp3, kc0, kc1, rfl, ln⟩ := pv
  refine ⟨_, rfl, _, rfl, pen, sp, ns, 30, kc, rfl, pn.to x3 hp3, by omega, by omega, by decide, fun y y0 y1 => ?_⟩
  refine ⟨_, _, rfl, rfl, _, _, rfl, rfl, .inr ⟨by rw [p64]; omega, by rw [p64]; omega⟩, ?_⟩
  exact ⟨⟨_, rfl⟩, x3.trans (zam (pen := pen) (H := H3) (.lst [.ref sp, .int (kc + 1)])), kc + 1, ps ++ [far * (y - 8)], zae, by omega, by push_cast; omega, by rw [List.map_append]; rfl, by rw [List.length_append, ln]; rfl⟩
 obtain ⟨_, x3, kc, ps, hp3, kc0, kc1, rfl, ln⟩ := pv
 have s4 := zai hl (.lst (ps.map V.int))
 have g4 : L2.upd H3 l (.lst (ps.map V.int)) l = some (.lst (ps.map V.int)) := zae
 have hp4 := s4 _ _ hp3
 have nl : H l = none := x3.free ⟨_, hp3⟩ hl
 have nlp : l ≠ pen := fun z => by rw [z, hp3] at hl; cases hl
 have x4 := x3.trans (Same.x (pen := pen) s4)
 generalize L2.upd H3 l (.lst (ps.map V.int)) = H4 at s4 g4 hp4 x4 ⊢
 refine ⟨_, rfl, pen, sp, ns, 4, kc, rfl, pn.to x4 hp4, by omega, by omega, by decide, fun y y0 y1 => ?_⟩
 have x5' := zam (pen := pen) (H := H4) (.lst [.ref sp, .int (kc + 1)])
 have x5 := x4.trans x5'
 have g5 : L2.upd H4 pen (.lst [.ref sp, .int (kc + 1)]) pen = some (.lst [.ref sp, .int (kc + 1)]) := zae
 have g5l : L2.upd H4 pen (.lst [.ref sp, .int (kc + 1)]) l = some (.lst (ps.map V.int)) := by rw [zap nlp]; exact g4
 generalize L2.upd H4 pen (.lst [.ref sp, .int (kc + 1)]) = H5 at x5 g5 g5l x5' ⊢
 refine ⟨rfl, _, rfl, ?_⟩
 refine zbl (fun _ => ?_) (fun _ => ?_)
 ·refine ⟨_, rfl, _, rfl, by rw [p62]; omega, by rw [p62]; omega, ?_⟩
  rw [Int.toNat_natCast]
  refine zcs (k := m) (fun i ys σ H3 => (∃ v, σ = [v, some (.int far), some (.ref pen)]) ∧ SameX pen H H3 ∧ ∃ (kd : Int) (ps : List Int), H3 pen = some (.lst [.ref sp, .int kd]) ∧ kc + 1 ≤ kd ∧ kd ≤ kc + 1 + i ∧ ys = ps.map V.int ∧ ps.length = i) ⟨⟨none, rfl⟩, x5, kc + 1, [], g5, by omega, by omega, rfl, rfl⟩ (fun i ys σ H3 hi pv => ?_) (fun i ys σ H3 hi pv => ?_) (fun ys σ H3 pv l hl => ?_)
  ·obtain ⟨_, _, kc, ps, _, _, _, rfl, ln⟩ := pv
   rw [List.length_map, ln]
   exact small (by omega)
  ·obtain ⟨⟨v, rfl⟩, x3, kd, ps, hp3, kd0, kd1, rfl, ln⟩ := pv
   refine ⟨_, rfl, _, rfl, pen, sp, ns, 3, kd, rfl, pn.to x3 hp3, by omega, by omega, by decide, fun y y0 y1 => ?_⟩
   refine ⟨_, _, rfl, rfl, _, _, rfl, rfl, .inr ⟨by rw [p64]; omega, by rw [p64]; omega⟩, ?_⟩
   exact ⟨⟨_, rfl⟩, x3.trans (zam (pen := pen) (H := H3) (.lst [.ref sp, .int (kd + 1)])), kd + 1, ps ++ [far * (y - 1)], zae, by omega, by push_cast; omega, by rw [List.map_append]; rfl, by rw [List.length_append, ln]; rfl⟩
  obtain ⟨_, x3, kd, ps, hp3, kd0, kd1, rfl, ln⟩ := pv
  have s4 := zai hl (.lst (ps.map V.int))
  exact ⟨_, rfl, q l ps kd _ (x3.trans (Same.x s4)) (s4 _ _ hp3) (by omega) (by omega) (x3.free ⟨_, hp3⟩ hl) zae ln⟩
 ·exact ⟨_, rfl, q l ps (kc + 1) _ x5 g5 (by omega) (by omega) nl g5l ln⟩
end
section
variable {P : Program} {w : World} {K : PySem.W.Frag} {mg : Str → Option Value} {base : Heap} {a : Adr} {d : Fds}
theorem zgm (T : Txt K mg a d) : FnOk P w K mg base CX0 2 a.f_law_price d.f_law_price ["_law_prices_here", "_law_some"] zr3 := by
 have G_law_has := zer (P := P) (w := w) (base := base) T
 refine T.K_law_price.ok zkt (fun vs H Q E h => ?_) (fun cdv A outer s H vs Q E hr h => ?_)
 ·obtain ⟨lp, ps, n, rfl, _⟩ := h
  rfl
 obtain ⟨lp, ps, n, rfl, hl, p9, q⟩ := h
 have p62 : (2 : Int) ^ 62 = 4611686018427387904 := by decide
 have ln : (ps.map V.int).length = ps.length := List.length_map _
 refine ⟨_, (zah (zaj (zaw (zb7 rfl) rfl T.m_sum PyProof.Rows.boot_sum (zaa (zd1 (sc0 := zag zdq) (XN := ["_law_prices_here", "_law_some"]) (N' := ["_law_k", "_law_prices_here", "_law_some"]) (n := 1) (kp := [0, 1]) rfl (zbr rfl T.m_range (zaa (zaw (zdd (K := K)) rfl T.m_len PySem.boot_len (zaa (pv 0) zab)) zab)) rfl rfl (by decide +kernel) (fun _ _ _ _ _ => (za0 (i := 0) (by show List.Nodup (["_law_k", "_law_prices_here", "_law_some"] : List Str); decide +kernel) rfl (Or.inl rfl))) (fun _ _ _ _ _ => (zcx (zbu (zad G_law_has hr.lv rfl T.K_law_has (zaa (pv 2) (zaa (pv 0) zab)))))) (fun _ _ _ _ _ => (zan (ixL (K := K)) (pv 1) (pv 0) (fun _ _ => rfl)))) zab)))), ?_⟩
 refine ⟨_, rfl, lp, _, rfl, .inl (SqL.of hl), _, rfl, by rw [p62, ln]; omega, by rw [p62, ln]; omega, ?_⟩
 rw [ln, Int.toNat_natCast]
 refine zcs (k := ps.length) (fun i ys σ H2 => (∃ v, σ = [v, some (.ref lp), some (.int (n : Int))]) ∧ H2 = H ∧ ys = (((List.range i).filter fun k => n.testBit k).map fun k => ps.getD k 0).map V.int) ⟨⟨none, rfl⟩, rfl, rfl⟩ (fun i ys σ H2 hi pv => ?_) (fun i ys σ H2 hi pv => ?_) (fun ys σ H2 pv la hla => ?_)
 ·obtain ⟨_, _, rfl⟩ := pv
  rw [List.length_map, List.length_map]
  refine small (Nat.le_trans (List.length_filter_le _ _) ?_)
  rw [List.length_range]
  omega
 ·obtain ⟨⟨v, rfl⟩, rfl, rfl⟩ := pv
  have pk : ps[i]? = some ps[i] := List.getElem?_eq_getElem hi
  refine ⟨_, rfl, _, rfl, n, i, rfl, by omega, _, rfl, ?_⟩
  cases c : n.testBit i with
  | true =>
   refine zqb ?_
   refine ⟨_, rfl, _, rfl, lp, _, _, .int ps[i], rfl, rfl, SqL.of hl, zb9 (by rw [List.getElem?_map, pk]; rfl), ⟨_, rfl⟩, rfl, ?_⟩
   rw [List.range_succ, List.filter_append, List.filter_cons_of_pos c, List.map_append, List.map_append, List.filter_nil]
   show _ = _ ++ [V.int (ps.getD i 0)]
   rw [List.getD_eq_getElem?_getD, pk]
   rfl
  | false =>
   refine zib ?_
   refine ⟨⟨_, rfl⟩, rfl, ?_⟩
   rw [List.range_succ, List.filter_append, List.filter_cons_of_neg (by rw [c]; exact Bool.false_ne_true), List.filter_nil, List.append_nil]
 obtain ⟨_, rfl, rfl⟩ := pv
 have e : zc5 (zcm ps) (fun p => n.testBit p.1) = (((List.range ps.length).filter fun k => n.testBit k).map fun k => ps.getD k 0).sum := by
  unfold zc5 zcm
  rw [List.filter_map, List.map_map]
  rfl
 rw [e] at q
 exact ⟨la, _, rfl, SqL.of zae, q _ (zai hla _)⟩
end
section
variable {P : Program} {w : World} {K : PySem.W.Frag} {mg : Str → Option Value} {base : Heap} {a : Adr} {d : Fds}
theorem zm5 (T : Txt K mg a d) : FnOk P w K mg base CX0 2 a.f_law_sets d.f_law_sets ["_law_many", "_law_yes", "_law_no"] zv3 := by
 have G_law_has := zer (P := P) (w := w) (base := base) T
 refine T.K_law_sets.ok sc_law_sets (fun vs H Q E h => ?_) (fun cdv A outer s H vs Q E hr h => ?_)
 ·obtain ⟨m, y, n, rfl, _⟩ := h
  rfl
 obtain ⟨m, y, n, rfl, m9, q⟩ := h
 have p62 : (2 : Int) ^ 62 = 4611686018427387904 := by decide
 refine ⟨_, (zaf (zat (i := 3) sc_law_sets.nd rfl (Or.inl rfl) (zbz (zaa (pv 1) zab)))
   (zaf (zgk PassesOwn.never rfl (zbr rfl T.m_range (zaa (pv 0) zab)) (za0 (i := 4) sc_law_sets.nd rfl (Or.inr rfl)) (zah (zaz (ze0 (zbu (zad G_law_has hr.lv rfl T.K_law_has (zaa (zau zh1 (pv 1) (pv 2)) (zaa (pv 4) zab))))) (zah (zat (i := 3) sc_law_sets.nd rfl (Or.inl rfl) (zau zn7 (pv 3) (zd1 (sc0 := zag zed) (XN := ["_law_many", "_law_yes", "_law_no", "_law_some", "_law_k"]) (N' := ["_law_one", "_law_k"]) (n := 1) (kp := [4]) rfl (piL (K := K) (pv 3)) rfl rfl (by decide +kernel) (fun _ _ _ _ _ => (za0 (i := 0) (by show List.Nodup (["_law_one", "_law_k"] : List Str); decide +kernel) rfl (Or.inl rfl))) (fun _ _ _ _ _ => zdl) (fun _ _ _ _ _ => (zau zh1 (pv 0) (zau zji zac (pv 1)))))))) zaq)))
   (zah (zaj (pv 3))))), ?_⟩
 refine ⟨_, rfl, small (by show 1 ≤ 1000; decide), fun l0 nl0 => ?_⟩
 have s1 := zai nl0 (.lst [.int (y : Int)])
 have g1 : L2.upd H l0 (.lst [.int (y : Int)]) l0 = some (.lst [.int (y : Int)]) := zae
 generalize L2.upd H l0 (.lst [.int (y : Int)]) = H1 at s1 g1 ⊢
 refine ⟨_, rfl, _, rfl, by rw [p62]; omega, by rw [p62]; omega, ?_⟩
 rw [Int.toNat_natCast]
 refine zet (n := m) (fun i σ H2 => ∃ (l : Addr) (v : Option V), σ = [some (.int (m : Int)), some (.int (y : Int)), some (.int (n : Int)), some (.ref l), v] ∧ Same H H2 ∧ H2 l = some (.lst (zav (stL y n i)))) ⟨l0, none, rfl, s1, g1⟩ ?_ ?_
 ·rintro i σ H2 hi ⟨l, v, rfl, s2, hl⟩
  have few := zln (y := y) (n := n) i
  have pi : 2 ^ i ≤ 2 ^ 8 := Nat.pow_le_pow_right (by decide) (by omega)
  have p8 : (2 : Nat) ^ 8 = 256 := by decide
  refine ⟨_, rfl, _, rfl, _, _, rfl, rfl, _, rfl, y ||| n, i, by show [V.int (Builtin.bitOr (y : Int) (n : Int)), V.int (i : Int)] = _; rw [zeb], by omega, _, rfl, ?_⟩
  by_cases c : (!(y ||| n).testBit i) = true
  ·refine zdj c ?_
   refine ⟨_, rfl, _, rfl, l, rfl, ⟨_, SqL.of hl⟩, ?_⟩
   refine zql (K := K) (fun _ => true) (fun s => ((s ||| 2 ^ i : Nat) : Int)) rfl hl (by omega) (fun s hs H3 R hR => hR) (fun s hs H3 s3 R hR => ?_) (fun H3 l2 s3 nl2 => ?_)
   ·refine ⟨_, rfl, _, rfl, _, _, rfl, rfl, ⟨by omega, by omega, by decide⟩, _, _, rfl, rfl, ?_⟩
    have e : Builtin.bitOr (s : Int) (1 * 2 ^ ((i : Nat) : Int).toNat) = ((s ||| 2 ^ i : Nat) : Int) := by rw [zq5, zeb]
    dsimp only
    rw [e]
    exact hR H3 s3
   rw [zqh]
   have s4 := zai nl2 (.lst (zav ((stL y n i).map (· ||| 2 ^ i))))
   have g4 : L2.upd H3 l2 (.lst (zav ((stL y n i).map (· ||| 2 ^ i)))) l2 = some (.lst (zav ((stL y n i).map (· ||| 2 ^ i)))) := zae
   generalize L2.upd H3 l2 (.lst (zav ((stL y n i).map (· ||| 2 ^ i)))) = H4 at s4 g4 ⊢
   refine ⟨l, l2, _, _, rfl, rfl, (s3.trans s4) _ _ hl, g4, small (by rw [show (zav (stL y n i)).length = _ from List.length_map _, show (zav ((stL y n i).map (· ||| 2 ^ i))).length = _ from List.length_map _, List.length_map]; omega), fun l5 nl5 => ?_⟩
   refine ⟨l5, _, rfl, ((s2.trans s3).trans s4).trans (zai nl5 _), ?_⟩
   have e : stL y n (i + 1) = stL y n i ++ (stL y n i).map (· ||| 2 ^ i) := by
    show (if _ then _ else _) = _
    rw [if_pos c]
   rw [e, zae]
   unfold zav
   rw [List.map_append]
  ·refine zb3 (Bool.eq_false_iff.mpr c) ?_
   have e : stL y n (i + 1) = stL y n i := by
    show (if _ then _ else _) = _
    rw [if_neg c]
   exact ⟨l, _, rfl, s2, by rw [e]; exact hl⟩
 rintro σ H2 ⟨l, v, rfl, s2, hl⟩
 exact ⟨_, rfl, q l H2 s2 hl⟩
end
section
variable {P : Program} {w : World} {K : PySem.W.Frag} {mg : Str → Option Value} {base : Heap} {a : Adr} {d : Fds}
def zsq : Sp := fun vs H Q _ => ∃ (wd : Addr) (m : Nat) (ts : List Tie), vs = [.ref wd] ∧ WoodT H wd m ts ∧ ∀ (l : Addr) (xs : List V) (H' : Hp), Same H H' → H l = none → H' l = some (.lst xs) → DnL H' (ts.map Tie.toD) xs → Q (.ref l) H'
theorem zly (T : Txt K mg a d) : FnOk P w K mg base CX0 1 a.f_law_ties d.f_law_ties ["_law_wood_here"] zsq := by
 refine T.K_law_ties.ok zlt (fun vs H Q E h => ?_) (fun cdv A outer s H vs Q E hr h => ?_)
 ·obtain ⟨wd, m, ts, rfl, _⟩ := h
  rfl
 obtain ⟨wd, m, ts, rfl, W, q⟩ := h
 obtain ⟨xs, ys, ⟨tb, tc, hw, hb, hc⟩, dn⟩ := W.ex
 have few := W.few
 have ln : ts.length = xs.length + ys.length := by
  have := dn.length
  rw [List.length_map, List.length_append] at this
  exact this
 refine ⟨_, (zah (zaj (zau zn7 (zbj zch rfl T.m_list PyProof.Rows.boot_list (zaa (zan (ixT (K := K)) (pv 0) zac (fun _ _ => rfl)) zab)) (zbj zch rfl T.m_list PyProof.Rows.boot_list (zaa (zan (ixT (K := K)) (pv 0) zac (fun _ _ => rfl)) zab))))), ?_⟩
 refine ⟨_, rfl, wd, _, _, _, rfl, rfl, sqT hw, at1, tb, _, rfl, .inr (sqT hb), fun l1 hl1 => ?_⟩
 have s1 := zai hl1 (.lst xs)
 refine ⟨_, rfl, wd, _, _, _, rfl, rfl, sqT (s1 _ _ hw), at2, tc, _, rfl, .inr (sqT (s1 _ _ hc)), fun l2 hl2 => ?_⟩
 have s2 := zai hl2 (.lst ys)
 refine ⟨l1, l2, xs, ys, rfl, rfl, s2 _ _ zae, zae, small (by omega), fun l3 hl3 => ?_⟩
 have s3 := (s1.trans s2).trans (zai hl3 (.lst (xs ++ ys)))
 exact q l3 _ _ s3 ((s1.trans s2).free hl3) zae (DnL.same s3 _ _ dn)
end
section
variable {P : Program} {w : World} {K : PySem.W.Frag} {mg : Str → Option Value} {base : Heap} {a : Adr} {d : Fds}
theorem zmi (T : Txt K mg a d) : FnOk P w K mg base CX0 5 a.f_law_leaf d.f_law_leaf ["_law_wood_here", "_law_prices_here", "_law_price_here", "_law_yes", "_law_no", "_law_tree"] zsh := by
 have G_law_ties := zly (P := P) (w := w) (base := base) T
 have G_law_has := zer (P := P) (w := w) (base := base) T
 have G_law_price := zgm (P := P) (w := w) (base := base) T
 have G_law_sets := zm5 (P := P) (w := w) (base := base) T
 have G_keeps := zmc (P := P) (w := w) (base := base) T
 refine T.K_law_leaf.ok sc_law_leaf (fun vs H Q E h => ?_) (fun cdv A outer s H vs Q E hr h => ?_)
 ·obtain ⟨wd, lp, m, ts, ps, p, y, n, t, v, rfl, _⟩ := h
  rfl
 obtain ⟨wd, lp, m, ts, ps, p, y, n, t, v, rfl, W, m9, hlp, lm, dn, dw, il, Sy, y0, q⟩ := h
 have p62 : (2 : Int) ^ 62 = 4611686018427387904 := by decide
 have few := W.few
 refine ⟨_, (zaf (zat (i := 6) sc_law_leaf.nd rfl (Or.inl rfl) (zad G_law_ties hr.lv rfl T.K_law_ties (zaa (pv 0) zab)))
   (zaf (zfl (i := 7) sc_law_leaf.nd rfl rfl rfl (sc0 := zag zcb) (XN := ["_law_wood_here", "_law_prices_here", "_law_price_here", "_law_yes", "_law_no", "_law_tree", "_law_ties_here", "_law_free", "_law_tie", "_law_some", "_law_lower", "_law_good"]) (N' := ["_law_k", "_law_yes", "_law_no"]) (n := 1) (kp := [3, 4]) rfl (zbr rfl T.m_range (zaa (zan (ixT (K := K)) (pv 0) zac (fun _ _ => rfl)) zab)) rfl rfl (by decide +kernel) (fun _ _ _ _ _ => (za0 (i := 0) (by show List.Nodup (["_law_k", "_law_yes", "_law_no"] : List Str); decide +kernel) rfl (Or.inl rfl))) (fun _ _ _ _ _ => (zcx (ze0 (zbu (zad G_law_has hr.lv rfl T.K_law_has (zaa (zau zh1 (pv 1) (pv 2)) (zaa (pv 0) zab))))))) (fun _ _ _ _ _ => (pv 0)))
   (zaf (zaz (zal za4 (zan (ixT (K := K)) (pv 5) zac (fun _ _ => rfl)) zay (zak _)) (zaf (zaz (PW.pt (zhx (zal zf9 (zan (ixT (K := K)) (pv 5) zac (fun _ _ => rfl)) zac (zak _)) (zhg (zal ziw (zan (ixT (K := K)) (pv 5) zac (fun _ _ => rfl)) (zaw (zdd (K := K)) rfl T.m_len PySem.boot_len (zaa (pv 6) zab)) (zak _))))) (zah (zaj ze8)) zaq)
   (zaf (zat (i := 8) sc_law_leaf.nd rfl (Or.inr rfl) (zan (ixL (K := K)) (pv 6) (zan (ixT (K := K)) (pv 5) zac (fun _ _ => rfl)) (fun _ _ => rfl)))
   (zaf (zat (i := 9) sc_law_leaf.nd rfl (Or.inl rfl) (zad G_law_sets hr.lv rfl T.K_law_sets (zaa (zan (ixT (K := K)) (pv 0) zac (fun _ _ => rfl)) (zaa (pv 3) (zaa (pv 4) zab)))))
   (zah (zaj (zbf za4 (zaw (zdd (K := K)) rfl T.m_len PySem.boot_len (zaa (zd1 (sc0 := zag zcb) (XN := ["_law_wood_here", "_law_prices_here", "_law_price_here", "_law_yes", "_law_no", "_law_tree", "_law_ties_here", "_law_free", "_law_tie", "_law_some", "_law_lower", "_law_good"]) (N' := ["_law_one", "_law_tie"]) (n := 1) (kp := [8]) rfl (piL (K := K) (pv 9)) rfl rfl (by decide +kernel) (fun _ _ _ _ _ => (za0 (i := 0) (by show List.Nodup (["_law_one", "_law_tie"] : List Str); decide +kernel) rfl (Or.inl rfl))) (fun _ _ _ _ _ => (zcx (zbu (zad G_keeps hr.lv rfl T.K_keeps (zaa (pv 1) (zaa (pv 0) zab)))))) (fun _ _ _ _ _ => (pv 0))) zab)) zac (zak _))))))) zaq)
   (zaf (zaz (zal za4 (zan (ixT (K := K)) (pv 5) zac (fun _ _ => rfl)) zay (zak _)) (zaf (zat (i := 10) sc_law_leaf.nd rfl (Or.inl rfl) (zaw (zb7 rfl) rfl T.m_sum PyProof.Rows.boot_sum (zaa (zd1 (sc0 := zag zcb) (XN := ["_law_wood_here", "_law_prices_here", "_law_price_here", "_law_yes", "_law_no", "_law_tree", "_law_ties_here", "_law_free", "_law_tie", "_law_some", "_law_lower", "_law_good"]) (N' := ["_law_k", "_law_prices_here"]) (n := 1) (kp := [1]) rfl (piL (K := K) (pv 7)) rfl rfl (by decide +kernel) (fun _ _ _ _ _ => (za0 (i := 0) (by show List.Nodup (["_law_k", "_law_prices_here"] : List Str); decide +kernel) rfl (Or.inl rfl))) (fun _ _ _ _ _ => zdl) (fun _ _ _ _ _ => (zaw (zp9 rfl) rfl T.m_min PyProof.Rows.boot_min (zaa zac (zaa (zan (ixL (K := K)) (pv 1) (pv 0) (fun _ _ => rfl)) zab))))) zab)))
   (zah (zaj (zbf ziw (zau zbv (zad G_law_price hr.lv rfl T.K_law_price (zaa (pv 1) (zaa (pv 3) zab))) (pv 10)) (pv 2) (zak _))))) zaq)
   (zaf (zat (i := 11) sc_law_leaf.nd rfl (Or.inl rfl) (zcl (zbf za4 (zaw (zdd (K := K)) rfl T.m_len PySem.boot_len (zaa (pv 7) zab)) zac (zak _)) (zco (zaw (znd rfl) rfl T.m_all PyProof.Rows.boot_all (zaa (zd1 (sc0 := zag zcb) (XN := ["_law_wood_here", "_law_prices_here", "_law_price_here", "_law_yes", "_law_no", "_law_tree", "_law_ties_here", "_law_free", "_law_tie", "_law_some", "_law_lower", "_law_good"]) (N' := ["_law_tie", "_law_yes"]) (n := 1) (kp := [3]) rfl (piL (K := K) (pv 6)) rfl rfl (by decide +kernel) (fun _ _ _ _ _ => (za0 (i := 0) (by show List.Nodup (["_law_tie", "_law_yes"] : List Str); decide +kernel) rfl (Or.inl rfl))) (fun _ _ _ _ _ => zdl) (fun _ _ _ _ _ => (zad G_keeps hr.lv rfl T.K_keeps (zaa (pv 0) (zaa (pv 1) zab))))) zab)))))
   (zah (zaj (zcl (pv 11) (zco (zbf ziw (zad G_law_price hr.lv rfl T.K_law_price (zaa (pv 1) (zaa (pv 3) zab))) (pv 2) (zak _))))))))))), ?_⟩
 refine ⟨_, rfl, wd, m, ts, rfl, W, fun l1 xs H1 s1 nl1 hl1 dx => ?_⟩
 have lx : xs.length = ts.length := by rw [← dx.length, List.length_map]
 obtain ⟨tb1, tc1, hw1⟩ : ∃ tb1 tc1, H1 wd = some (.tup [.int (m : Int), tb1, tc1]) := by
  obtain ⟨_, _, ⟨tb, tc, hw, _, _⟩, _⟩ := (W.same s1).ex
  exact ⟨_, _, hw⟩
 refine ⟨_, rfl, wd, _, _, _, rfl, rfl, sqT hw1, at0, _, rfl, by rw [p62]; omega, by rw [p62]; omega, ?_⟩
 rw [Int.toNat_natCast]
 refine zqe (n := m) (fun k => !(y ||| n).testBit k) rfl (by omega) (fun k hk R' hR' => ⟨_, rfl, _, rfl, _, _, rfl, rfl, _, rfl, y ||| n, k, by show [V.int (Builtin.bitOr (y : Int) (n : Int)), V.int (k : Int)] = _; rw [zeb], by omega, _, rfl, hR'⟩) (fun lf nlf => ?_)
 have s5 := zai nlf (.lst (zav (zar m y n)))
 have g5 : L2.upd H1 lf (.lst (zav (zar m y n))) lf = some (.lst (zav (zar m y n))) := zae
 generalize hH5 : L2.upd H1 lf (.lst (zav (zar m y n))) = H5 at s5 g5
 have hH5' : L2.upd H1 lf (.lst (zav ((List.range m).filter fun k => !(y ||| n).testBit k))) = H5 := hH5
 rw [hH5']
 have s15 := s1.trans s5
 have hlp5 : H5 lp = some (.lst (ps.map V.int)) := s15 _ _ hlp
 have hl5 : H5 l1 = some (.lst xs) := s5 _ _ hl1
 have ol : (zar m y n).length ≤ m := by
  unfold zar
  exact Nat.le_trans (List.length_filter_le _ _) (by rw [List.length_range]; exact Nat.le_refl _)
 have d5 := Dn.same s15 _ _ dn
 cases t with
 | split k ta tb => exact il.elim
 | broken t =>
  obtain ⟨a1, zs, rfl, ha1, x0, r0', rfl, h0, x1, r1, rfl, h1, hn⟩ := zbo d5
  cases (show r1 = [] from hn)
  cases (show x1 = .int t from h1)
  cases (show x0 = .str ("broken" : Str) from h0)
  refine ⟨_, rfl, a1, _, _, _, rfl, rfl, sqT ha1, at0, rfl, _, rfl, ?_⟩
  refine zdv rfl ?_
  have qb : ∀ H', Same H H' → Q (.bl (brB ts t y n)) H' := q
  unfold brB at qb
  refine ⟨_, rfl, a1, _, _, _, rfl, rfl, sqT ha1, at1, _, _, rfl, rfl, _, rfl, ?_⟩
  by_cases c0 : t < 0
  ·refine zdj (decide_eq_true c0) ?_
   refine zdj rfl ?_
   have := qb H5 s15
   rw [decide_eq_false (by omega), Bool.false_and] at this
   exact this
  refine zb3 (decide_eq_false c0) ?_
  refine ⟨_, rfl, a1, _, _, _, rfl, rfl, sqT ha1, at1, _, rfl, l1, _, rfl, .inl (SqL.of hl5), _, _, rfl, rfl, _, rfl, ?_⟩
  by_cases c1 : t ≥ ((xs.length : Nat) : Int)
  ·refine zdj (decide_eq_true c1) ?_
   have := qb H5 s15
   rw [decide_eq_true (by omega), decide_eq_false (by omega), Bool.true_and, Bool.false_and] at this
   exact this
  refine zb3 (decide_eq_false c1) ?_
  obtain ⟨tn, rfl⟩ : ∃ tn : Nat, t = (tn : Int) := ⟨t.toNat, by omega⟩
  obtain ⟨x, hx⟩ : ∃ x, xs[tn]? = some x := ⟨_, List.getElem?_eq_getElem (by omega)⟩
  obtain ⟨t0, ht0, hd⟩ := zrh (DnL.same s5 _ _ dx) hx
  refine ⟨_, rfl, _, rfl, a1, _, _, _, rfl, rfl, sqT ha1, at1, l1, _, _, x, rfl, rfl, SqL.of hl5, zb9 hx, ?_⟩
  refine ⟨_, rfl, wd, _, _, _, rfl, rfl, sqT (s5 _ _ hw1), at0, _, rfl, _, rfl, m, y, n, rfl, m9, fun l6 H6 s6 hl6 => ?_⟩
  have fw := zln (y := y) (n := n) m
  have pm : 2 ^ m ≤ 512 := zub m9
  refine ⟨_, rfl, l6, rfl, ⟨_, SqL.of hl6⟩, ?_⟩
  refine zl1 (K := K) (fun s => t0.keep s) rfl hl6 (by omega) (fun s hs H7 s7 R hR => ⟨_, rfl, _, rfl, t0, m, s, x, rfl, Dn.same (s6.trans s7) _ _ hd, W.ok t0 (List.mem_of_getElem? ht0), by omega, fun H8 s8 => ⟨_, rfl, hR H8 (s7.trans s8)⟩⟩) (fun H7 l7 s7 nl7 => ?_)
  refine ⟨l7, _, rfl, .inl (SqL.of zae), rfl, ?_⟩
  have e : zgc ts tn y n = t0.sb y n := by unfold zgc; rw [ht0]
  have := qb _ ((s15.trans s6).trans (s7.trans (zai nl7 (.lst (zav ((stL y n m).filter fun s => t0.keep s))))))
  rw [decide_eq_true (by omega), decide_eq_true (by omega), Bool.true_and, Bool.true_and, Int.toNat_natCast, e, ← zt3 Sy (W.ok t0 (List.mem_of_getElem? ht0))] at this
  rw [zfi, List.length_map]
  exact this
 | leaf wo =>
  obtain ⟨a1, zs, rfl, ha1, x0, r0', rfl, h0, hn⟩ := zbo d5
  cases (show r0' = [] from hn)
  cases (show x0 = .str wo from h0)
  have qb : ∀ H', Same H H' → Q (.bl (za2 m ts ps p wo y n)) H' := q
  unfold za2 at qb
  refine ⟨_, rfl, a1, _, _, _, rfl, rfl, sqT ha1, at0, rfl, _, rfl, ?_⟩
  rcases dw with rfl | rfl
  ·refine zbn zh8 ?_
   refine ⟨_, rfl, a1, _, _, _, rfl, rfl, sqT ha1, at0, rfl, _, rfl, ?_⟩
   refine zdv rfl ?_
   rw [if_pos rfl] at qb
   refine ⟨_, rfl, lf, rfl, ⟨_, SqL.of g5⟩, ?_⟩
   refine zdp (K := K) (a := lf) (xs := zav (zar m y n)) (fun j ys σ H7 => (∃ v, σ = [v, some (.ref lp)]) ∧ H7 = H5 ∧ ys = (((zar m y n).take j).map fun k => min 0 (ps.getD k 0)).map V.int) ⟨⟨none, rfl⟩, rfl, rfl⟩ (fun j ys σ H7 hj pv => ?_) (fun j ys σ H7 hj pv => ?_) (fun j x ys σ H7 hx pv => ?_) (fun ys σ H7 pv lg nlg => ?_)
   ·obtain ⟨_, _, rfl⟩ := pv
    rw [List.length_map, List.length_map, List.length_take]
    exact small (by omega)
   ·rw [pv.2.1]
    exact SqL.of g5
   ·obtain ⟨⟨v0, rfl⟩, rfl, rfl⟩ := pv
    rw [List.getElem?_map] at hx
    obtain ⟨k, hk, rfl⟩ := Option.map_eq_some_iff.mp hx
    have km := (mem_open.mp (List.mem_of_getElem? hk)).1
    have pk : ps[k]? = some ps[k] := List.getElem?_eq_getElem (by omega)
    refine ⟨_, rfl, _, rfl, lp, _, _, .int ps[k], rfl, rfl, SqL.of hlp5, zb9 (by rw [List.getElem?_map, pk]; rfl), 0, ps[k], rfl, ⟨_, rfl⟩, rfl, ?_⟩
    rw [zdz hk, List.map_append]
    show _ = _ ++ [V.int (min 0 (ps.getD k 0))]
    rw [List.getD_eq_getElem?_getD, pk]
    show _ ++ [V.int (if ps[k] < 0 then ps[k] else 0)] = _ ++ [V.int (min 0 ps[k])]
    rw [show (if ps[k] < 0 then ps[k] else 0) = min 0 ps[k] by split <;> omega]
   obtain ⟨_, rfl, rfl⟩ := pv
   rw [show (zav (zar m y n)).length = (zar m y n).length from List.length_map _, List.take_length]
   have s7 := zai nlg (.lst (((zar m y n).map fun k => min 0 (ps.getD k 0)).map V.int))
   have g7 : L2.upd H7 lg (.lst (((zar m y n).map fun k => min 0 (ps.getD k 0)).map V.int)) lg = some (.lst (((zar m y n).map fun k => min 0 (ps.getD k 0)).map V.int)) := zae
   generalize L2.upd H7 lg (.lst (((zar m y n).map fun k => min 0 (ps.getD k 0)).map V.int)) = H8 at s7 g7 ⊢
   refine ⟨lg, _, rfl, SqL.of g7, ?_⟩
   refine ⟨_, rfl, _, rfl, lp, ps, y, rfl, s7 _ _ hlp5, by omega, fun H9 s9 => ?_⟩
   refine ⟨_, rfl, _, _, rfl, rfl, _, rfl, ?_⟩
   dsimp only
   rw [zph Sy lm]
   exact ⟨_, _, rfl, rfl, qb H9 ((s15.trans s7).trans s9)⟩
  ·refine zbn zhz ?_
   refine ⟨_, rfl, a1, _, _, _, rfl, rfl, sqT ha1, at0, rfl, _, rfl, ?_⟩
   refine zbn zf8 ?_
   rw [if_neg zf8] at qb
   unfold zcc zd3 at qb
   rw [decide_eq_true rfl, Bool.true_and, y0, Bool.true_and] at qb
   refine ⟨_, rfl, lf, _, rfl, .inl (SqL.of g5), rfl, _, rfl, ?_⟩
   rw [zfi, List.length_map]
   by_cases c : zar m y n = []
   ·refine zdv (by rw [c]; rfl) ?_
    rw [decide_eq_true c, Bool.true_and] at qb
    refine ⟨_, rfl, l1, rfl, ⟨_, SqL.of hl5⟩, ?_⟩
    refine zdp (K := K) (a := l1) (xs := xs) (fun j ys σ H7 => (∃ v, σ = [v, some (.int (y : Int))]) ∧ Same H5 H7 ∧ ys = ((ts.take j).map fun t => t.keep y).map V.bl) ⟨⟨none, rfl⟩, Same.refl _, rfl⟩ (fun j ys σ H7 hj pv => ?_) (fun j ys σ H7 hj pv => ?_) (fun j x ys σ H7 hx pv => ?_) (fun ys σ H7 pv lg nlg => ?_)
    ·obtain ⟨_, _, rfl⟩ := pv
     rw [List.length_map, List.length_map, List.length_take]
     exact small (by omega)
    ·exact SqL.of (pv.2.1 _ _ hl5)
    ·obtain ⟨⟨v0, rfl⟩, s7, rfl⟩ := pv
     obtain ⟨t0, ht0, hd⟩ := zrh (DnL.same (s5.trans s7) _ _ dx) hx
     refine ⟨_, rfl, _, rfl, t0, m, y, x, rfl, hd, W.ok t0 (List.mem_of_getElem? ht0), by omega, fun H8 s8 => ⟨⟨_, rfl⟩, s7.trans s8, ?_⟩⟩
     rw [zdz ht0, List.map_append]
     rfl
    obtain ⟨_, s7, rfl⟩ := pv
    rw [lx, List.take_length]
    have s8 := zai nlg (.lst ((ts.map fun t => t.keep y).map V.bl))
    have g8 : L2.upd H7 lg (.lst ((ts.map fun t => t.keep y).map V.bl)) lg = some (.lst ((ts.map fun t => t.keep y).map V.bl)) := zae
    generalize L2.upd H7 lg (.lst ((ts.map fun t => t.keep y).map V.bl)) = H8 at s8 g8 ⊢
    refine ⟨lg, _, rfl, SqL.of g8, ?_⟩
    have ea : (ts.map fun t => t.keep y).all id = ts.all fun t => t.keep y := by
     rw [List.all_map]
     rfl
    rw [ea]
    have s58 := s7.trans s8
    refine ⟨_, rfl, _, rfl, ?_⟩
    cases c2 : ts.all fun t => t.keep y with
    | false =>
     refine zb3 rfl ?_
     have := qb H8 (s15.trans s58)
     rw [c2, Bool.false_and] at this
     exact this
    | true =>
     refine zdj rfl ?_
     refine ⟨_, rfl, _, rfl, lp, ps, y, rfl, s58 _ _ hlp5, by omega, fun H9 s9 => ?_⟩
     have := qb H9 ((s15.trans s58).trans s9)
     rw [c2, Bool.true_and, zf0 (by rw [lm]; exact Sy.ym)] at this
     exact ⟨_, rfl, _, _, rfl, rfl, this⟩
   ·refine zbn (fun z => c (List.length_eq_zero_iff.mp z)) ?_
    rw [decide_eq_false c, Bool.false_and, Bool.false_and] at qb
    refine ⟨_, rfl, _, rfl, ?_⟩
    refine zb3 rfl ?_
    exact qb H5 s15
end
section
variable {P : Program} {w : World} {K : PySem.W.Frag} {mg : Str → Option Value} {base : Heap} {a : Adr} {d : Fds}
theorem zns (T : Txt K mg a d) : FnOk P w K mg base CX0 6 a.f_law_due d.f_law_due ["_law_wood_here", "_law_prices_here", "_law_price_here", "_law_tree"] zt5 := by
 have G_law_leaf := zmi (P := P) (w := w) (base := base) T
 have G_law_has := zer (P := P) (w := w) (base := base) T
 refine T.K_law_due.ok sc_law_due (fun vs H Q E h => ?_) (fun cdv A outer s H vs Q E hr h => ?_)
 ·obtain ⟨wd, lp, m, ts, ps, p, t, v, rfl, _⟩ := h
  rfl
 obtain ⟨wd, lp, m, ts, ps, p, t0, v, rfl, W, m1, m9, hlp, lm, dn, dw, dp, q⟩ := h
 refine ⟨_, (zaf (zat (i := 4) sc_law_due.nd rfl (Or.inl rfl) (zbz (zaa (za8 (zaa zac (zaa zac (zaa (pv 3) zab)))) zab)))
   (zaf (zqy PassesOwn.never (zal zg1 (zaw (zdd (K := K)) rfl T.m_len PySem.boot_len (zaa (pv 4) zab)) zac (zak _)) (zaf (zn4 (zof (K := K) PySem.F.plainAttrs_list PySem.F.slot_list_pop PySem.F.type_list_pop zuu (pv 4)) (pgT (K := K) (n := 3) rfl (zb1 (za0 (i := 5) sc_law_due.nd rfl (Or.inl rfl)) (zb1 (za0 (i := 6) sc_law_due.nd rfl (Or.inl rfl)) (zb1 (za0 (i := 7) sc_law_due.nd rfl (Or.inl rfl)) zgw)))))
   (zah (zaz (zal zoo (zan (ixT (K := K)) (pv 7) zac (fun _ _ => rfl)) zay (zak _)) (zah (zaz (ze0 (zbu (zad G_law_leaf hr.lv rfl T.K_law_leaf (zaa (pv 0) (zaa (pv 1) (zaa (pv 2) (zaa (pv 5) (zaa (pv 6) (zaa (pv 7) zab))))))))) (zah (zaj ze8)) zaq)) (zaf (zat (i := 8) sc_law_due.nd rfl (Or.inl rfl) (zan (ixT (K := K)) (pv 7) zac (fun _ _ => rfl)))
   (zaf (zaz (PW.pt (zhx (zal zf9 (pv 8) zac (zak _)) (zhx (zal ziw (pv 8) (zan (ixT (K := K)) (pv 0) zac (fun _ _ => rfl)) (zak _)) (zhg (zbu (zad G_law_has hr.lv rfl T.K_law_has (zaa (zau zh1 (pv 5) (pv 6)) (zaa (pv 8) zab)))))))) (zah (zaj ze8)) zaq)
   (zaf (zfz (zhq (K := K) PySem.F.plainAttrs_list PySem.F.slot_list_append PySem.F.type_list_append zd0 (pv 4) (zaa (za8 (zaa (zau zh1 (pv 5) (zau zji zac (pv 8))) (zaa (pv 6) (zaa (zan (ixT (K := K)) (pv 7) zac (fun _ _ => rfl)) zab)))) zab)))
   (zah (zfz (zhq (K := K) PySem.F.plainAttrs_list PySem.F.slot_list_append PySem.F.type_list_append zd0 (pv 4) (zaa (za8 (zaa (pv 5) (zaa (zau zh1 (pv 6) (zau zji zac (pv 8))) (zaa (zan (ixT (K := K)) (pv 7) zac (fun _ _ => rfl)) zab)))) zab)))))))))))
   (zah (zaj ze8)))), ?_⟩
 refine ⟨_, rfl, small (by show 3 ≤ 1000; decide), fun q0 nq0 => ?_⟩
 have s1 := zai nq0 (.tup [.int 1, .int 0, v])
 have g1 : L2.upd H q0 (.tup [.int 1, .int 0, v]) q0 = some (.tup [.int 1, .int 0, v]) := zae
 generalize L2.upd H q0 (.tup [.int 1, .int 0, v]) = H1 at s1 g1 ⊢
 refine ⟨small (by show 1 ≤ 1000; decide), fun wl nwl => ?_⟩
 have s2 := zai nwl (.lst [.ref q0])
 have g2 : L2.upd H1 wl (.lst [.ref q0]) wl = some (.lst [.ref q0]) := zae
 have nw : H wl = none := s1.free nwl
 generalize L2.upd H1 wl (.lst [.ref q0]) = H2 at s2 g2 ⊢
 have s12 := s1.trans s2
 have wait0 : zd5 [(1, 0, t0)] ≤ 500000 := by
  have h := t0.size_le
  have h2 : 2 ^ (t0.depth + 1) ≤ 2 ^ 18 := Nat.pow_le_pow_right (by decide) (by omega)
  have h3 : (2 : Nat) ^ 18 = 262144 := by decide
  show t0.size + 0 ≤ 500000
  omega
 have one : isT ts m (za2 m ts ps p) t0 1 0 = zkh m ts ps p [(1, 0, t0)] := by
  show _ = (_ && true)
  rw [Bool.and_true]
 refine ⟨fun μ σ Hx => ∃ (xs : List V) (S : List TS3) (o5 o6 o7 o8 : Option V), σ = [some (.ref wd), some (.ref lp), some (.int p), some v, some (.ref wl), o5, o6, o7, o8] ∧ SameX wl H2 Hx ∧ Hx wl = some (.lst xs) ∧ EntT m Hx xs.reverse S ∧ μ = zd5 S ∧ μ ≤ 500000 ∧ isT ts m (za2 m ts ps p) t0 1 0 = zkh m ts ps p S, ⟨_, [.ref q0], [(1, 0, t0)], none, none, none, none, rfl, SameX.refl _ _, g2, ⟨⟨q0, v, rfl, s2 _ _ g1, Dn.same s12 _ _ dn, dw, zfg m1, (by show (1 : Nat).testBit 0 = true; decide)⟩, trivial⟩, rfl, wait0, one⟩, ?_⟩
 rintro μ σ Hx ⟨xs, S, o5, o6, o7, o8, rfl, sx, hwl, en, rfl, w20, ev⟩
 refine ⟨_, rfl, wl, _, rfl, .inl (SqL.of hwl), _, _, rfl, rfl, _, rfl, ?_⟩
 cases S with
 | nil =>
  have ex : xs = [] := List.reverse_eq_nil_iff.mp en.nil
  subst ex
  refine zb3 rfl ?_
  have := q _ (SameX.fresh s12 nw g2 sx)
  rw [ev] at this
  exact this
 | cons e S =>
  obtain ⟨y, n, t⟩ := e
  obtain ⟨x, r, ex, ⟨q1, v1, rfl, hq1, dt, dwt, Sy, y0⟩, en'⟩ := en.top
  obtain ⟨lst, drp, xl⟩ := zq9 ex
  have sl := zkb ((y, n, t) :: S)
  have rl := en'.len
  rw [List.length_cons] at sl
  have wS : zd5 ((y, n, t) :: S) = t.size + zd5 S := by
   unfold zd5
   rw [List.map_cons, List.sum_cons]
  have evc : isT ts m (za2 m ts ps p) t0 1 0 = (isT ts m (za2 m ts ps p) t y n && zkh m ts ps p S) := by
   rw [ev]
   rfl
  refine zdj (decide_eq_true (by show (0 : Int) < (xs.length : Int); omega)) ?_
  refine ⟨fun σ' H' => ∃ m', m' < zd5 ((y, n, t) :: S) ∧ ∃ (xs : List V) (S : List TS3) (o5 o6 o7 o8 : Option V), σ' = [some (.ref wd), some (.ref lp), some (.int p), some v, some (.ref wl), o5, o6, o7, o8] ∧ SameX wl H2 H' ∧ H' wl = some (.lst xs) ∧ EntT m H' xs.reverse S ∧ m' = zd5 S ∧ m' ≤ 500000 ∧ isT ts m (za2 m ts ps p) t0 1 0 = zkh m ts ps p S, fun σ' H' h => h, ?_⟩
  refine ⟨_, rfl, .inl ⟨rfl, _, SqL.of hwl⟩, wl, xs, _, rfl, rfl, hwl, lst, ?_⟩
  have x3 := zam (pen := wl) (H := Hx) (.lst xs.dropLast)
  have g3 : L2.upd Hx wl (.lst xs.dropLast) wl = some (.lst xs.dropLast) := zae
  generalize L2.upd Hx wl (.lst xs.dropLast) = H3 at x3 g3 ⊢
  have t3 := SameX.tup hwl x3
  have sx3 := sx.trans x3
  have hq3 := t3 _ _ hq1
  have d3 := WT.tupA t3 (zbm _ dwt) dt
  have en3 := en'.to t3
  refine ⟨q1, _, rfl, sqT hq3, rfl, _, _, rfl, _, _, rfl, _, _, rfl, rfl, ?_⟩
  have sH3 := SameX.fresh s12 nw g2 sx3
  have W3 := W.same sH3
  have hlp3 : H3 lp = some (.lst (ps.map V.int)) := sH3 _ _ hlp
  by_cases hl : t.isLeaf
  ·obtain ⟨a1, w1, r1, rfl, ha1, nsp⟩ := leaf_at hl dwt d3
   obtain ⟨e1, sz⟩ := zqf (m := m) (ts := ts) (ps := ps) (p := p) (y := y) (n := n) hl
   refine ⟨_, rfl, a1, _, _, _, rfl, rfl, sqT ha1, at0, rfl, _, rfl, ?_⟩
   refine zoe nsp ?_
   refine ⟨_, rfl, _, rfl, _, rfl, _, rfl, _, rfl, _, rfl, wd, lp, m, ts, ps, p, y, n, t, _, rfl, W3, m9, hlp3, lm, d3, dwt, hl, Sy, y0, fun H4 s4 => ?_⟩
   rw [e1]
   refine ⟨_, rfl, ?_⟩
   cases c : isT ts m (za2 m ts ps p) t y n with
   | false =>
    refine zdj rfl ?_
    have := q H4 (sH3.trans s4)
    rw [evc, c, Bool.false_and] at this
    exact this
   | true =>
    refine zb3 rfl ?_
    rw [c, Bool.true_and] at evc
    refine ⟨_, (by omega : zd5 S < _), xs.dropLast, S, _, _, _, _, rfl, sx3.trans (Same.x (pen := wl) s4), s4 _ _ g3, ?_, rfl, by omega, evc⟩
    rw [drp]
    exact en3.to (Same.tup s4)
  ·obtain ⟨k, ta, tb, rfl⟩ := zqs hl
   obtain ⟨a1, zs, rfl, ha1, x0, r0', rfl, h0, x1, r1, rfl, h1, va, r2, rfl, da, vb, r3, rfl, db, hn⟩ := zbo d3
   cases (show r3 = [] from hn)
   cases (show x1 = .int k from h1)
   cases (show x0 = .str ("split" : Str) from h0)
   refine ⟨_, rfl, a1, _, _, _, rfl, rfl, sqT ha1, at0, rfl, _, rfl, ?_⟩
   refine zmf rfl ?_
   refine ⟨_, rfl, a1, _, _, _, rfl, rfl, sqT ha1, at1, ?_⟩
   have no : ¬ (0 ≤ k ∧ k.toNat ∈ zar m y n) → Q (.bl false) H3 := fun z => by
    have := q H3 sH3
    rw [evc] at this
    unfold isT at this
    rw [if_neg z, Bool.false_and] at this
    exact this
   refine ⟨_, rfl, _, _, rfl, rfl, _, rfl, ?_⟩
   by_cases c0 : k < 0
   ·refine zdj (decide_eq_true c0) ?_
    refine zdj rfl ?_
    exact no fun z => by omega
   refine zb3 (decide_eq_false c0) ?_
   obtain ⟨kn, rfl⟩ : ∃ kn : Nat, k = (kn : Int) := ⟨k.toNat, by omega⟩
   rw [Int.toNat_natCast] at no
   obtain ⟨tb1, tc1, hw3⟩ : ∃ tb1 tc1, H3 wd = some (.tup [.int (m : Int), tb1, tc1]) := by
    obtain ⟨_, _, ⟨tb, tc, hw, _, _⟩, _⟩ := W3.ex
    exact ⟨_, _, hw⟩
   refine ⟨_, rfl, _, rfl, wd, _, _, _, rfl, rfl, sqT hw3, at0, _, _, rfl, rfl, _, rfl, ?_⟩
   by_cases c1 : kn < m
   ·refine zb3 (decide_eq_false (by omega)) ?_
    refine ⟨_, rfl, _, rfl, _, _, rfl, rfl, _, rfl, y ||| n, kn, by show [V.int (Builtin.bitOr (y : Int) (n : Int)), V.int (kn : Int)] = _; rw [zeb], by omega, _, rfl, ?_⟩
    cases c2 : (y ||| n).testBit kn with
    | true =>
     refine zdj rfl ?_
     refine no fun z => ?_
     obtain ⟨_, z1, z2⟩ := mem_open.mp z.2
     rw [Nat.testBit_or, z1, z2] at c2
     cases c2
    | false =>
     refine zb3 rfl ?_
     rw [Nat.testBit_or, Bool.or_eq_false_iff] at c2
     have hk : kn ∈ zar m y n := mem_open.mpr ⟨c1, c2.1, c2.2⟩
     have xdl : xs.dropLast.length = r.length := by rw [← drp, List.length_reverse]
     have eor : ∀ z : Nat, Builtin.bitOr (z : Int) (1 * 2 ^ ((kn : Nat) : Int).toNat) = ((z ||| 2 ^ kn : Nat) : Int) := fun z => by rw [zq5, zeb]
     have w3 : zd5 ((y, n ||| 2 ^ kn, tb) :: (y ||| 2 ^ kn, n, ta) :: S) < zd5 ((y, n, WT.split (kn : Int) ta tb) :: S) := by
      unfold zd5
      rw [List.map_cons, List.map_cons, List.map_cons, List.sum_cons, List.sum_cons, List.sum_cons]
      show tb.size + (ta.size + _) < ta.size + tb.size + 1 + _
      omega
     have evs : isT ts m (za2 m ts ps p) t0 1 0 = zkh m ts ps p ((y, n ||| 2 ^ kn, tb) :: (y ||| 2 ^ kn, n, ta) :: S) := by
      rw [evc]
      show ((if 0 ≤ (kn : Int) ∧ (kn : Int).toNat ∈ zar m y n then _ else _) && _) = (isT ts m (za2 m ts ps p) tb y (n ||| 2 ^ kn) && (isT ts m (za2 m ts ps p) ta (y ||| 2 ^ kn) n && zkh m ts ps p S))
      rw [Int.toNat_natCast, if_pos ⟨by omega, hk⟩]
      cases isT ts m (za2 m ts ps p) ta (y ||| 2 ^ kn) n <;> cases isT ts m (za2 m ts ps p) tb y (n ||| 2 ^ kn) <;> rfl
     refine ⟨_, rfl, .inl ⟨rfl, _, SqL.of g3⟩, ?_⟩
     refine ⟨_, rfl, _, rfl, _, _, rfl, rfl, ⟨by omega, by omega, by decide⟩, _, _, rfl, rfl, _, rfl, _, rfl, a1, _, _, _, rfl, rfl, sqT ha1, at2, small (by show 3 ≤ 1000; decide), fun p1 np1 => ?_⟩
     dsimp only at np1 ⊢
     rw [eor y]
     have s11 := zai np1 (.tup [.int ((y ||| 2 ^ kn : Nat) : Int), .int (n : Int), va])
     have g11 : L2.upd H3 p1 (.tup [.int ((y ||| 2 ^ kn : Nat) : Int), .int (n : Int), va]) p1 = some (.tup [.int ((y ||| 2 ^ kn : Nat) : Int), .int (n : Int), va]) := zae
     generalize L2.upd H3 p1 (.tup [.int ((y ||| 2 ^ kn : Nat) : Int), .int (n : Int), va]) = H11 at s11 g11 ⊢
     have g11w : H11 wl = some (.lst xs.dropLast) := s11 _ _ g3
     refine ⟨wl, _, _, rfl, rfl, g11w, zol (by omega), ?_⟩
     have x12 := zam (pen := wl) (H := H11) (.lst (xs.dropLast ++ [.ref p1]))
     have g12 : L2.upd H11 wl (.lst (xs.dropLast ++ [.ref p1])) wl = some (.lst (xs.dropLast ++ [.ref p1])) := zae
     have t12 := SameX.tup g11w x12
     generalize L2.upd H11 wl (.lst (xs.dropLast ++ [.ref p1])) = H12 at x12 g12 t12 ⊢
     have hd12 := t12 _ _ (s11 _ _ ha1)
     refine ⟨_, rfl, .inl ⟨rfl, _, SqL.of g12⟩, ?_⟩
     refine ⟨_, rfl, _, rfl, _, rfl, _, _, rfl, rfl, ⟨by omega, by omega, by decide⟩, _, _, rfl, rfl, _, rfl, a1, _, _, _, rfl, rfl, sqT hd12, at3, small (by show 3 ≤ 1000; decide), fun p2 np2 => ?_⟩
     dsimp only at np2 ⊢
     rw [eor n]
     have s13 := zai np2 (.tup [.int (y : Int), .int ((n ||| 2 ^ kn : Nat) : Int), vb])
     have g13 : L2.upd H12 p2 (.tup [.int (y : Int), .int ((n ||| 2 ^ kn : Nat) : Int), vb]) p2 = some (.tup [.int (y : Int), .int ((n ||| 2 ^ kn : Nat) : Int), vb]) := zae
     generalize L2.upd H12 p2 (.tup [.int (y : Int), .int ((n ||| 2 ^ kn : Nat) : Int), vb]) = H13 at s13 g13 ⊢
     have g13w : H13 wl = some (.lst (xs.dropLast ++ [.ref p1])) := s13 _ _ g12
     refine ⟨wl, _, _, rfl, rfl, g13w, zol (by rw [List.length_append, List.length_singleton]; omega), ?_⟩
     have x14 := zam (pen := wl) (H := H13) (.lst (xs.dropLast ++ [.ref p1] ++ [.ref p2]))
     have g14 : L2.upd H13 wl (.lst (xs.dropLast ++ [.ref p1] ++ [.ref p2])) wl = some (.lst (xs.dropLast ++ [.ref p1] ++ [.ref p2])) := zae
     have t14 := SameX.tup g13w x14
     generalize L2.upd H13 wl (.lst (xs.dropLast ++ [.ref p1] ++ [.ref p2])) = H14 at x14 g14 t14 ⊢
     have t1114 := zb5 t12 (zb5 (Same.tup s13) t14)
     have t314 := zb5 (Same.tup s11) t1114
     refine ⟨_, w3, _, (y, n ||| 2 ^ kn, tb) :: (y ||| 2 ^ kn, n, ta) :: S, _, _, _, _, rfl, (sx3.trans (Same.x (pen := wl) s11)).trans ((x12.trans (Same.x (pen := wl) s13)).trans x14), g14, ?_, rfl, by omega, evs⟩
     rw [List.reverse_append, List.reverse_append, drp]
     refine ⟨⟨p2, vb, rfl, t14 _ _ g13, WT.tupA t314 (zbm _ dwt.2) db, dwt.2, Sy.other hk, y0⟩, ⟨p1, va, rfl, t1114 _ _ g11, WT.tupA t314 (zbm _ dwt.1) da, dwt.1, Sy.one hk, ?_⟩, en3.to t314⟩
     show (y ||| 2 ^ kn).testBit 0 = true
     rw [Nat.testBit_or, y0, Bool.true_or]
   ·refine zdj (decide_eq_true (by omega)) ?_
    exact no fun z => c1 (mem_open.mp z.2).1
end
section
variable {P : Program} {w : World} {K : PySem.W.Frag} {mg : Str → Option Value} {base : Heap} {a : Adr} {d : Fds}
theorem zff (T : Txt K mg a d) (f : Nat) (G_law_drawn : f ≠ 0 → FnOk P w K mg base CX0 (f + 2) a.f_law_drawn d.f_law_drawn ["_law_state", "_law_many", "_law_deep"] (zjr K f)) : FnOk P w K mg base CX0 (f + 3) a.f_law_drawn d.f_law_drawn ["_law_state", "_law_many", "_law_deep"] (zjr K (f + 1)) := by
 have G_law_take := zbi (P := P) (w := w) (base := base) T
 refine T.K_law_drawn.ok sc_law_drawn (fun vs H Q E h => ?_) (fun cdv A outer s H vs Q E hr h => ?_)
 ·obtain ⟨pen, sp, ns, m, deep, k, rfl, _⟩ := h
  rfl
 obtain ⟨pen, sp, ns, m, deep, k, rfl, pn, k0, k1, m9, d9, df, q⟩ := h
 have pd := Nat.two_pow_pos deep
 have rest : ∃ t, PSs (zcj CX0 P w K mg base ["_law_state", "_law_many", "_law_deep", "_law_way", "_law_one"] "_law_drawn" (zag zc1) a.f_law_drawn cdv A outer s H E).nox ((za3 zc1).drop 2) t ∧ ∀ (wy : Int) (o4 : Option V) (H1 : Hp), 0 ≤ wy → wy < 8 → SameX pen H H1 → H1 pen = some (.lst [.ref sp, .int (k + 1)]) → t { nx := fun _ H' => Q .non H', rt := Q } [some (.ref pen), some (.int (m : Int)), some (.int (deep : Int)), some (.int wy), o4] H1 := by
  refine ⟨_, (zaf (zaz (zal zf9 (pv 3) zac (zak _)) (zah (zaj (za8 (zaa zay (zaa (zad G_law_take hr.lv rfl T.K_law_take (zaa (pv 0) (zaa zac zab))) zab))))) zaq)
   (zah (zaj (zan (ixL (K := K)) (zbz (zaa (za8 (zaa zay zab)) (zaa (za8 (zaa zay zab)) zab))) (zau ze5 (pv 3) zac) (fun _ _ => rfl))))), ?_⟩
  intro wy o4 H1 w0 w8 x1 hp1
  refine ⟨_, rfl, _, _, rfl, rfl, _, rfl, ?_⟩
  refine zbl (fun _ => ?_) (fun _ => ?_)
  ·refine ⟨_, rfl, pen, sp, ns, 9, k + 1, rfl, pn.to x1 hp1, by omega, by omega, by decide, fun y y0 y1 => ?_⟩
   have x2 := x1.trans (zam (pen := pen) (H := H1) (.lst [.ref sp, .int (k + 1 + 1)]))
   have hp2 : L2.upd H1 pen (.lst [.ref sp, .int (k + 1 + 1)]) pen = some (.lst [.ref sp, .int (k + 1 + 1)]) := zae
   generalize L2.upd H1 pen (.lst [.ref sp, .int (k + 1 + 1)]) = H2 at x2 hp2 ⊢
   refine ⟨small (by show 2 ≤ 1000; decide), fun tp htp => ?_⟩
   have s3 := zai htp (.tup [.str ("broken" : Str), .int y])
   exact q (.broken y) _ (k + 1 + 1) _ (x2.trans (Same.x s3)) (s3 _ _ hp2) (by omega) (by omega) (zhe zae) trivial (Nat.zero_le _)
  ·refine ⟨small (by show 1 ≤ 1000; decide), fun ta nta => ?_⟩
   have s2 := zai nta (.tup [.str ("dear" : Str)])
   have g2 : L2.upd H1 ta (.tup [.str ("dear" : Str)]) ta = some (.tup [.str ("dear" : Str)]) := zae
   generalize L2.upd H1 ta (.tup [.str ("dear" : Str)]) = H2 at s2 g2 ⊢
   refine ⟨small (by show 1 ≤ 1000; decide), fun tb ntb => ?_⟩
   have s3 := zai ntb (.tup [.str ("ware" : Str)])
   have g3 : L2.upd H2 tb (.tup [.str ("ware" : Str)]) tb = some (.tup [.str ("ware" : Str)]) := zae
   generalize L2.upd H2 tb (.tup [.str ("ware" : Str)]) = H3 at s3 g3 ⊢
   refine ⟨small (by show 2 ≤ 1000; decide), fun lt nlt => ?_⟩
   have s4 := zai nlt (.lst [.ref ta, .ref tb])
   have g4 : L2.upd H3 lt (.lst [.ref ta, .ref tb]) lt = some (.lst [.ref ta, .ref tb]) := zae
   generalize L2.upd H3 lt (.lst [.ref ta, .ref tb]) = H4 at s4 g4 ⊢
   have x4 := x1.trans (Same.x (pen := pen) ((s2.trans s3).trans s4))
   have hp4 : H4 pen = some (.lst [.ref sp, .int (k + 1)]) := ((s2.trans s3).trans s4) _ _ hp1
   refine ⟨_, rfl, _, _, rfl, rfl, (by show (0 : Int) < 2; decide), ?_⟩
   have w2 : wy % 2 = 0 ∨ wy % 2 = 1 := by omega
   rcases w2 with e | e
   ·refine ⟨lt, _, _, .ref ta, rfl, rfl, SqL.of g4, (by show atI [V.ref ta, V.ref tb] (wy % 2) = _; rw [e]; rfl), ?_⟩
    exact q (.leaf ("dear" : Str)) _ (k + 1) _ x4 hp4 (by omega) (by omega) (zig ((s3.trans s4) _ _ g2)) (.inl rfl) (Nat.zero_le _)
   ·refine ⟨lt, _, _, .ref tb, rfl, rfl, SqL.of g4, (by show atI [V.ref ta, V.ref tb] (wy % 2) = _; rw [e]; rfl), ?_⟩
    exact q (.leaf ("ware" : Str)) _ (k + 1) _ x4 hp4 (by omega) (by omega) (zig (s4 _ _ g3)) (.inr rfl) (Nat.zero_le _)
 obtain ⟨t2, h2, r2⟩ := rest
 by_cases f0 : f = 0
 ·have G_law_drawn : FnOk P w K mg base CX0 1 a.f_law_drawn d.f_law_drawn ["_law_state", "_law_many", "_law_deep"] (fun _ _ _ _ => False) := ⟨fun _ _ _ _ z => z.elim, fun _ _ _ _ _ _ _ _ _ _ _ _ _ z => z.elim⟩
  refine ⟨_, (zaf (zat (i := 3) sc_law_drawn.nd rfl (Or.inl rfl) (zad G_law_take hr.lv rfl T.K_law_take (zaa (pv 0) (zaa zac zab))))
   (zaf (zaz (PW.pt (zgb (zal zf9 (pv 3) zac (zak _)) (zeu (zal zg1 (pv 2) zac (zak _))))) (zaf (zat (i := 4) sc_law_drawn.nd rfl (Or.inl rfl) (zad G_law_drawn hr.lv rfl T.K_law_drawn (zaa (pv 0) (zaa (pv 1) (zaa (zau zbw (pv 2) zac) zab)))))
   (zah (zaj (za8 (zaa zay (zaa (zad G_law_take hr.lv rfl T.K_law_take (zaa (pv 0) (zaa (zau zbv (pv 1) zac) zab))) (zaa (pv 4) (zaa (zad G_law_drawn hr.lv rfl T.K_law_drawn (zaa (pv 0) (zaa (pv 1) (zaa (zau zbw (pv 2) zac) zab)))) zab)))))))) zaq)
   h2)), ?_⟩
  refine ⟨_, rfl, pen, sp, ns, 8, k, rfl, pn, k0, by omega, by decide, fun wy w0 w8 => ?_⟩
  have x1 := zam (pen := pen) (H := H) (.lst [.ref sp, .int (k + 1)])
  refine ⟨_, rfl, _, _, rfl, rfl, _, rfl, ?_⟩
  refine zbl (fun _ => ?_) (fun _ => ?_)
  ·refine ⟨_, rfl, _, _, rfl, rfl, _, rfl, ?_⟩
   refine zb3 (decide_eq_false (by omega)) ?_
   exact r2 wy _ _ w0 w8 x1 zae
  ·refine zib ?_
   exact r2 wy _ _ w0 w8 x1 zae
 ·have G_law_drawn := G_law_drawn f0
  refine ⟨_, (zaf (zat (i := 3) sc_law_drawn.nd rfl (Or.inl rfl) (zad G_law_take hr.lv rfl T.K_law_take (zaa (pv 0) (zaa zac zab))))
   (zaf (zaz (PW.pt (zgb (zal zf9 (pv 3) zac (zak _)) (zeu (zal zg1 (pv 2) zac (zak _))))) (zaf (zat (i := 4) sc_law_drawn.nd rfl (Or.inl rfl) (zad G_law_drawn hr.lv rfl T.K_law_drawn (zaa (pv 0) (zaa (pv 1) (zaa (zau zbw (pv 2) zac) zab)))))
   (zah (zaj (za8 (zaa zay (zaa (zad G_law_take hr.lv rfl T.K_law_take (zaa (pv 0) (zaa (zau zbv (pv 1) zac) zab))) (zaa (pv 4) (zaa (zad G_law_drawn hr.lv rfl T.K_law_drawn (zaa (pv 0) (zaa (pv 1) (zaa (zau zbw (pv 2) zac) zab)))) zab)))))))) zaq)
   h2)), ?_⟩
  refine ⟨_, rfl, pen, sp, ns, 8, k, rfl, pn, k0, by omega, by decide, fun wy w0 w8 => ?_⟩
  have x1 := zam (pen := pen) (H := H) (.lst [.ref sp, .int (k + 1)])
  have hp1 : L2.upd H pen (.lst [.ref sp, .int (k + 1)]) pen = some (.lst [.ref sp, .int (k + 1)]) := zae
  generalize L2.upd H pen (.lst [.ref sp, .int (k + 1)]) = H1 at x1 hp1 ⊢
  refine ⟨_, rfl, _, _, rfl, rfl, _, rfl, ?_⟩
  refine zbl (fun _ => ?_) (fun _ => ?_)
  ·refine ⟨_, rfl, _, _, rfl, rfl, _, rfl, ?_⟩
   by_cases c : (0 : Int) < (deep : Int)
   ·refine zdj (decide_eq_true c) ?_
    obtain ⟨dd, rfl⟩ : ∃ dd, deep = dd + 1 := ⟨deep - 1, by omega⟩
    have ed : (((dd + 1 : Nat) : Int) - 1) = (dd : Int) := by omega
    have pd2 : ((2 ^ (dd + 1) : Nat) : Int) = 2 * ((2 ^ dd : Nat) : Int) := by rw [Nat.pow_succ]; push_cast; omega
    have pdd := Nat.two_pow_pos dd
    have pd9 : 2 ^ dd ≤ 2 ^ 8 := Nat.pow_le_pow_right (by decide) (by omega)
    have p8 : (2 : Nat) ^ 8 = 256 := by decide
    refine ⟨_, rfl, _, rfl, _, rfl, _, _, rfl, rfl, pen, sp, ns, m, dd, k + 1, by rw [← ed]; rfl, pn.to x1 hp1, by omega, by omega, m9, by omega, by omega, fun ta va k2 H2 x2 hp2 k20 k21 da dwa dpa => ?_⟩
    refine ⟨_, rfl, _, rfl, _, _, rfl, rfl, pen, sp, ns, (m : Int) + 1, k2, rfl, pn.to (x1.trans x2) hp2, by omega, by omega, by omega, fun y y0 y1 => ?_⟩
    have x3 := zam (pen := pen) (H := H2) (.lst [.ref sp, .int (k2 + 1)])
    have hp3 : L2.upd H2 pen (.lst [.ref sp, .int (k2 + 1)]) pen = some (.lst [.ref sp, .int (k2 + 1)]) := zae
    generalize L2.upd H2 pen (.lst [.ref sp, .int (k2 + 1)]) = H3 at x3 hp3 ⊢
    refine ⟨_, rfl, _, rfl, _, rfl, _, rfl, _, _, rfl, rfl, pen, sp, ns, m, dd, k2 + 1, by rw [← ed]; rfl, pn.to ((x1.trans x2).trans x3) hp3, by omega, by omega, m9, by omega, by omega, fun tb vb k4 H4 x4 hp4 k40 k41 db dwb dpb => ?_⟩
    refine ⟨small (by show 4 ≤ 1000; decide), fun tp htp => ?_⟩
    have s5 := zai htp (.tup [.str ("split" : Str), .int y, va, vb])
    exact q (.split y ta tb) _ k4 _ (((x1.trans x2).trans (x3.trans x4)).trans (Same.x s5)) (s5 _ _ hp4) (by omega) (by omega) (zd9 zae (Dn.same s5 _ _ (WT.tupA (SameX.tup hp2 (x3.trans x4)) (zbm _ dwa) da)) (Dn.same s5 _ _ db)) ⟨dwa, dwb⟩ (Nat.succ_le_succ (Nat.max_le.mpr ⟨dpa, dpb⟩))
   ·refine zb3 (decide_eq_false c) ?_
    exact r2 wy _ _ w0 w8 x1 hp1
  ·refine zib ?_
   exact r2 wy _ _ w0 w8 x1 hp1
theorem zgx (T : Txt K mg a d) : ∀ f : Nat, FnOk P w K mg base CX0 (f + 3) a.f_law_drawn d.f_law_drawn ["_law_state", "_law_many", "_law_deep"] (zjr K (f + 1))
 | 0 => zff T 0 fun h => absurd rfl h
 | f + 1 => zff T (f + 1) fun _ => zgx T f
end
section
variable {P : Program} {w : World} {K : PySem.W.Frag} {mg : Str → Option Value} {base : Heap} {a : Adr} {d : Fds}
theorem zgn (T : Txt K mg a d) : FnOk P w K mg base CX0 2 a.f_law_other_leaf d.f_law_other_leaf ["_law_state", "_law_many", "_law_tree"] (zlx K) := by
 have G_law_take := zbi (P := P) (w := w) (base := base) T
 refine T.K_law_other_leaf.ok sc_law_other_leaf (fun vs H Q E h => ?_) (fun cdv A outer s H vs Q E hr h => ?_)
 ·obtain ⟨pen, sp, ns, m, t0, v0, k, rfl, _⟩ := h
  rfl
 obtain ⟨pen, sp, ns, m, t0, v0, k, rfl, pn, k0, k1, m1, m9, dn, dw, q⟩ := h
 have gd := zea _ dw
 obtain ⟨ct6, ch6, cu6⟩ := zpw (X := (zcj CX0 P w K mg base ["_law_state", "_law_many", "_law_tree", "_law_way"] "_law_other_leaf" (zag zbd) a.f_law_other_leaf cdv A outer s H E).nox) (st := (za3 zbd).drop 6) (zaf (zaz (zal za4 (zan (ixT (K := K)) (pv 2) zac (fun _ _ => rfl)) zay (zak _)) (zah (zaj (za8 (zaa zay (zaa (zau zbv (zan (ixT (K := K)) (pv 2) zac (fun _ _ => rfl)) (zan (ixL (K := K)) (zbz (zaa zac (zaa (ztq zqn zac) zab))) (zad G_law_take hr.lv rfl T.K_law_take (zaa (pv 0) (zaa zac zab))) (fun _ _ => rfl))) zab))))) zaq)
   (zah (zaj (za8 (zaa zay (zaa (zad G_law_take hr.lv rfl T.K_law_take (zaa (pv 0) (zaa (pv 1) zab))) (zaa (pv 2) (zaa (pv 2) zab))))))))
 obtain ⟨ct5, ch5, cu5⟩ := zpw (X := (zcj CX0 P w K mg base ["_law_state", "_law_many", "_law_tree", "_law_way"] "_law_other_leaf" (zag zbd) a.f_law_other_leaf cdv A outer s H E).nox) (st := (za3 zbd).drop 5) (zaf (zaz (PW.pt (zgb (zal za4 (pv 3) zac (zak _)) (zeu (zal za4 (zan (ixT (K := K)) (pv 2) zac (fun _ _ => rfl)) zay (zak _))))) (zah (zaj (za8 (zaa zay (zaa (zau zbw (zad G_law_take hr.lv rfl T.K_law_take (zaa (pv 0) (zaa (zau zbv (pv 1) zac) zab))) zac) (zaa (zan (ixT (K := K)) (pv 2) zac (fun _ _ => rfl)) (zaa (zan (ixT (K := K)) (pv 2) zac (fun _ _ => rfl)) zab))))))) zaq)
   ch6)
 refine ⟨_, (zaf (zat (i := 3) sc_law_other_leaf.nd rfl (Or.inl rfl) (zad G_law_take hr.lv rfl T.K_law_take (zaa (pv 0) (zaa zac zab))))
   (zaf (zaz (zal za4 (pv 3) zac (zak _)) (zah (zaj (za8 (zaa zay zab)))) zaq)
   (zaf (zaz (zal za4 (pv 3) zac (zak _)) (zah (zaj (za8 (zaa zay zab)))) zaq)
   (zaf (zaz (zal za4 (pv 3) zac (zak _)) (zah (zaj (za8 (zaa zay (zaa (zau zbw (zad G_law_take hr.lv rfl T.K_law_take (zaa (pv 0) (zaa zac zab))) zac) zab))))) zaq)
   (zaf (zaz (PW.pt (zgb (zal za4 (pv 3) zac (zak _)) (zeu (zal za4 (zan (ixT (K := K)) (pv 2) zac (fun _ _ => rfl)) zay (zak _))))) (zah (zaj (za8 (zaa zay (zaa (zan (ixT (K := K)) (pv 2) zac (fun _ _ => rfl)) (zaa (zan (ixT (K := K)) (pv 2) zac (fun _ _ => rfl)) (zaa (zan (ixT (K := K)) (pv 2) zac (fun _ _ => rfl)) zab))))))) zaq)
   ch5))))), ?_⟩
 refine ⟨_, rfl, pen, sp, ns, 6, k, rfl, pn, k0, by omega, by decide, fun wy w0 w6 => ?_⟩
 have x1 := zam (pen := pen) (H := H) (.lst [.ref sp, .int (k + 1)])
 have hp1 : L2.upd H pen (.lst [.ref sp, .int (k + 1)]) pen = some (.lst [.ref sp, .int (k + 1)]) := zae
 have d1 := WT.tupA (SameX.tup pn.at_ x1) (zbm _ dw) dn
 generalize L2.upd H pen (.lst [.ref sp, .int (k + 1)]) = H1 at x1 hp1 d1 ⊢
 obtain ⟨a0, w1, r1, rfl, h0, isS, isB⟩ := WT.first d1
 refine ⟨_, rfl, rfl, _, rfl, ?_⟩
 refine zbl (fun _ => ?_) (fun _ => ?_)
 ·refine ⟨small (by show 1 ≤ 1000; decide), fun ta nta => ?_⟩
  have s2 := zai nta (.tup [.str ("dear" : Str)])
  exact q (.leaf ("dear" : Str)) _ (k + 1) _ (x1.trans (Same.x s2)) (s2 _ _ hp1) (by omega) (by omega) (zig zae) (.inl rfl) (Nat.zero_le _)
 refine ⟨_, rfl, rfl, _, rfl, ?_⟩
 refine zbl (fun _ => ?_) (fun _ => ?_)
 ·refine ⟨small (by show 1 ≤ 1000; decide), fun ta nta => ?_⟩
  have s2 := zai nta (.tup [.str ("ware" : Str)])
  exact q (.leaf ("ware" : Str)) _ (k + 1) _ (x1.trans (Same.x s2)) (s2 _ _ hp1) (by omega) (by omega) (zig zae) (.inr rfl) (Nat.zero_le _)
 refine ⟨_, rfl, rfl, _, rfl, ?_⟩
 refine zbl (fun _ => ?_) (fun _ => ?_)
 ·refine ⟨_, rfl, pen, sp, ns, 20, k + 1, rfl, pn.to x1 hp1, by omega, by omega, by decide, fun y y0 y1 => ?_⟩
  have x2 := x1.trans (zam (pen := pen) (H := H1) (.lst [.ref sp, .int (k + 1 + 1)]))
  have hp2 : L2.upd H1 pen (.lst [.ref sp, .int (k + 1 + 1)]) pen = some (.lst [.ref sp, .int (k + 1 + 1)]) := zae
  generalize L2.upd H1 pen (.lst [.ref sp, .int (k + 1 + 1)]) = H2 at x2 hp2 ⊢
  refine ⟨_, _, rfl, rfl, small (by show 2 ≤ 1000; decide), fun tp htp => ?_⟩
  have s3 := zai htp (.tup [.str ("broken" : Str), .int (y - 1)])
  exact q (.broken (y - 1)) _ (k + 1 + 1) _ (x2.trans (Same.x s3)) (s3 _ _ hp2) (by omega) (by omega) (zhe zae) trivial (Nat.zero_le _)
 have r6 : ct6 { nx := fun _ H' => Q .non H', rt := Q } [some (.ref pen), some (.int (m : Int)), some (.ref a0), some (.int wy)] H1 := by
  refine cu6 _ _ _ ?_
  refine ⟨_, rfl, a0, _, _, _, rfl, rfl, sqT h0, at0, rfl, _, rfl, ?_⟩
  refine zbl (fun c => ?_) (fun _ => ?_)
  ·obtain ⟨b, rfl⟩ := isB (of_decide_eq_true c) gd
   obtain ⟨a1, e1, ha⟩ := zi2 d1
   cases e1
   refine ⟨_, rfl, a0, _, _, _, rfl, rfl, sqT ha, at1, _, rfl, small (by show 2 ≤ 1000; decide), fun lt nlt => ?_⟩
   dsimp only at nlt ⊢
   have s2 := zai nlt (.lst [.int 1, .int (-1)])
   have g2 : L2.upd H1 lt (.lst [.int 1, .int (-1)]) lt = some (.lst [.int 1, .int (-1)]) := zae
   have ltp : lt ≠ pen := fun z => by rw [z, hp1] at nlt; cases nlt
   have hp2 := s2 _ _ hp1
   generalize L2.upd H1 lt (.lst [.int 1, .int (-1)]) = H2 at s2 g2 hp2 ⊢
   have x2 := x1.trans (Same.x (pen := pen) s2)
   refine ⟨_, rfl, pen, sp, ns, 2, k + 1, rfl, pn.to x2 hp2, by omega, by omega, by decide, fun y y0 y1 => ?_⟩
   have x3 := x2.trans (zam (pen := pen) (H := H2) (.lst [.ref sp, .int (k + 1 + 1)]))
   have hp3 : L2.upd H2 pen (.lst [.ref sp, .int (k + 1 + 1)]) pen = some (.lst [.ref sp, .int (k + 1 + 1)]) := zae
   have g3 : L2.upd H2 pen (.lst [.ref sp, .int (k + 1 + 1)]) lt = some (.lst [.int 1, .int (-1)]) := by rw [zap ltp]; exact g2
   generalize L2.upd H2 pen (.lst [.ref sp, .int (k + 1 + 1)]) = H3 at x3 hp3 g3 ⊢
   obtain ⟨z, hz⟩ : ∃ z : Int, atI [V.int 1, V.int (-1)] y = some (.int z) := by
    rcases (by omega : y = 0 ∨ y = 1) with e | e
    ·exact ⟨1, by rw [e]; rfl⟩
    ·exact ⟨-1, by rw [e]; rfl⟩
   refine ⟨lt, _, _, .int z, rfl, rfl, SqL.of g3, hz, _, _, rfl, rfl, small (by show 2 ≤ 1000; decide), fun tp htp => ?_⟩
   have s4 := zai htp (.tup [.str ("broken" : Str), .int (b + z)])
   exact q (.broken (b + z)) _ (k + 1 + 1) _ (x3.trans (Same.x s4)) (s4 _ _ hp3) (by omega) (by omega) (zhe zae) trivial (Nat.zero_le _)
  ·refine ⟨_, rfl, _, rfl, pen, sp, ns, (m : Int), k + 1, rfl, pn.to x1 hp1, by omega, by omega, by omega, fun y y0 y1 => ?_⟩
   have x2' := zam (pen := pen) (H := H1) (.lst [.ref sp, .int (k + 1 + 1)])
   have x2 := x1.trans x2'
   have hp2 : L2.upd H1 pen (.lst [.ref sp, .int (k + 1 + 1)]) pen = some (.lst [.ref sp, .int (k + 1 + 1)]) := zae
   have d2 := WT.tupA (SameX.tup hp1 x2') (zbm _ dw) d1
   generalize L2.upd H1 pen (.lst [.ref sp, .int (k + 1 + 1)]) = H2 at x2 hp2 d2 ⊢
   refine ⟨_, rfl, _, rfl, small (by show 4 ≤ 1000; decide), fun tp htp => ?_⟩
   have s3 := zai htp (.tup [.str ("split" : Str), .int y, .ref a0, .ref a0])
   exact q (.split y t0 t0) _ (k + 1 + 1) _ (x2.trans (Same.x s3)) (s3 _ _ hp2) (by omega) (by omega) (zd9 zae (Dn.same s3 _ _ d2) (Dn.same s3 _ _ d2)) ⟨dw, dw⟩ (by show max t0.depth t0.depth + 1 ≤ _; omega)
 have r5 : ct5 { nx := fun _ H' => Q .non H', rt := Q } [some (.ref pen), some (.int (m : Int)), some (.ref a0), some (.int wy)] H1 := by
  refine cu5 _ _ _ ?_
  refine ⟨_, rfl, rfl, _, rfl, ?_⟩
  refine zbl (fun _ => ?_) (fun _ => zib r6)
  refine ⟨_, rfl, a0, _, _, _, rfl, rfl, sqT h0, at0, rfl, _, rfl, ?_⟩
  refine zbl (fun c => ?_) (fun _ => r6)
  obtain ⟨k0', ta, tb, rfl⟩ := isS (of_decide_eq_true c) gd
  obtain ⟨a1, va, vb, e1, ha, da, db⟩ := zf3 d1
  cases e1
  refine ⟨_, rfl, _, rfl, _, _, rfl, rfl, pen, sp, ns, (m : Int) + 2, k + 1, rfl, pn.to x1 hp1, by omega, by omega, by omega, fun y y0 y1 => ?_⟩
  have x2' := zam (pen := pen) (H := H1) (.lst [.ref sp, .int (k + 1 + 1)])
  have x2 := x1.trans x2'
  have t2 := SameX.tup hp1 x2'
  have hp2 : L2.upd H1 pen (.lst [.ref sp, .int (k + 1 + 1)]) pen = some (.lst [.ref sp, .int (k + 1 + 1)]) := zae
  generalize L2.upd H1 pen (.lst [.ref sp, .int (k + 1 + 1)]) = H2 at x2 hp2 t2 ⊢
  have ha2 := t2 _ _ ha
  refine ⟨_, _, rfl, rfl, _, rfl, a0, _, _, _, rfl, rfl, sqT ha2, at2, _, rfl, a0, _, _, _, rfl, rfl, sqT ha2, at3, small (by show 4 ≤ 1000; decide), fun tp htp => ?_⟩
  have s3 := zai htp (.tup [.str ("split" : Str), .int (y - 1), va, vb])
  exact q (.split (y - 1) ta tb) _ (k + 1 + 1) _ (x2.trans (Same.x s3)) (s3 _ _ hp2) (by omega) (by omega) (zd9 zae (Dn.same s3 _ _ (WT.tupA t2 (zbm _ dw.1) da)) (Dn.same s3 _ _ (WT.tupA t2 (zbm _ dw.2) db))) dw (Nat.le_succ _)
 refine ⟨_, rfl, rfl, _, rfl, ?_⟩
 refine zbl (fun _ => ?_) (fun _ => zib r5)
 refine ⟨_, rfl, a0, _, _, _, rfl, rfl, sqT h0, at0, rfl, _, rfl, ?_⟩
 refine zbl (fun c => ?_) (fun _ => r5)
 obtain ⟨k0', ta, tb, rfl⟩ := isS (of_decide_eq_true c) gd
 obtain ⟨a1, va, vb, e1, ha, da, db⟩ := zf3 d1
 cases e1
 refine ⟨_, rfl, a0, _, _, _, rfl, rfl, sqT ha, at1, _, rfl, a0, _, _, _, rfl, rfl, sqT ha, at3, _, rfl, a0, _, _, _, rfl, rfl, sqT ha, at2, small (by show 4 ≤ 1000; decide), fun tp htp => ?_⟩
 have s3 := zai htp (.tup [.str ("split" : Str), .int k0', vb, va])
 exact q (.split k0' tb ta) _ (k + 1) _ (x1.trans (Same.x s3)) (s3 _ _ hp1) (by omega) (by omega) (zd9 zae (Dn.same s3 _ _ db) (Dn.same s3 _ _ da)) ⟨dw.2, dw.1⟩ (by show max tb.depth ta.depth + 1 ≤ max ta.depth tb.depth + 1 + 1; omega)
end
section
variable {P : Program} {w : World} {K : PySem.W.Frag} {mg : Str → Option Value} {base : Heap} {a : Adr} {d : Fds}
theorem zjz (T : Txt K mg a d) (f : Nat) (G_law_bent : FnOk P w K mg base CX0 (f + 3) a.f_law_bent d.f_law_bent ["_law_state", "_law_many", "_law_tree", "_law_deep"] (znh K f)) : FnOk P w K mg base CX0 (f + 4) a.f_law_bent d.f_law_bent ["_law_state", "_law_many", "_law_tree", "_law_deep"] (znh K (f + 1)) := by
 have G_law_take := zbi (P := P) (w := w) (base := base) T
 have G_law_other_leaf := zgn (P := P) (w := w) (base := base) T
 refine T.K_law_bent.ok zl7 (fun vs H Q E h => ?_) (fun cdv A outer s H vs Q E hr h => ?_)
 ·obtain ⟨pen, sp, ns, m, deep, t0, v0, k, rfl, _⟩ := h
  rfl
 obtain ⟨pen, sp, ns, m, deep, t0, v0, k, rfl, pn, k0, k1, m1, m9, d9, df, dn, dw, q⟩ := h
 have gd := zea _ dw
 obtain ⟨a0, w1, r1, rfl, h0, isS, isB⟩ := WT.first dn
 obtain ⟨ct1, ch1, cu1⟩ := zpw (X := (zcj CX0 P w K mg base ["_law_state", "_law_many", "_law_tree", "_law_deep"] "_law_bent" (zag zdi) a.f_law_bent cdv A outer s H E).nox) (st := (za3 zdi).drop 1) (zaf (zaz (zal za4 (zad G_law_take hr.lv rfl T.K_law_take (zaa (pv 0) (zaa zac zab))) zac (zak _)) (zah (zaj (za8 (zaa zay (zaa (zan (ixT (K := K)) (pv 2) zac (fun _ _ => rfl)) (zaa (zad G_law_bent hr.lv rfl T.K_law_bent (zaa (pv 0) (zaa (pv 1) (zaa (zan (ixT (K := K)) (pv 2) zac (fun _ _ => rfl)) (zaa (zau zbw (pv 3) zac) zab))))) (zaa (zan (ixT (K := K)) (pv 2) zac (fun _ _ => rfl)) zab))))))) zaq)
   (zah (zaj (za8 (zaa zay (zaa (zan (ixT (K := K)) (pv 2) zac (fun _ _ => rfl)) (zaa (zan (ixT (K := K)) (pv 2) zac (fun _ _ => rfl)) (zaa (zad G_law_bent hr.lv rfl T.K_law_bent (zaa (pv 0) (zaa (pv 1) (zaa (zan (ixT (K := K)) (pv 2) zac (fun _ _ => rfl)) (zaa (zau zbw (pv 3) zac) zab))))) zab))))))))
 refine ⟨_, (zaf (zaz (PW.pt (zhx (zal zoo (zan (ixT (K := K)) (pv 2) zac (fun _ _ => rfl)) zay (zak _)) (zhx (zal za4 (pv 3) zac (zak _)) (zhg (zal za4 (zad G_law_take hr.lv rfl T.K_law_take (zaa (pv 0) (zaa zac zab))) zac (zak _)))))) (zah (zaj (zad G_law_other_leaf hr.lv rfl T.K_law_other_leaf (zaa (pv 0) (zaa (pv 1) (zaa (pv 2) zab)))))) zaq)
   ch1), ?_⟩
 refine ⟨_, rfl, a0, _, _, _, rfl, rfl, sqT h0, at0, rfl, _, rfl, ?_⟩
 refine zbl (fun _ => ?_) (fun c => ?_)
 ·refine zdj rfl ?_
  exact ⟨_, rfl, _, rfl, _, rfl, pen, sp, ns, m, t0, .ref a0, k, rfl, pn, k0, by omega, m1, m9, dn, dw, fun t v k' H' x hp k2 k3 dv dwv dpv => q t v k' H' x hp k2 (by omega) dv dwv dpv⟩
 have c : V.str w1 = V.str ("split" : Str) := by
  by_cases z : V.str w1 = V.str ("split" : Str)
  ·exact z
  ·exact absurd (by rw [decide_eq_false z]; rfl) c
 obtain ⟨kk, ta, tb, rfl⟩ := isS c gd
 obtain ⟨a1, va, vb, e1, ha, da, db⟩ := zf3 dn
 cases e1
 refine ⟨_, rfl, rfl, _, rfl, ?_⟩
 refine zbl (fun _ => ?_) (fun c0 => ?_)
 ·refine zdj rfl ?_
  exact ⟨_, rfl, _, rfl, _, rfl, pen, sp, ns, m, _, .ref a0, k, rfl, pn, k0, by omega, m1, m9, dn, dw, fun t v k' H' x hp k2 k3 dv dwv dpv => q t v k' H' x hp k2 (by omega) dv dwv dpv⟩
 have c0 : deep ≠ 0 := fun z => c0 (by rw [z]; rfl)
 refine ⟨_, rfl, pen, sp, ns, 4, k, rfl, pn, k0, by omega, by decide, fun y y0 y1 => ?_⟩
 have x1 := zam (pen := pen) (H := H) (.lst [.ref sp, .int (k + 1)])
 have hp1 : L2.upd H pen (.lst [.ref sp, .int (k + 1)]) pen = some (.lst [.ref sp, .int (k + 1)]) := zae
 have t1 := SameX.tup pn.at_ x1
 generalize L2.upd H pen (.lst [.ref sp, .int (k + 1)]) = H1 at x1 hp1 t1 ⊢
 refine ⟨rfl, _, rfl, ?_⟩
 refine zbl (fun _ => ?_) (fun _ => ?_)
 ·exact ⟨_, rfl, _, rfl, _, rfl, pen, sp, ns, m, _, .ref a0, k + 1, rfl, pn.to x1 hp1, by omega, by omega, m1, m9, WT.tupA t1 (zbm _ dw) dn, dw, fun t v k' H' x hp k2 k3 dv dwv dpv => q t v k' H' (x1.trans x) hp (by omega) (by omega) dv dwv dpv⟩
 refine cu1 _ _ _ ?_
 refine ⟨_, rfl, pen, sp, ns, 2, k + 1, rfl, pn.to x1 hp1, by omega, by omega, by decide, fun z z0 z1 => ?_⟩
 have x2' := zam (pen := pen) (H := H1) (.lst [.ref sp, .int (k + 1 + 1)])
 have x2 := x1.trans x2'
 have hp2 : L2.upd H1 pen (.lst [.ref sp, .int (k + 1 + 1)]) pen = some (.lst [.ref sp, .int (k + 1 + 1)]) := zae
 have t2 := zb5 t1 (SameX.tup hp1 x2')
 generalize L2.upd H1 pen (.lst [.ref sp, .int (k + 1 + 1)]) = H2 at x2 hp2 t2 ⊢
 obtain ⟨dd, rfl⟩ : ∃ dd, deep = dd + 1 := ⟨deep - 1, by omega⟩
 have ed : (((dd + 1 : Nat) : Int) - 1) = (dd : Int) := by omega
 have ha2 := t2 _ _ ha
 have da2 := WT.tupA t2 (zbm _ dw.1) da
 have db2 := WT.tupA t2 (zbm _ dw.2) db
 refine ⟨rfl, _, rfl, ?_⟩
 refine zbl (fun _ => ?_) (fun _ => ?_)
 ·refine ⟨_, rfl, a0, _, _, _, rfl, rfl, sqT ha2, at1, _, rfl, _, rfl, _, rfl, a0, _, _, _, rfl, rfl, sqT ha2, at2, _, rfl, _, _, rfl, rfl, pen, sp, ns, m, dd, ta, va, k + 1 + 1, by rw [← ed]; rfl, pn.to x2 hp2, by omega, by omega, m1, m9, by omega, by omega, da2, dw.1, fun t v k' H3 x3 hp3 k2 k3 dv dwv dpv => ?_⟩
  have t3 := SameX.tup hp2 x3
  refine ⟨_, rfl, a0, _, _, _, rfl, rfl, sqT (t3 _ _ ha2), at3, small (by show 4 ≤ 1000; decide), fun tp htp => ?_⟩
  have s4 := zai htp (.tup [.str ("split" : Str), .int kk, v, vb])
  exact q (.split kk t tb) _ k' _ ((x2.trans x3).trans (Same.x s4)) (s4 _ _ hp3) (by omega) (by omega) (zd9 zae (Dn.same s4 _ _ dv) (Dn.same s4 _ _ (WT.tupA t3 (zbm _ dw.2) db2))) ⟨dwv, dw.2⟩ (by show max t.depth tb.depth + 1 ≤ max ta.depth tb.depth + 1 + 1; omega)
 ·refine ⟨_, rfl, a0, _, _, _, rfl, rfl, sqT ha2, at1, _, rfl, a0, _, _, _, rfl, rfl, sqT ha2, at2, _, rfl, _, rfl, _, rfl, a0, _, _, _, rfl, rfl, sqT ha2, at3, _, rfl, _, _, rfl, rfl, pen, sp, ns, m, dd, tb, vb, k + 1 + 1, by rw [← ed]; rfl, pn.to x2 hp2, by omega, by omega, m1, m9, by omega, by omega, db2, dw.2, fun t v k' H3 x3 hp3 k2 k3 dv dwv dpv => ?_⟩
  have t3 := SameX.tup hp2 x3
  refine ⟨small (by show 4 ≤ 1000; decide), fun tp htp => ?_⟩
  have s4 := zai htp (.tup [.str ("split" : Str), .int kk, va, v])
  exact q (.split kk ta t) _ k' _ ((x2.trans x3).trans (Same.x s4)) (s4 _ _ hp3) (by omega) (by omega) (zd9 zae (Dn.same s4 _ _ (WT.tupA t3 (zbm _ dw.1) da2)) (Dn.same s4 _ _ dv)) ⟨dw.1, dwv⟩ (by show max ta.depth t.depth + 1 ≤ max ta.depth tb.depth + 1 + 1; omega)
theorem zh3 (T : Txt K mg a d) : ∀ f : Nat, FnOk P w K mg base CX0 (f + 3) a.f_law_bent d.f_law_bent ["_law_state", "_law_many", "_law_tree", "_law_deep"] (znh K f)
 | 0 => ⟨fun _ _ _ _ h => by obtain ⟨_, _, _, _, _, _, _, _, _, _, _, _, _, _, _, z, _⟩ := h; exact absurd z (Nat.not_lt_zero _), fun _ _ _ _ _ _ _ _ _ _ _ _ _ h => by obtain ⟨_, _, _, _, _, _, _, _, _, _, _, _, _, _, _, z, _⟩ := h; exact absurd z (Nat.not_lt_zero _)⟩
 | f + 1 => zjz T f (zh3 T f)
end
section
variable {P : Program} {w : World} {K : PySem.W.Frag} {mg : Str → Option Value} {base : Heap} {a : Adr} {d : Fds}
theorem znc (T : Txt K mg a d) (LBc : zfr mg base a.c_cases_of a.t_cases_of) (LB : zfr mg base a.c_best a.t_best) : FnOk P w K mg base CX0 23 a.f_law_told d.f_law_told ["_law_state", "_law_wood_here", "_law_prices_here"] (spT a.t_cases_of (spT a.t_best (zsv K))) := by
 have G_law_take := zbi (P := P) (w := w) (base := base) T
 have G_best := ztl (P := P) (w := w) (base := base) T LBc LB
 refine T.K_law_told.ok sc_law_told (fun vs H Q E h => ?_) (fun cdv A outer s H vs Q E hr h => ?_)
 ·obtain ⟨_, _, pen, sp, ns, wd, lp, m, ts, ps, k, rfl, _⟩ := h
  rfl
 obtain ⟨ta, tab, pen, sp, ns, wd, lp, m, ts, ps, k, rfl, pn, k0, k1, W, m1, m9, hlp, lm, q⟩ := h
 have of := ze4 m 1 0
 refine ⟨_, (zaf (zat (i := 3) sc_law_told.nd rfl (Or.inl rfl) (zad G_best hr.lv rfl T.K_best (zaa (pv 1) (zaa (zbj zch rfl T.m_list PyProof.Rows.boot_list (zaa (pv 2) zab)) zab))))
   (zaf (zaz (zal za4 (zan (ixT (K := K)) (pv 3) zac (fun _ _ => rfl)) zay (zak _)) (zah (zaj (za8 (zaa (zau zbw (zad G_law_take hr.lv rfl T.K_law_take (zaa (pv 0) (zaa zac zab))) zac) (zaa (zan (ixT (K := K)) (pv 3) zac (fun _ _ => rfl)) zab))))) zaq)
   (zah (zaj (za8 (zaa (zan (ixT (K := K)) (pv 3) zac (fun _ _ => rfl)) (zaa (zan (ixT (K := K)) (pv 3) zac (fun _ _ => rfl)) zab))))))), ?_⟩
 refine ⟨_, rfl, _, rfl, lp, _, rfl, .inl (SqL.of hlp), fun l1 nl1 => ?_⟩
 have s1 := zai nl1 (.lst (ps.map V.int))
 have g1 : L2.upd H l1 (.lst (ps.map V.int)) l1 = some (.lst (ps.map V.int)) := zae
 generalize L2.upd H l1 (.lst (ps.map V.int)) = H1 at s1 g1 ⊢
 refine ⟨s1.tab ta, s1.tab tab, wd, l1, m, ts, ps, rfl, W.same s1, m1, m9, g1, lm, fun c0 v H2 s2 dv => ?_, fun w0 v H2 B s2 dv => ?_⟩
 ·obtain ⟨fn, v1, rfl, hf, d1⟩ := zs4 dv
  have s12 := s1.trans s2
  have hp2 : H2 pen = some (.lst [.ref sp, .int k]) := s12 _ _ pn.at_
  refine ⟨_, rfl, fn, _, _, _, rfl, rfl, sqT hf, at0, rfl, _, rfl, ?_⟩
  refine zdv rfl ?_
  refine ⟨_, rfl, pen, sp, ns, 40, k, rfl, pn.to (Same.x s12) hp2, k0, by omega, by decide, fun y y0 y1 => ?_⟩
  have x3 := zam (pen := pen) (H := H2) (.lst [.ref sp, .int (k + 1)])
  have hp3 : L2.upd H2 pen (.lst [.ref sp, .int (k + 1)]) pen = some (.lst [.ref sp, .int (k + 1)]) := zae
  have t3 := SameX.tup hp2 x3
  generalize L2.upd H2 pen (.lst [.ref sp, .int (k + 1)]) = H3 at x3 hp3 t3 ⊢
  refine ⟨_, _, rfl, rfl, _, rfl, fn, _, _, _, rfl, rfl, sqT (t3 _ _ hf), at1, small (by show 2 ≤ 1000; decide), fun tp htp => ?_⟩
  have s4 := zai htp (.tup [.int (y - 20), v1])
  have dw := zgl _ (zf2 (zba ts (zci ts) m 9 1 0))
  rw [← zod] at d1
  exact q tp (y - 20) _ v1 (k + 1) _ (((Same.x s12).trans x3).trans (Same.x s4)) (s4 _ _ hp3) (by omega) (by omega) zae (Dn.same s4 _ _ (WT.tupA t3 (zbm _ dw) d1)) dw (by rw [zf1]; exact zcg 9 1 0) (zmh W.ok m1 m9 c0)
 ·obtain ⟨fn, v3, rfl, hf, d3⟩ := zsf dv
  have s12 := s1.trans s2
  have hp2 : H2 pen = some (.lst [.ref sp, .int k]) := s12 _ _ pn.at_
  refine ⟨_, rfl, fn, _, _, _, rfl, rfl, sqT hf, at0, rfl, _, rfl, ?_⟩
  refine zbn (fun z => by revert z; decide +kernel) ?_
  refine ⟨_, rfl, fn, _, _, _, rfl, rfl, sqT hf, at2, _, rfl, fn, _, _, _, rfl, rfl, sqT hf, at3, small (by show 2 ≤ 1000; decide), fun tp htp => ?_⟩
  have s4 := zai htp (.tup [.int (za6 ps w0), v3])
  obtain ⟨R, rr, rs, re⟩ := zkq W.ok m1 lm B
  obtain ⟨t1, e1, gd1, dp1, is1, st1⟩ := zn2 (zja (m := m) (ts := ts) (ps := ps) (p := za6 ps w0)) rs re 9 1 0 (by omega) rr
  rw [← e1] at d3
  exact q tp (za6 ps w0) t1 v3 k _ (Same.x (s12.trans s4)) (s4 _ _ hp2) (by omega) (by omega) zae (Dn.same s4 _ _ d3) (zlj rs re 9 1 0 t1 (by omega) rr e1 gd1) dp1 is1
end
section
variable {P : Program} {w : World} {K : PySem.W.Frag} {mg : Str → Option Value} {base : Heap} {a : Adr} {d : Fds}
theorem zu0 (T : Txt K mg a d) (LBc : zfr mg base a.c_cases_of a.t_cases_of) (LB : zfr mg base a.c_best a.t_best) (LBa : zfr mg base a.c_are_bounds a.t_are_bounds) : FnOk P w K mg base CX0 33 a.f_law d.f_law ["_law_script"] (spT a.t_cases_of (spT a.t_best (spT a.t_are_bounds (zos K)))) := by
 have G_law_wood := zlu (P := P) (w := w) (base := base) T
 have G_law_prices := zj5 (P := P) (w := w) (base := base) T
 have G_law_take := zbi (P := P) (w := w) (base := base) T
 have G_law_price := zgm (P := P) (w := w) (base := base) T
 have G_law_told := znc (P := P) (w := w) (base := base) T LBc LB
 have G_law_due := zns (P := P) (w := w) (base := base) T
 have G_law_drawn := zgx (P := P) (w := w) (base := base) T 9
 have G_law_bent := zh3 (P := P) (w := w) (base := base) T 10
 have G_wares := znb (P := P) (w := w) (base := base) T LBc
 have G_cases := zi5 (P := P) (w := w) (base := base) T LBc
 have G_are_bounds := zj2 (P := P) (w := w) (base := base) T LBa 18
 refine T.K_law.ok sc_law (fun vs H Q E h => ?_) (fun cdv A outer s H vs Q E hr h => ?_)
 ·obtain ⟨_, _, _, p, ns, rfl, _⟩ := h
  rfl
 obtain ⟨ta, tab, tas, sp, ns, rfl, hS, hl, q⟩ := h
 have p62 : (2 : Int) ^ 62 = 4611686018427387904 := by decide
 have tail4 : ∃ t4, PSs (zcj CX0 P w K mg base ["_law_script", "_law_state", "_law_wood_here", "_law_prices_here", "_law_price_here", "_law_tree", "_law_k", "_law_way", "_law_turn", "_law_due_here", "_law_found", "_law_cheaper"] "law" (zag zh6) a.f_law cdv A outer s H E).nox ((zsu (za3 zh6) [(5, false)]).drop 4) t4 ∧ ∀ (D : zj7) (pen wd lp : Addr) (m : Nat) (ts : List Tie) (ps : List Int) (p : Int) (t : WT) (v : V) (kc : Int) (Hc : Hp) (o6 o7 o8 o9 o10 o11 : Option V), LC K pen sp ns wd lp m ts ps a.t_cases_of a.t_best a.t_are_bounds kc Hc → 0 ≤ kc → kc ≤ 600000 → Dn Hc t.toD v → t.dw → t.depth ≤ 14 →
   (∀ (t' : WT) (v' : V) (kd : Int) (H' : Hp) (o6 o7 o8 o9 o10 o11 : Option V), LC K pen sp ns wd lp m ts ps a.t_cases_of a.t_best a.t_are_bounds kd H' → kc ≤ kd → kd ≤ kc + 50 → Dn H' t'.toD v' → t'.dw → t'.depth ≤ t.depth + 2 → D.nx [some (.ref sp), some (.ref pen), some (.ref wd), some (.ref lp), some (.int p), some v', o6, o7, o8, o9, o10, o11] H') →
   t4 D [some (.ref sp), some (.ref pen), some (.ref wd), some (.ref lp), some (.int p), some v, o6, o7, o8, o9, o10, o11] Hc := by
  refine ⟨_, (zaf (zgk PassesOwn.never rfl (zbr rfl T.m_range (zaa (zad G_law_take hr.lv rfl T.K_law_take (zaa (pv 1) (zaa zac zab))) zab)) (za0 (i := 8) sc_law.nd rfl (Or.inl rfl)) (zah (zat (i := 5) sc_law.nd rfl (Or.inl rfl) (zad G_law_bent hr.lv rfl T.K_law_bent (zaa (pv 1) (zaa (zan (ixT (K := K)) (pv 2) zac (fun _ _ => rfl)) (zaa (pv 5) (zaa zac zab))))))))
   (zaf (zat (i := 9) sc_law.nd rfl (Or.inl rfl) (zad G_law_due hr.lv rfl T.K_law_due (zaa (pv 2) (zaa (pv 3) (zaa (pv 4) (zaa (pv 5) zab))))))
   (zaf (zat (i := 10) sc_law.nd rfl (Or.inl rfl) (zad G_are_bounds hr.lv rfl T.K_are_bounds (zaa (pv 2) (zaa (zbj zch rfl T.m_list PyProof.Rows.boot_list (zaa (pv 3) zab)) (zaa (pv 4) (zaa (pv 5) zab))))))
   (zaf (zaz (PW.pt (zhx (ze0 (zbu (zaw (zwp (K := K)) rfl T.m_isinstance PyProof.Rows.boot_isinstance (zaa (pv 10) (zaa (zs7 (v := .ty "bool") rfl T.m_bool PyProof.Rows.boot_bool rfl) zab))))) (zhg (zal zoo (pv 10) (pv 9) (zak _))))) (zah (zaj ze8)) zaq)
   (zaf (zfl (i := 11) sc_law.nd rfl rfl rfl (sc0 := zag zh6) (XN := ["_law_script", "_law_state", "_law_wood_here", "_law_prices_here", "_law_price_here", "_law_tree", "_law_k", "_law_way", "_law_turn", "_law_due_here", "_law_found", "_law_cheaper"]) (N' := ["_law_ware", "_law_price_here", "_law_prices_here"]) (n := 1) (kp := [4, 3]) rfl (piL (K := K) (zad G_wares hr.lv rfl T.K_wares (zaa (pv 2) zab))) rfl rfl (by decide +kernel) (fun _ _ _ _ _ => (za0 (i := 0) (by show List.Nodup (["_law_ware", "_law_price_here", "_law_prices_here"] : List Str); decide +kernel) rfl (Or.inl rfl))) (fun _ _ _ _ _ => (zcx (zal zf9 (zad G_law_price hr.lv rfl T.K_law_price (zaa (pv 2) (zaa (pv 0) zab))) (pv 1) (zak _)))) (fun _ _ _ _ _ => (pv 0)))
   (zah (zaz (PW.pt (zgb (zbu (pv 9)) (zeu (zal zg1 (zaw (zdd (K := K)) rfl T.m_len PySem.boot_len (zaa (pv 11) zab)) zac (zak _))))) (zah (zaj ze8)) zaq))))))), ?_⟩
  intro D pen wd lp m ts ps p t v kc Hc o6 o7 o8 o9 o10 o11 C kc0 kc1 dn dw dp nx
  refine ⟨_, rfl, pen, sp, ns, 3, kc, rfl, C.pn, kc0, by omega, by decide, fun y y0 y1 => ?_⟩
  have x1 := zam (pen := pen) (H := Hc) (.lst [.ref sp, .int (kc + 1)])
  have hp1 : L2.upd Hc pen (.lst [.ref sp, .int (kc + 1)]) pen = some (.lst [.ref sp, .int (kc + 1)]) := zae
  have d1 := WT.tupA (SameX.tup C.pn.at_ x1) (zbm _ dw) dn
  generalize L2.upd Hc pen (.lst [.ref sp, .int (kc + 1)]) = H1 at x1 hp1 d1 ⊢
  have C1 := C.to x1 hp1
  refine ⟨_, rfl, by rw [p62]; omega, by rw [p62]; omega, ?_⟩
  refine zet (n := y.toNat) (fun i σ H2 => ∃ (t' : WT) (v' : V) (kd : Int) (o8 : Option V), σ = [some (.ref sp), some (.ref pen), some (.ref wd), some (.ref lp), some (.int p), some v', o6, o7, o8, o9, o10, o11] ∧ LC K pen sp ns wd lp m ts ps a.t_cases_of a.t_best a.t_are_bounds kd H2 ∧ kc + 1 ≤ kd ∧ kd ≤ kc + 1 + 21 * i ∧ Dn H2 t'.toD v' ∧ t'.dw ∧ t'.depth ≤ t.depth + i) ⟨t, v, kc + 1, o8, rfl, C1, by omega, by omega, d1, dw, Nat.le_refl _⟩ ?_ ?_
  ·rintro i σ H2 hi ⟨t', v', kd, o8', rfl, C2, kd0, kd1, d2, dw2, dp2⟩
   obtain ⟨wx, wy, hw2⟩ := C2.wd
   refine ⟨_, rfl, _, rfl, wd, _, _, _, rfl, rfl, sqT hw2, at0, _, rfl, pen, sp, ns, m, 9, t', v', kd, rfl, C2.pn, by omega, by omega, C2.m1, C2.m9, by omega, by omega, d2, dw2, fun t3 v3 k3 H3 x3 hp3 k30 k31 d3 dw3 dp3 => ?_⟩
   exact ⟨t3, v3, k3, _, rfl, C2.to x3 hp3, by omega, by push_cast; omega, d3, dw3, by omega⟩
  rintro σ H2 ⟨t', v', kd, o8', rfl, C2, kd0, kd1, d2, dw2, dp2⟩
  have m9 := C2.m9
  have lm := C2.lm
  have W2 := C2.W
  refine ⟨_, rfl, _, rfl, _, rfl, _, rfl, wd, lp, m, ts, ps, p, t', v', rfl, W2, C2.m1, m9, C2.hlp, lm, d2, dw2, by omega, fun H3 s3 => ?_⟩
  have C3 := C2.same s3
  have d3 := Dn.same s3 _ _ d2
  refine ⟨_, rfl, _, rfl, lp, _, rfl, .inl (SqL.of C3.hlp), fun l4 nl4 => ?_⟩
  have s4 := zai nl4 (.lst (ps.map V.int))
  have g4 : L2.upd H3 l4 (.lst (ps.map V.int)) l4 = some (.lst (ps.map V.int)) := zae
  generalize L2.upd H3 l4 (.lst (ps.map V.int)) = H4 at s4 g4 ⊢
  have C4 := C3.same s4
  refine ⟨_, rfl, _, rfl, C4.tas, wd, l4, m, ts, ps, p, t', v', rfl, C4.W, C4.m1, m9, g4, lm, Dn.same s4 _ _ d3, zea _ dw2, by omega, fun H5 s5 => ?_⟩
  have C5 := C4.same s5
  have d5 := Dn.same (s4.trans s5) _ _ d3
  refine ⟨_, rfl, _, "bool", "bool", true, rfl, .bl _, rfl, _, rfl, ?_⟩
  refine zb3 rfl ?_
  refine ⟨_, rfl, _, rfl, rfl, _, rfl, ?_⟩
  refine zmf rfl ?_
  refine ⟨_, rfl, C5.ta, wd, m, ts, rfl, C5.W, C5.m1, m9, fun ls H6 s6 nls hls => ?_⟩
  have C6 := C5.same s6
  have few := zp7 (m := m) (ts := ts) m9
  refine ⟨ls, rfl, ⟨_, SqL.of hls⟩, ?_⟩
  refine zl1 (K := K) (fun x => decide (za6 ps x < p)) rfl hls (by omega) (fun x hx H7 s7 R hR => ?_) (fun H7 lc s7 nlc => ?_)
  ·refine ⟨_, rfl, _, rfl, lp, ps, x, rfl, s7 _ _ C6.hlp, by omega, fun H8 s8 => ?_⟩
   rw [← zf0 (by rw [lm]; exact (mem_wareL.mp hx).1)]
   exact ⟨_, rfl, _, _, rfl, rfl, _, rfl, hR H8 (s7.trans s8)⟩
  have s8 := s7.trans (zai nlc (.lst (zav ((zbh m ts).filter fun x => decide (za6 ps x < p)))))
  have g8 : L2.upd H7 lc (.lst (zav ((zbh m ts).filter fun x => decide (za6 ps x < p)))) lc = some (.lst (zav ((zbh m ts).filter fun x => decide (za6 ps x < p)))) := zae
  generalize L2.upd H7 lc (.lst (zav ((zbh m ts).filter fun x => decide (za6 ps x < p)))) = H8 at s8 g8 ⊢
  have C8 := C6.same s8
  have fin := nx t' v' kd H8 o6 o7 o8' (some (.bl (isT ts m (za2 m ts ps p) t' 1 0))) (some (.bl (isT ts m (za2 m ts ps p) t' 1 0))) (some (.ref lc)) C8 (by omega) (by omega) (Dn.same (s6.trans s8) _ _ d5) dw2 (by omega)
  refine ⟨_, rfl, _, rfl, ?_⟩
  cases c : isT ts m (za2 m ts ps p) t' 1 0 with
  | false =>
   refine zb3 rfl ?_
   refine zib ?_
   rw [c] at fin
   exact fin
  | true =>
   refine zdj rfl ?_
   have none : (zbh m ts).filter (fun x => decide (za6 ps x < p)) = [] := by
    rw [List.filter_eq_nil_iff]
    intro x hx z
    have z := of_decide_eq_true z
    have h2 := (mem_wareL.mp hx).2
    unfold zd3 at h2
    rw [Bool.and_eq_true] at h2
    have := zfk C8.W.ok lm hx t' 1 0 c (zfg C8.m1) (root_in.mpr h2.1)
    omega
   rw [none] at g8
   refine ⟨_, rfl, lc, _, rfl, .inl (SqL.of g8), _, _, rfl, rfl, _, rfl, ?_⟩
   refine zb3 rfl ?_
   rw [c] at fin
   exact fin
 obtain ⟨t4, h4, r4⟩ := tail4
 have tail3 : ∃ t3, PSs (zcj CX0 P w K mg base ["_law_script", "_law_state", "_law_wood_here", "_law_prices_here", "_law_price_here", "_law_tree", "_law_k", "_law_way", "_law_turn", "_law_due_here", "_law_found", "_law_cheaper"] "law" (zag zh6) a.f_law cdv A outer s H E).nox ((zsu (za3 zh6) [(5, false)]).drop 3) t3 ∧ ∀ (D : zj7) (pen wd lp : Addr) (m : Nat) (ts : List Tie) (ps : List Int) (p wy : Int) (B : Nat) (t : WT) (v : V) (kc : Int) (Hc : Hp) (o6 o8 o9 o10 o11 : Option V), LC K pen sp ns wd lp m ts ps a.t_cases_of a.t_best a.t_are_bounds kc Hc → 0 ≤ kc → kc ≤ 600000 → Dn Hc t.toD v → t.dw → t.depth ≤ B → 9 ≤ B → B ≤ 14 →
   (∀ (t' : WT) (v' : V) (kd : Int) (H' : Hp) (o6 o7 o8 o9 o10 o11 : Option V), LC K pen sp ns wd lp m ts ps a.t_cases_of a.t_best a.t_are_bounds kd H' → kc ≤ kd → kd ≤ kc + 50 → Dn H' t'.toD v' → t'.dw → t'.depth ≤ B + 2 → D.nx [some (.ref sp), some (.ref pen), some (.ref wd), some (.ref lp), some (.int p), some v', o6, o7, o8, o9, o10, o11] H') →
   t3 D [some (.ref sp), some (.ref pen), some (.ref wd), some (.ref lp), some (.int p), some v, o6, some (.int wy), o8, o9, o10, o11] Hc := by
  refine ⟨_, (zaf (zaz (zal za4 (pv 7) zac (zak _)) (zah (zat (i := 5) sc_law.nd rfl (Or.inl rfl) (zad G_cases hr.lv rfl T.K_cases (zaa (pv 2) (zaa zac (zaa zac zab)))))) zaq)
   h4), ?_⟩
  intro D pen wd lp m ts ps p wy B t v kc Hc o6 o8 o9 o10 o11 C kc0 kc1 dn dw dp b9 b14 nx
  refine ⟨_, rfl, rfl, _, rfl, ?_⟩
  refine zbl (fun _ => ?_) (fun _ => ?_)
  ·refine ⟨_, rfl, C.ta, wd, m, ts, 1, 0, rfl, C.W, C.m9, fun vc H1 s1 dc => ?_⟩
   rw [← zod] at dc
   have dpc : (zba ts (zci ts) m 9 1 0).toW.depth ≤ 9 := by rw [zf1]; exact zcg 9 1 0
   exact r4 D pen wd lp m ts ps p _ vc kc H1 _ _ _ _ _ _ (C.same s1) kc0 kc1 dc (zgl _ (zf2 _)) (by omega) fun t' v' kd H' o6 o7 o8 o9 o10 o11 C' k1 k2 dv dwv dpv => nx t' v' kd H' o6 o7 o8 o9 o10 o11 C' k1 k2 dv dwv (by omega)
  ·exact r4 D pen wd lp m ts ps p t v kc Hc _ _ _ _ _ _ C kc0 kc1 dn dw (by omega) fun t' v' kd H' o6 o7 o8 o9 o10 o11 C' k1 k2 dv dwv dpv => nx t' v' kd H' o6 o7 o8 o9 o10 o11 C' k1 k2 dv dwv (by omega)
 obtain ⟨t3, h3, r3⟩ := tail3
 refine ⟨_, (zaf (zat (i := 1) sc_law.nd rfl (Or.inl rfl) (zbz (zaa (pv 0) (zaa zac zab))))
   (zaf (zat (i := 2) sc_law.nd rfl (Or.inl rfl) (zad G_law_wood hr.lv rfl T.K_law_wood (zaa (pv 1) zab)))
   (zaf (zat (i := 3) sc_law.nd rfl (Or.inr rfl) (zad G_law_prices hr.lv rfl T.K_law_prices (zaa (pv 1) (zaa (zan (ixT (K := K)) (pv 2) zac (fun _ _ => rfl)) zab))))
   (zaf (zn4 (zad G_law_told hr.lv rfl T.K_law_told (zaa (pv 1) (zaa (pv 2) (zaa (pv 3) zab)))) (pgT (K := K) (n := 2) rfl (zb1 (za0 (i := 4) sc_law.nd rfl (Or.inr rfl)) (zb1 (za0 (i := 5) sc_law.nd rfl (Or.inl rfl)) zgw))))
   (zaf (zaz (zal zmb (zad G_are_bounds hr.lv rfl T.K_are_bounds (zaa (pv 2) (zaa (zbj zch rfl T.m_list PyProof.Rows.boot_list (zaa (pv 3) zab)) (zaa (pv 4) (zaa (pv 5) zab))))) ze8 (zak _)) (zah (zaj ze8)) zaq)
   (zaf (zgk PassesOwn.never rfl (zbr rfl T.m_range (zaa zac zab)) (za0 (i := 6) sc_law.nd rfl (Or.inl rfl)) (zaf (zat (i := 4) sc_law.nd rfl (Or.inr rfl) (zau zbv (pv 4) (zan (ixL (K := K)) (zbz (zaa zac (zaa zac (zaa zac (zaa zac (zaa (ztq zqn zac) (zaa (zau zbw zac (pv 4)) zab))))))) (zad G_law_take hr.lv rfl T.K_law_take (zaa (pv 1) (zaa zac zab))) (fun _ _ => rfl))))
   (zaf (zat (i := 7) sc_law.nd rfl (Or.inl rfl) (zad G_law_take hr.lv rfl T.K_law_take (zaa (pv 1) (zaa zac zab))))
   (zaf (zaz (zal za4 (pv 7) zac (zak _)) (zah (zat (i := 5) sc_law.nd rfl (Or.inl rfl) (zad G_law_drawn hr.lv rfl T.K_law_drawn (zaa (pv 1) (zaa (zan (ixT (K := K)) (pv 2) zac (fun _ _ => rfl)) (zaa zac zab)))))) zaq)
   h3))))
   (zah (zaj ze8)))))))), ?_⟩
 refine ⟨_, rfl, small (by show 2 ≤ 1000; decide), fun pen hpen => ?_⟩
 have pn := zs0 hS hl hpen
 have s1 := zai hpen (.lst [.ref sp, .int 0])
 generalize L2.upd H pen (.lst [.ref sp, .int 0]) = H1 at pn s1 ⊢
 refine ⟨_, rfl, pen, sp, ns, 0, rfl, pn, by decide, by decide, fun wd m bs cs k2 H2 x2 hp2 k20 k21 m1 m9 WX lc2 => ?_⟩
 obtain ⟨ts, _, ok, tl29, hW⟩ := WX.ties
 have W2 := hW H2 (zj9 _)
 obtain ⟨_, _, ⟨tb, tc, hw, _, _⟩, _⟩ := W2.ex
 refine ⟨_, rfl, _, rfl, wd, _, _, _, rfl, rfl, sqT hw, at0, pen, sp, ns, m, k2, rfl, pn.to x2 hp2, by omega, by omega, m9, fun lp ps k3 H3 x3 hp3 k30 k31 nlp hlp lm => ?_⟩
 have lpp : lp ≠ pen := fun z => by rw [z, hp2] at nlp; cases nlp
 have x13 := x2.trans x3
 have C3 : LC K pen sp ns wd lp m ts ps a.t_cases_of a.t_best a.t_are_bounds k3 H3 := ⟨pn.to x13 hp3, fun H' t => hW H' (zb5 (SameX.tup hp2 x3) t), m1, m9, hlp, lm, lpp, x13.tab pn.at_ (s1.tab ta), x13.tab pn.at_ (s1.tab tab), x13.tab pn.at_ (s1.tab tas)⟩
 refine ⟨_, rfl, _, rfl, _, rfl, C3.ta, C3.tab, pen, sp, ns, wd, lp, m, ts, ps, k3, rfl, C3.pn, by omega, by omega, C3.W, m1, m9, hlp, lm, fun a4 p4 t4' v4 k4 H4 x4 hp4 k40 k41 ha4 d4 dw4 dp4 is4 => ?_⟩
 have C4 := C3.to x4 hp4
 refine ⟨a4, _, rfl, sqT ha4, rfl, _, _, rfl, _, _, rfl, rfl, ?_⟩
 refine ⟨_, rfl, _, rfl, lp, _, rfl, .inl (SqL.of C4.hlp), fun l5 nl5 => ?_⟩
 have s5 := zai nl5 (.lst (ps.map V.int))
 have g5 : L2.upd H4 l5 (.lst (ps.map V.int)) l5 = some (.lst (ps.map V.int)) := zae
 generalize L2.upd H4 l5 (.lst (ps.map V.int)) = H5 at s5 g5 ⊢
 have C5 := C4.same s5
 refine ⟨_, rfl, _, rfl, C5.tas, wd, l5, m, ts, ps, p4, t4', v4, rfl, C5.W, m1, m9, g5, lm, Dn.same s5 _ _ d4, zea _ dw4, by omega, fun H6 s6 => ?_⟩
 rw [is4]
 have C6 := C5.same s6
 have d6 := Dn.same (s5.trans s6) _ _ d4
 refine ⟨_, _, rfl, rfl, _, rfl, ?_⟩
 refine zb3 rfl ?_
 refine ⟨_, rfl, by rw [p62]; omega, by rw [p62]; omega, ?_⟩
 refine zet (n := 3) (fun i σ Hx => ∃ (p : Int) (t : WT) (v : V) (kc : Int) (o6 o7 o8 o9 o10 o11 : Option V), σ = [some (.ref sp), some (.ref pen), some (.ref wd), some (.ref lp), some (.int p), some v, o6, o7, o8, o9, o10, o11] ∧ LC K pen sp ns wd lp m ts ps a.t_cases_of a.t_best a.t_are_bounds kc Hx ∧ k4 ≤ kc ∧ kc ≤ k4 + 200 * i ∧ Dn Hx t.toD v ∧ t.dw ∧ t.depth ≤ 9 + 2 * i) ⟨p4, t4', v4, k4, none, none, none, none, none, none, rfl, C6, by omega, by omega, d6, dw4, by omega⟩ ?_ ?_
 ·rintro i σ Hx hi ⟨p, t, v, kc, o6, o7, o8, o9, o10, o11, rfl, C, kc0, kc1, dt, dwt, dpt⟩
  refine ⟨_, rfl, _, rfl, _, rfl, _, _, rfl, rfl, small (by show 6 ≤ 1000; decide), fun lt nlt => ?_⟩
  dsimp only at nlt ⊢
  have s7 := zai nlt (.lst [.int 0, .int 0, .int 0, .int 1, .int (-1), .int (0 - p)])
  have g7 : L2.upd Hx lt (.lst [.int 0, .int 0, .int 0, .int 1, .int (-1), .int (0 - p)]) lt = some (.lst [.int 0, .int 0, .int 0, .int 1, .int (-1), .int (0 - p)]) := zae
  have ltp : lt ≠ pen := fun z => by rw [z, C.pn.at_] at nlt; cases nlt
  generalize L2.upd Hx lt (.lst [.int 0, .int 0, .int 0, .int 1, .int (-1), .int (0 - p)]) = H7 at s7 g7 ⊢
  have C7 := C.same s7
  refine ⟨_, rfl, pen, sp, ns, 6, kc, rfl, C7.pn, by omega, by omega, by decide, fun y y0 y1 => ?_⟩
  have x8 := zam (pen := pen) (H := H7) (.lst [.ref sp, .int (kc + 1)])
  have hp8 : L2.upd H7 pen (.lst [.ref sp, .int (kc + 1)]) pen = some (.lst [.ref sp, .int (kc + 1)]) := zae
  generalize L2.upd H7 pen (.lst [.ref sp, .int (kc + 1)]) = H8 at x8 hp8 ⊢
  have C8 := C7.to x8 hp8
  have g8 := x8 _ _ ltp g7
  obtain ⟨z, hz⟩ : ∃ z : Int, atI [V.int 0, V.int 0, V.int 0, V.int 1, V.int (-1), V.int (0 - p)] y = some (.int z) := by
   rcases (by omega : y = 0 ∨ y = 1 ∨ y = 2 ∨ y = 3 ∨ y = 4 ∨ y = 5) with e | e | e | e | e | e <;> rw [e]
   ·exact ⟨0, rfl⟩
   ·exact ⟨0, rfl⟩
   ·exact ⟨0, rfl⟩
   ·exact ⟨1, rfl⟩
   ·exact ⟨-1, rfl⟩
   ·exact ⟨0 - p, rfl⟩
  refine ⟨lt, _, _, .int z, rfl, rfl, SqL.of g8, hz, _, _, rfl, rfl, ?_⟩
  refine ⟨_, rfl, pen, sp, ns, 6, kc + 1, rfl, C8.pn, by omega, by omega, by decide, fun wy w0 w1 => ?_⟩
  have x9 := zam (pen := pen) (H := H8) (.lst [.ref sp, .int (kc + 1 + 1)])
  have hp9 : L2.upd H8 pen (.lst [.ref sp, .int (kc + 1 + 1)]) pen = some (.lst [.ref sp, .int (kc + 1 + 1)]) := zae
  generalize L2.upd H8 pen (.lst [.ref sp, .int (kc + 1 + 1)]) = H9 at x9 hp9 ⊢
  have C9 := C8.to x9 hp9
  have d9 := WT.tupA (zb5 (Same.tup s7) (SameX.tup C7.pn.at_ (x8.trans x9))) (zbm _ dwt) dt
  refine ⟨_, rfl, rfl, _, rfl, ?_⟩
  refine zbl (fun _ => ?_) (fun _ => ?_)
  ·obtain ⟨wx, wy', hw9⟩ := C9.wd
   refine ⟨_, rfl, _, rfl, wd, _, _, _, rfl, rfl, sqT hw9, at0, pen, sp, ns, m, 4, kc + 1 + 1, rfl, C9.pn, by omega, by omega, m9, by omega, by omega, fun ta va ka Ha xa hpa ka0 ka1 da dwa dpa => ?_⟩
   have e16 : ((2 ^ 4 : Nat) : Int) = 16 := by decide
   rw [e16] at ka1
   refine r3 _ pen wd lp m ts ps (p + z) wy (9 + 2 * i) ta va ka Ha _ _ _ _ _ (C9.to xa hpa) (by omega) (by omega) da dwa (by omega) (by omega) (by omega) fun t' v' kd H' o6 o7 o8 o9 o10 o11 C' k1 k2 dv dwv dpv => ?_
   exact ⟨p + z, t', v', kd, o6, o7, o8, o9, o10, o11, rfl, C', by omega, by push_cast; omega, dv, dwv, by omega⟩
  ·refine r3 _ pen wd lp m ts ps (p + z) wy (9 + 2 * i) t v (kc + 1 + 1) H9 _ _ _ _ _ C9 (by omega) (by omega) d9 dwt (by omega) (by omega) (by omega) fun t' v' kd H' o6 o7 o8 o9 o10 o11 C' k1 k2 dv dwv dpv => ?_
   exact ⟨p + z, t', v', kd, o6, o7, o8, o9, o10, o11, rfl, C', by omega, by push_cast; omega, dv, dwv, by omega⟩
 rintro σ Hx ⟨p, t, v, kc, o6, o7, o8, o9, o10, o11, rfl, C, kc0, kc1, dt, dwt, dpt⟩
 exact q _
end
theorem all_mk {l : PySem.W.OpenLaw} {w : World} {K : PySem.W.Frag} {h : Heap} {mg : Str → Option Value} {fa f1 f2 f3 f4 f5 f6 f7 f8 f9 f10 f11 f12 f13 f14 f15 f16 f17 f18 f19 f20 f21 f22 f23 f24 f25 f26 f27 f28 f29 f30 f31 f32 f33 f34 f35 f36 f37 f38 f39 f40 f41 f42 f43 f44 f45 f46 f47 f48 f49 cc18 tt18 cc27 tt27 cc28 tt28 : Addr} (X : K.In h) (G : h.Ns mainGlobals mg) (hfa : mg "law" = some (.ref fa))
  {d1 d2 d3 d4 d5 d6 d7 d8 d9 d10 d11 d12 d13 d14 d15 d16 d17 d18 d19 d20 d21 d22 d23 d24 d25 d26 d27 d28 d29 d30 d31 d32 d33 d34 d35 d36 d37 d38 d39 d40 d41 d42 d43 d44 d45 d46 d47 d48 d49 : FuncData}
  {coc18 : Value} {cod18 : Option Addr} {cvs18 : Array Value} {csl18 : Array (Option Value)}
  {coc27 : Value} {cod27 : Option Addr} {cvs27 : Array Value} {csl27 : Array (Option Value)}
  {coc28 : Value} {cod28 : Option Addr} {cvs28 : Array Value} {csl28 : Array (Option Value)}
  (a1 : Dk K "has" zrc f1 d1)
  (a2 : Dk K "options_of" zc7 f2 d2)
  (a3 : Dk K "with_option" zdt f3 d3)
  (a4 : Dk K "open_options" zck f4 d4)
  (a5 : Dk K "many_ties" zfb f5 d5)
  (a6 : Dk K "tie_at" ziu f6 d6)
  (a7 : Dk K "keeps" zij f7 d7)
  (a8 : Dk K "keeps_bough" zdx f8 d8)
  (a9 : Dk K "count_in" zeo f9 d9)
  (a10 : Dk K "every_tie" zfq f10 d10)
  (a11 : Dk K "first_broken" zdg f11 d11)
  (a12 : Dk K "is_ware" zha f12 d12)
  (a13 : Dk K "sure_broken" zdu f13 d13)
  (a14 : Dk K "least_sum" zdn f14 d14)
  (a15 : Dk K "sure_broken_bough" za1 f15 d15)
  (a16 : Dk K "first_sure_broken" zb6 f16 d16)
  (a17 : Dk K "cases" zk5 f17 d17)
  (a18 : Dk K "cases_of" zb4 f18 d18)
  (e18 : d18.code = .ref cc18) (m18 : K.lookup cc18 = some ⟨coc18, cod18, .fields cvs18, csl18⟩) (n18 : (cvs18[11]? : Option Value) = some (.ref tt18))
  (a19 : Dk K "ware_leaf" zfc f19 d19)
  (a20 : Dk K "is_ware_leaf" zdf f20 d20)
  (a21 : Dk K "told_tree" zcy f21 d21)
  (a22 : Dk K "is_tree" zhd f22 d22)
  (a23 : Dk K "is_broken_leaf" zcv f23 d23)
  (a24 : Dk K "wares_in" zgd f24 d24)
  (a25 : Dk K "wares" zkv f25 d25)
  (a26 : Dk K "price_of" zef f26 d26)
  (a27 : Dk K "best" zdy f27 d27)
  (e27 : d27.code = .ref cc27) (m27 : K.lookup cc27 = some ⟨coc27, cod27, .fields cvs27, csl27⟩) (n27 : (cvs27[11]? : Option Value) = some (.ref tt27))
  (a28 : Dk K "are_bounds" zbt f28 d28)
  (e28 : d28.code = .ref cc28) (m28 : K.lookup cc28 = some ⟨coc28, cod28, .fields cvs28, csl28⟩) (n28 : (cvs28[11]? : Option Value) = some (.ref tt28))
  (a29 : Dk K "is_dear" zhc f29 d29)
  (a30 : Dk K "dear_leaf" zfh f30 d30)
  (a31 : Dk K "is_bound_leaf" zc4 f31 d31)
  (a32 : Dk K "_law_take" zdc f32 d32)
  (a33 : Dk K "_law_bough" zfa f33 d33)
  (a34 : Dk K "_law_boughs" zcf f34 d34)
  (a35 : Dk K "_law_most" zda f35 d35)
  (a36 : Dk K "_law_cross" zez f36 d36)
  (a37 : Dk K "_law_wood" zb0 f37 d37)
  (a38 : Dk K "_law_has" zhi f38 d38)
  (a39 : Dk K "_law_prices" zcn f39 d39)
  (a40 : Dk K "_law_price" zdq f40 d40)
  (a41 : Dk K "_law_sets" zed f41 d41)
  (a42 : Dk K "_law_ties" zgj f42 d42)
  (a43 : Dk K "_law_leaf" zcb f43 d43)
  (a44 : Dk K "_law_due" zho f44 d44)
  (a45 : Dk K "_law_drawn" zc1 f45 d45)
  (a46 : Dk K "_law_other_leaf" zbd f46 d46)
  (a47 : Dk K "_law_bent" zdi f47 d47)
  (a48 : Dk K "_law_told" zgh f48 d48)
  (a49 : Dk K "law" zh6 f49 d49)
  (z1 : PySem.W.nsIn K mainGlobals "range" = some none)
  (z2 : PySem.W.nsIn K mainGlobals "len" = some none)
  (z3 : PySem.W.nsIn K mainGlobals "isinstance" = some none)
  (z4 : PySem.W.nsIn K mainGlobals "min" = some none)
  (z5 : PySem.W.nsIn K mainGlobals "all" = some none)
  (z6 : PySem.W.nsIn K mainGlobals "int" = some none)
  (z7 : PySem.W.nsIn K mainGlobals "bool" = some none)
  (z8 : PySem.W.nsIn K mainGlobals "list" = some none)
  (z9 : PySem.W.nsIn K mainGlobals "tuple" = some none)
  (z10 : PySem.W.nsIn K mainGlobals "sorted" = some none)
  (z11 : PySem.W.nsIn K mainGlobals "enumerate" = some none)
  (z12 : PySem.W.nsIn K mainGlobals "sum" = some none)
  : (∃ fd : FuncData, (∀ (s : Shared) (v : Value), BindsTo s fd ⟨[v], []⟩ [("_law_script", v)]) ∧ ∀ base : Heap, K.In base → base.Ns mainGlobals mg → (∀ p ∈ ([(cc18, tt18), (cc27, tt27), (cc28, tt28)] : List (Addr × Addr)), zfr mg base p.1 p.2) → FnOk l.prog w K mg base CX0 33 fa fd ["_law_script"] (spT tt18 (spT tt27 (spT tt28 (zos K))))) := by
 have e := hfa.symm.trans (PySem.W.mg_of X G a49.1)
 cases e
 have T : Txt K mg ⟨f1, f2, f3, f4, f5, f6, f7, f8, f9, f10, f11, f12, f13, f14, f15, f16, f17, f18, f19, f20, f21, f22, f23, f24, f25, f26, f27, f28, f29, f30, f31, f32, f33, f34, f35, f36, f37, f38, f39, f40, f41, f42, f43, f44, f45, f46, f47, f48, fa, cc18, tt18, cc27, tt27, cc28, tt28⟩ ⟨d1, d2, d3, d4, d5, d6, d7, d8, d9, d10, d11, d12, d13, d14, d15, d16, d17, d18, d19, d20, d21, d22, d23, d24, d25, d26, d27, d28, d29, d30, d31, d32, d33, d34, d35, d36, d37, d38, d39, d40, d41, d42, d43, d44, d45, d46, d47, d48, d49⟩ := ⟨PySem.W.mg_none_of X G z1, PySem.W.mg_none_of X G z2, PySem.W.mg_none_of X G z3, PySem.W.mg_none_of X G z4, PySem.W.mg_none_of X G z5, PySem.W.mg_none_of X G z6, PySem.W.mg_none_of X G z7, PySem.W.mg_none_of X G z8, PySem.W.mg_none_of X G z9, PySem.W.mg_none_of X G z10, PySem.W.mg_none_of X G z11, PySem.W.mg_none_of X G z12, a1.df X G (bd2 fun _ _ _ _ _ _ _ _ => rfl), a2.df X G (bd1 fun _ _ _ _ _ _ _ => rfl), a3.df X G (bd2 fun _ _ _ _ _ _ _ _ => rfl), a4.df X G (bd3 fun _ _ _ _ _ _ _ _ _ => rfl), a5.df X G (bd1 fun _ _ _ _ _ _ _ => rfl), a6.df X G (bd2 fun _ _ _ _ _ _ _ _ => rfl), a7.df X G (bd2 fun _ _ _ _ _ _ _ _ => rfl), a8.df X G (bd2 fun _ _ _ _ _ _ _ _ => rfl), a9.df X G (bd2 fun _ _ _ _ _ _ _ _ => rfl), a10.df X G (bd1 fun _ _ _ _ _ _ _ => rfl), a11.df X G (bd2 fun _ _ _ _ _ _ _ _ => rfl), a12.df X G (bd2 fun _ _ _ _ _ _ _ _ => rfl), a13.df X G (bd3 fun _ _ _ _ _ _ _ _ _ => rfl), a14.df X G (bd3 fun _ _ _ _ _ _ _ _ _ => rfl), a15.df X G (bd3 fun _ _ _ _ _ _ _ _ _ => rfl), a16.df X G (bd4 fun _ _ _ _ _ _ _ _ _ _ => rfl), a17.df X G (bd3 fun _ _ _ _ _ _ _ _ _ => rfl), a18.df X G (bd4 fun _ _ _ _ _ _ _ _ _ _ => rfl), a19.df X G (bd3 fun _ _ _ _ _ _ _ _ _ => rfl), a20.df X G (bd4 fun _ _ _ _ _ _ _ _ _ _ => rfl), a21.df X G (bd5 fun _ _ _ _ _ _ _ _ _ _ _ => rfl), a22.df X G (bd5 fun _ _ _ _ _ _ _ _ _ _ _ => rfl), a23.df X G (bd4 fun _ _ _ _ _ _ _ _ _ _ => rfl), a24.df X G (bd2 fun _ _ _ _ _ _ _ _ => rfl), a25.df X G (bd1 fun _ _ _ _ _ _ _ => rfl), a26.df X G (bd2 fun _ _ _ _ _ _ _ _ => rfl), a27.df X G (bd2 fun _ _ _ _ _ _ _ _ => rfl), a28.df X G (bd4 fun _ _ _ _ _ _ _ _ _ _ => rfl), a29.df X G (bd4 fun _ _ _ _ _ _ _ _ _ _ => rfl), a30.df X G (bd4 fun _ _ _ _ _ _ _ _ _ _ => rfl), a31.df X G (bd6 fun _ _ _ _ _ _ _ _ _ _ _ _ => rfl), a32.df X G (bd2 fun _ _ _ _ _ _ _ _ => rfl), a33.df X G (bd3 fun _ _ _ _ _ _ _ _ _ => rfl), a34.df X G (bd2 fun _ _ _ _ _ _ _ _ => rfl), a35.df X G (bd2 fun _ _ _ _ _ _ _ _ => rfl), a36.df X G (bd2 fun _ _ _ _ _ _ _ _ => rfl), a37.df X G (bd1 fun _ _ _ _ _ _ _ => rfl), a38.df X G (bd2 fun _ _ _ _ _ _ _ _ => rfl), a39.df X G (bd2 fun _ _ _ _ _ _ _ _ => rfl), a40.df X G (bd2 fun _ _ _ _ _ _ _ _ => rfl), a41.df X G (bd3 fun _ _ _ _ _ _ _ _ _ => rfl), a42.df X G (bd1 fun _ _ _ _ _ _ _ => rfl), a43.df X G (bd6 fun _ _ _ _ _ _ _ _ _ _ _ _ => rfl), a44.df X G (bd4 fun _ _ _ _ _ _ _ _ _ _ => rfl), a45.df X G (bd3 fun _ _ _ _ _ _ _ _ _ => rfl), a46.df X G (bd3 fun _ _ _ _ _ _ _ _ _ => rfl), a47.df X G (bd4 fun _ _ _ _ _ _ _ _ _ _ => rfl), a48.df X G (bd3 fun _ _ _ _ _ _ _ _ _ => rfl), a49.df X G (bd1 fun _ _ _ _ _ _ _ => rfl), e18, e27, e28⟩
 exact ⟨d49, zvq a49.2 fun _ _ _ _ _ _ _ => rfl, fun base _ _ LL => zu0 T (LL _ List.mem_cons_self) (LL _ (List.mem_cons_of_mem _ List.mem_cons_self)) (LL _ (List.mem_cons_of_mem _ (List.mem_cons_of_mem _ List.mem_cons_self)))⟩
theorem walk {l : PySem.W.OpenLaw} {q : Program} {loose : List Str} {XP : (Str → Option Value) → Heap → Prop} {YP : World → Heap → Prop} {d : DefRec} {K : Params → PySem.W.Frag} {c18 P18 c27 P27 c28 P28 : Addr} (hn : l.most = some 63) (hdf : d.params.defaults = [])
  (hY : ∀ (w : World) (h : Heap), YP w h → (K w.params).In h)
  (hK0 : ∀ w : World, PySem.W.noTabs (K w.params) = true) (hT : ∀ (w : World) (h : Heap), YP w h → PySem.W.TabsAt [(c18, P18), (c27, P27), (c28, P28)] h)
(F : ∀ (w : World) (mg : Str → Option Value) (fa : Addr) (h : Heap), (K w.params).In h → h.Ns mainGlobals mg → mg d.name = some (.ref fa) →
   ∃ fd : FuncData, (∀ (s : Shared) (u : Value), BindsTo s fd ⟨[u], []⟩ [("_law_script", u)]) ∧ ∀ base : Heap, (K w.params).In base → base.Ns mainGlobals mg → (∀ p ∈ ([(c18, P18), (c27, P27), (c28, P28)] : List (Addr × Addr)), zfr mg base p.1 p.2) → FnOk l.prog w (K w.params) mg base CX0 33 fa fd ["_law_script"] (spT P18 (spT P27 (spT P28 (zos (K w.params)))))) :
  PySem.W.WalkO q loose XP YP l.row.toRowW d [] (fun f vs => PySem.call f vs) :=
 L2.walk_ofT (n := 63) (k := 33) (x := "_law_script") (tabs := fun _ => [(c18, P18), (c27, P27), (c28, P28)]) (sp := fun w => (spT P18 (spT P27 (spT P28 (zos (K w.params)))))) hn (by decide) hdf ⟨rfl, by decide, by decide⟩ hY hK0 hT F (fun _ _ a ns hl hT hS => ⟨hT _ List.mem_cons_self, hT _ (List.mem_cons_of_mem _ List.mem_cons_self), hT _ (List.mem_cons_of_mem _ (List.mem_cons_of_mem _ List.mem_cons_self)), a, ns, rfl, hS, hl, fun _ => rfl⟩)
end Ow
set_option genSizeOf false
structure PySem.W.Fast where
 (tw2830151295657384496 tw7375352219714135011 tw6625144929309578782 tw12283590365577987215 tw11848583338463190380 tw6925367376204978321 tw9935141653712733982 tw14415670855816158284 tw15871093698345610542 tw3448261390836519294 tw10414812534986076638 tw4695188653601555303 tw3541924076331979845 tw5766666614746401902 tw18105941657983645225 tw7038602727370001177 tw5348200218362505996 tw12524214402826043302 tw1142935528926761410 tw16989616081860256861 tw11631738128080088263 tw4143214390973786551 tw1732055283767867546 tw11151111654731757794 tw3263507816534529650 tw17976880073412281585 tw10066010580675460821 tw10544739529338083179 tw4275826909649954636 tw5541488868196108387 tw493797782073971170 tw12565264823313308304 tw13345001524107605835 tw7550924537855701259 tw11276093230911944362 tw11141681417979708318 tw999684736353261348 tw18340192512228489342 tw9462528454883779614 tw18227932811587925399 tw7361225513569981263 tw16544117536397784630 tw17823335453814253396 tw10516574546439296190 tw6546822359728466389 tw6888901366935844664 tw6041301654505786489 tw13903436263784766203 tw6978401261887167756 tw15271208919410816244 tw6272777472365594767 tw4087349504092387326 tw3001973847724263396 tw17669031445412741087 tw15695444459799204640 tw7689516496971060042 tw11971274336991756326 tw1874863446176997708 tw7449099252543021602 tw2683824318827855455 tw7817482675182563456 tw13017747950979352077 tw3563705212758163452 tw10015523628957760424 tw17390483552661854737 tw4848753792330324821 tw6307601641311119311 tw9685916446670965777 tw18310002807335409339 tw17201668721316453093 tw1629894735686642922 tw11032121141991381611 tw8429573295691095479 tw16363480529693529010 tw5584436697728180612 tw16939734060055169678 tw9834631056598302650 tw13221554861552666209 tw9518480607424833611 tw13911367049139965140 tw1719372360457596030 tw1265790605451098302 tw14752412110551852096 tw8890903823154213737 tw11466819124834917536 tw2064700165285969637 tw744501647879294335 tw14560016657374781116 tw2031872306792096164 tw3055729456008498194 tw18273000635833729043 tw14256584356298440277 tw10833974554816365391 tw3553782685007046347 tw7851084490825734288 tw1090399629610223056 tw5127093810349787877 tw9813221895193609314 tw13738834037429696287 tw15557389647668946594 tw5115155740509052607 tw5631453398800054158 tw10678166478839571953 tw17261995141501389209 tw8627759701248612229 tw7825287142774816096 tw10305151442956050846 tw1685268063795421034 tw2765354348590155863 tw17550488072522257911 tw12405665560163606354 tw14518362638426588449 tw6709179935836181419 tw1083348603108750057 tw13234110060777041510 tw3433470856527097041 tw6998361585855553588 tw11049730702116166084 tw4969133494976728470 tw3426433697240904483 tw12071062879271930997 tw12906461701056674708 tw9413485425755769547 tw14679396348835427084 tw3357196232599725917 tw16159435146013811967 tw12080395647843349078 tw1403805778564653057 tw16475306533557607109 tw3838910914695296582 tw16648382858345890330 tw12387633216490197554 tw15348503953742602738 tw13794561854587031746 tw3023646513957878652 tw6056721784650953046 tw17607460059125338610 tw3206786672775351640 tw3141749614673004957 tw9139730711304547705 tw8227183568917034625 tw7846381353498605462 tw6241724228999216813 tw16045062129110285521 tw5499190780106784062 tw7837916300698254837 tw12673752856338826865 tw15926118029682050021 tw15267248333947251632 tw13628677802198700821 tw6116470078418071780 tw6387167651138488593 tw13410101542741088418 tw9351600171659558241 tw4703851233710735233 tw5595133937797656328 tw10391513172369809815 tw3920028310840291534 tw2122515831848336765 tw835779274746262031 tw16471867647357947972 tw5587785157914315033 tw1484924239526926377 tw11067444406893200502 tw13003551764833974928 tw8700459672111779049 tw7612327548228858988 tw5721729329952219091 tw810403721140779927 tw9680675623442346914 tw12124508233859157206 tw3651872476316726895 tw13799511810307082991 tw609813687853665789 tw5511639147031625762 tw1260145042674908157 tw2896752796933849094 tw14179500852450051667 tw15915422627707521126 tw10612389287148823398 tw6784971693273098050 tw6719625999821103332 tw14067617730827427608 tw1612123365416490059 tw12426216762417364366 tw1477219654180181670 tw14018318954910367361 tw16414795993637402052 tw1815234103613915423 tw7820811047302384346 tw1296980134779894810 tw4728433808699110540 tw10682925451701498790 tw4209715067126729144 tw14577566946542734519 tw3964058781182402052 tw13430825742218176672 tw7753246312175335516 tw17263828627904378440 tw12860424456014836629 tw4072632969728591318 tw11852942579882252692 tw11585874704870909291 tw2795325571217831891 tw12551771398887476949 tw16240465377044435085 tw17481128639480874503 tw17513867279001160309 tw6686980564627614215 tw7990803292752231041 tw1822460436903435117 tw12418766220664343724 tw4506853922556701019 tw9319268259234156563 tw15754614134035012151 tw9270397611925472886 tw15544739521145450557 tw14510281210041690961 tw17030040627033594465 tw6269013223966724561 tw8885141998419245412 tw8037673251500949038 tw4778404450106285554 tw11284605552184830934 tw5869517740733731849 tw17432671978780700831 tw17026844684343217000 tw17291795980652844089 tw3283053276700516920 tw15679481025295085505 tw427237005735177974 tw6177213309743937594 tw5383046832848390828 tw9002373303959476784 tw11644621889866039653 tw3775191109793701625 tw1895213077756587450 tw3281858200601155628 tw12409635789328307695 tw13323509080611886807 tw14998802932592621213 tw11641087264218276006 tw6140588226569436344 tw4926886187073620625 tw7411192581579526213 tw11942794886102470888 tw2725030653519337896 tw7818980511541630833 tw16383345274925164971 tw2272941872494909792 tw14927214179191307095 tw16367572031999139693 tw17875543765831283380 tw1511963280365434655 tw4539752297752141499 tw16489958693770600874 tw14543699164842908110 tw17984445852834090933 tw16133526576653045935 tw16949867094124130501 tw7584151027231870673 tw9054322890467092887 tw10616529255658035937 tw8482541803541324874 tw17877853073062719031 tw11837217701292496338 tw17660143709979598872 tw10711743260389961879 tw10241653198360869559 tw5822847053655305206 tw17224756700836156119 tw14144390952283764314 tw1959239626202334151 tw7007284676881560431 tw2913654043598026321 tw12298825215979890491 tw12983260981037880969 tw838968007888014070 tw12871620382848049692 tw11224850223467587486 tw4070899118468130824 tw16204137965776521810 tw11878265372232000437 tw3231695603050200636 tw7579681767874777102 tw15505252262625685661 tw6176662393225832086 tw2501950353358373006 tw17762579592626731443 tw15178215047385734183 tw17568700916035979711 tw5254616593540678247 tw3467147425380992932 tw13143519926151086796 : Unit)
namespace Ow
end Ow
open PySem PySem.W PyProof.Rows
set_option maxRecDepth 100000 in
set_option maxHeartbeats 0 in
theorem PySem.Challenge.cw_optionwood_k61_trees_of_bounds_holds : PySem.Challenge.rw_optionwood_k61_trees_of_bounds.Holds := by
 w_on; o_law; k_head; (case hw => w_witness2)
 k_fill
 refine' Ow.walk (l := PySem.Challenge.rw_optionwood_k61_trees_of_bounds) (c18 := _) (P18 := _) (c27 := _) (P27 := _) (c28 := _) (P28 := _) rfl rfl (fun w h Y => PySem.W.km_in_of Y) ?K0 ?hT ?F
 case F =>
  intro w mg fa h KX G hmg
  refine' Ow.all_mk KX G hmg ?a1 ?a2 ?a3 ?a4 ?a5 ?a6 ?a7 ?a8 ?a9 ?a10 ?a11 ?a12 ?a13 ?a14 ?a15 ?a16 ?a17 ?a18 ?e18 ?m18 ?n18 ?a19 ?a20 ?a21 ?a22 ?a23 ?a24 ?a25 ?a26 ?a27 ?e27 ?m27 ?n27 ?a28 ?e28 ?m28 ?n28 ?a29 ?a30 ?a31 ?a32 ?a33 ?a34 ?a35 ?a36 ?a37 ?a38 ?a39 ?a40 ?a41 ?a42 ?a43 ?a44 ?a45 ?a46 ?a47 ?a48 ?a49 ?z1 ?z2 ?z3 ?z4 ?z5 ?z6 ?z7 ?z8 ?z9 ?z10 ?z11 ?z12
  all_goals try (refine' L2.dk ?a ?l ?c ?k; (case a => k_is); (case l => k_is); (case c => k_is); (case k => k_is))
  (case e18 => exact rfl)
  (case m18 => k_is)
  (case n18 => exact rfl)
  (case e27 => exact rfl)
  (case m27 => k_is)
  (case n27 => exact rfl)
  (case e28 => exact rfl)
  (case m28 => k_is)
  (case n28 => exact rfl)
  (case z1 => k_is)
  (case z2 => k_is)
  (case z3 => k_is)
  (case z4 => k_is)
  (case z5 => k_is)
  (case z6 => k_is)
  (case z7 => k_is)
  (case z8 => k_is)
  (case z9 => k_is)
  (case z10 => k_is)
  (case z11 => k_is)
  (case z12 => k_is)
 case K0 => intro w; kernel_rfl
 case hT =>
  intro w h Y q hq
  simp only [List.mem_cons, List.not_mem_nil, or_false] at hq
  rcases hq with rfl | rfl | rfl
  ·exact ⟨PySem.W.codeHd_of_K (PySem.W.km_in_of Y) (by kernel_rfl), PySem.W.km_tabs_of Y _ (by decide)⟩
  ·exact ⟨PySem.W.codeHd_of_K (PySem.W.km_in_of Y) (by kernel_rfl), PySem.W.km_tabs_of Y _ (by decide)⟩
  ·exact ⟨PySem.W.codeHd_of_K (PySem.W.km_in_of Y) (by kernel_rfl), PySem.W.km_tabs_of Y _ (by decide)⟩
#print axioms PySem.Challenge.cw_optionwood_k61_trees_of_bounds_holds
