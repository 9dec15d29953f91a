import PyProof.Rows.All
import Wide.All
import OpenK.AllK
import Wide.FinOn
import Lean
import PyProof.EqAt
import PyProof.EqKinds
import PyProof.TupleCall
import PySem.Challenge.RW_optionwood_k43_why_asked_of_others
set_option Elab.async false
set_option linter.all false
set_option maxRecDepth 100000
set_option maxRecDepth 100000
set_option maxHeartbeats 4000000
namespace L2
open PySem PySem.Spec PyProof.Rows
abbrev Key := Sum Int Str
def zv0 : Key → Value → Bool
 | .inl k, v => Value.isInt k v
 | .inr x, v => Value.isStrOf x v
def zy1 (w : World) : Key → Int
 | .inl k => hashInt k
 | .inr x => hashStr w x
theorem zbr : ∀ {k : Key} {v : Value}, zv0 k v = true → (∃ i t, k = Sum.inl i ∧ v = Value.int i t) ∨ (∃ x t, k = Sum.inr x ∧ v = Value.str x t)
 | .inl i, v, h => by
  obtain ⟨t, e⟩ := Value.isInt_shape (k := i) (v := v) h
  exact .inl ⟨i, t, rfl, e⟩
 | .inr x, v, h => by
  obtain ⟨t, e⟩ := Value.isStrOf_shape (x := x) (v := v) h
  exact .inr ⟨x, t, rfl, e⟩
theorem zw2 (a b : Int) : decide ((Sum.inl a : Key) = Sum.inl b) = (a == b) := by
 by_cases e : a = b
 ·subst e; simp
 ·have h : ¬ (Sum.inl a : Key) = Sum.inl b := fun q => e (Sum.inl.inj q)
  rw [decide_eq_false h]
  exact (beq_eq_false_iff_ne.mpr e).symm
theorem zwh (a b : Str) : decide ((Sum.inr a : Key) = Sum.inr b) = decide (a = b) := by
 by_cases e : a = b
 ·subst e; simp
 ·have h : ¬ (Sum.inr a : Key) = Sum.inr b := fun q => e (Sum.inr.inj q)
  rw [decide_eq_false h, decide_eq_false e]
theorem zw1 (a : Int) (b : Str) : decide ((Sum.inl a : Key) = Sum.inr b) = false := decide_eq_false (fun q => nomatch q)
theorem zxd (a : Str) (b : Int) : decide ((Sum.inr a : Key) = Sum.inl b) = false := decide_eq_false (fun q => nomatch q)
def zp7 (prog : Program) (w : World) : PySem.KeyKind prog w Key where
 is := zv0
 hash := zy1 w
 inj := fun v a b ha hb => by
  rcases zbr ha with ⟨i, t, rfl, rfl⟩ | ⟨x, t, rfl, rfl⟩
  ·rcases zbr hb with ⟨j, u, rfl, e⟩ | ⟨y, u, rfl, e⟩
   ·injection e with e1 _; rw [e1]
   ·exact nomatch e
  ·rcases zbr hb with ⟨j, u, rfl, e⟩ | ⟨y, u, rfl, e⟩
   ·exact nomatch e
   ·injection e with e1 _; rw [e1]
 byValue := fun k v h => by
  rcases zbr h with ⟨i, t, rfl, rfl⟩ | ⟨x, t, rfl, rfl⟩ <;> rfl
 pyHash := fun hv h => by
  rcases zbr hv with ⟨i, t, rfl, rfl⟩ | ⟨x, t, rfl, rfl⟩
  ·exact wpAny_pyHash_int h
  ·exact wpAny_pyHash_str h
 eqBool := fun hu hv h => by
  rcases zbr hu with ⟨i, t, rfl, rfl⟩ | ⟨x, t, rfl, rfl⟩
  ·rcases zbr hv with ⟨j, u, rfl, rfl⟩ | ⟨y, u, rfl, rfl⟩
   ·rw [zw2] at h; exact wpAny_eqBool_int h
   ·rw [zw1] at h; exact SeqAt.EqAt.int_str i t y u _ _ _ _ h
  ·rcases zbr hv with ⟨j, u, rfl, rfl⟩ | ⟨y, u, rfl, rfl⟩
   ·rw [zxd] at h; exact SeqAt.EqAt.str_int x t j u _ _ _ _ h
   ·rw [zwh] at h; exact wpAny_eqBool_str h
 «strs» := fun k x t v h => by
  rcases zbr h with ⟨i, u, rfl, e⟩ | ⟨y, u, rfl, e⟩
  ·exact nomatch e
  ·injection e with e1 _
   subst e1
   cases v <;> rfl
inductive V where
 | non | bl (b : Bool) | int (i : Int) | str (x : Str) | byt (b : Array UInt8) | flt (b : UInt64) | ref (a : Addr) | ty (n : String)
 deriving DecidableEq
def RelV : V → Value → Prop
 | .non, u => u = Value.none
 | .bl b, u => u = Value.bool b
 | .int i, u => ∃ t, u = Value.int i t
 | .str x, u => ∃ t, u = Value.str x t
 | .byt b, u => ∃ t, u = Value.bytes b t
 | .flt b, u => ∃ t, u = Value.float b t
 | .ref a, u => u = Value.ref a
 | .ty n, u => u = Value.type n
abbrev Vals : List V → List Value → Prop := Paired RelV
theorem Vals.length {xs : List V} {us : List Value} (r : Vals xs us) : xs.length = us.length := Paired.length r
theorem Vals.get : ∀ {xs : List V} {us : List Value} {i : Nat} {x : V}, Vals xs us → xs[i]? = some x → ∃ u, us[i]? = some u ∧ RelV x u
 | _, _, _, _, .nil, e => by simp at e
 | _, _, 0, _, .cons r _, e => by simp at e; subst e; exact ⟨_, rfl, r⟩
 | _, _, i + 1, x, .cons _ t, e => by
  obtain ⟨u, h1, h2⟩ := Vals.get (i := i) (x := x) t (by simpa using e)
  exact ⟨u, by simpa using h1, h2⟩
theorem Vals.set {x : V} {u : Value} (r : RelV x u) : ∀ {xs : List V} {us : List Value} (i : Nat), Vals xs us → Vals (xs.set i x) (us.set i u)
 | _, _, _, .nil => .nil
 | _, _, 0, .cons _ t => .cons r t
 | _, _, i + 1, .cons q t => .cons q (Vals.set r i t)
theorem Vals.append : ∀ {xs ys : List V} {us ws : List Value}, Vals xs us → Vals ys ws → Vals (xs ++ ys) (us ++ ws)
 | _, _, _, _, .nil, s => s
 | _, _, _, _, .cons r t, s => .cons r (Vals.append t s)
theorem Vals.take : ∀ {xs : List V} {us : List Value} (n : Nat), Vals xs us → Vals (xs.take n) (us.take n)
 | _, _, 0, _ => .nil
 | _, _, _ + 1, .nil => .nil
 | _, _, n + 1, .cons r t => .cons r (Vals.take n t)
theorem Vals.drop : ∀ {xs : List V} {us : List Value} (n : Nat), Vals xs us → Vals (xs.drop n) (us.drop n)
 | _, _, 0, r => r
 | _, _, _ + 1, .nil => .nil
 | _, _, n + 1, .cons _ t => Vals.drop n t
def RelO : Option V → Option Value → Prop
 | some v, some u => RelV v u
 | none, none => True
 | _, _ => False
def KV {κ : Type} : List (κ × V) → List (κ × Value) → Prop := Paired fun (p : κ × V) (q : κ × Value) => p.1 = q.1 ∧ RelV p.2 q.2
def kV : Key → V
 | .inl i => .int i
 | .inr x => .str x
inductive HO where
 | lst (xs : List V)
 | tup (xs : List V)
 | dK (kvs : List (Key × V)) | dT (kvs : List (List Key × V))
 | set (S : Int → Bool) (n : Nat)
 | ins (C dx : Addr) (fs : List (Str × V))
 | own (x : Addr)
 | xd (fs : List (Str × V))
 | met (f x : Addr)
 | rng (lo hi : Int)
 | frz (o : Obj) (u : HO)
 | tbl (ps : Array Value)
 | ext (φ : Heap → Prop)
abbrev Hp := Addr → Option HO
def upd (H : Hp) (a : Addr) (o : HO) : Hp := fun b => if b = a then some o else H b
theorem zac {H : Hp} {a : Addr} {o : HO} : upd H a o a = some o := by unfold upd; rw [if_pos rfl]
theorem zak {H : Hp} {a b : Addr} {o : HO} (h : b ≠ a) : upd H a o b = H b := by unfold upd; rw [if_neg h]
theorem zn1 {H : Hp} {a b : Addr} {o u : HO} (h : H a = some o) (h' : H b = some u) (d : o ≠ u) : a ≠ b := by
 intro e; subst e; rw [h] at h'; exact d (Option.some.inj h')
theorem zam {H : Hp} {a b : Addr} {o : HO} (h : H a = some o) (h' : H b = none) : a ≠ b := by
 intro e; subst e; rw [h] at h'; cases h'
section
variable (P : Program) (w : World)
def ObjOk (H : Hp) (h : Heap) (a : Addr) : HO → Prop
 | .lst xs => xs.length ≤ sizeLine ∧ ∃ (its : List Value) (n : Nat), Vals xs its ∧ h.get? a = some { cls := .type "list", data := .seq its.toArray n }
 | .tup xs => xs.length ≤ sizeLine ∧ ∃ its : List Value, Vals xs its ∧ IsTup h a its.toArray
 | .dK kvs => kvs.length ≤ sizeLine ∧ (a == sysModules) = false ∧ ∃ vs, KV kvs vs ∧ h.DictOf (zp7 P w) a vs
 | .dT kvs => kvs.length ≤ sizeLine ∧ (a == sysModules) = false ∧ ∃ xs : List (List Key × Addr × Value),
   Paired (fun (p : List Key × V) (q : List Key × Addr × Value) => p.1 = q.1 ∧ H q.2.1 = some (.tup (p.1.map kV)) ∧ RelV p.2 q.2.2) kvs xs ∧
   ∃ o es ep, h.get? a = some o ∧ o.ExactDict ∧ o.data = .dict es ep ∧ es.toList = xs.map (entryOfKey (tupleKind (zp7 P w))) ∧ (xs.map (·.1)).Nodup
 | .set S n => h.SetOf (intKind P w) a S n
 | .ins C dx fs => H dx = some (.own a) ∧ fs.length ≤ 1000 ∧ dx ≠ a ∧ h.get? a = some (PySem.W.instObj C dx) ∧
   ∃ mA, h.Ns1 dx mA ∧ (∀ f, RelO (fs.lookup f) (mA f)) ∧ PySem.Within mA (fs.map (·.1))
 | .own _ => ∃ o, h.get? a = some o
 | .xd fs => ∃ mA, h.Ns1 a mA ∧ ∀ f, RelO (fs.lookup f) (mA f)
 | .rng lo hi => ∃ t u v, h.get? a = some { cls := .type "range", data := .fields #[.int lo t, .int hi u, .int 1 v] }
 | .frz o u => h.get? a = some o ∧ ObjOk H h a u
 | .tbl ps => h.get? a = some { cls := .none, data := .fields ps }
 | .met f x => h.get? a = some (PySem.W.methodObj (.ref f) (.ref x))
 | .ext φ => φ h ∧ (∃ o, h.get? a = some o) ∧ ∀ h1 h2 : Heap, φ h1 → (∀ o, h1.get? a = some o → h2.get? a = some o) → φ h2
def HOk (H : Hp) (h : Heap) : Prop := ∀ a o, H a = some o → ObjOk P w H h a o
end
section
variable {P : Program} {w : World} {H H' : Hp} {h h' : Heap} {a : Addr} {o : HO}
theorem ObjOk.lt (x : ObjOk P w H h a o) : a < h.objs.size := by
 cases o with
 | lst xs => obtain ⟨_, _, _, _, e⟩ := x; exact Heap.lt_size e
 | tup xs => obtain ⟨_, _, _, p⟩ := x; exact p.lt
 | dK kvs => obtain ⟨_, _, _, _, o, _, _, e, _⟩ := x; exact Heap.lt_size e
 | dT kvs => obtain ⟨_, _, _, _, o, _, _, e, _⟩ := x; exact Heap.lt_size e
 | set S n => obtain ⟨o, _, _, _, e, _⟩ := x; exact Heap.lt_size e
 | ins C dx fs => obtain ⟨_, _, _, e, _⟩ := x; exact Heap.lt_size e
 | own y => obtain ⟨_, e⟩ := x; exact Heap.lt_size e
 | xd fs => obtain ⟨_, ⟨_, _, _, e, _⟩, _⟩ := x; exact Heap.lt_size e
 | rng lo hi => obtain ⟨_, _, _, e⟩ := x; exact Heap.lt_size e
 | frz ob u => obtain ⟨e, _⟩ := x; exact Heap.lt_size e
 | tbl ps => exact Heap.lt_size (show h.get? a = some _ from x)
 | met f y => exact Heap.lt_size (show h.get? a = some _ from x)
 | ext φ => obtain ⟨_, ⟨_, e⟩, _⟩ := x; exact Heap.lt_size e
theorem Paired.mapP {α β : Type} {F G : α → β → Prop} : ∀ {l₁ : List α} {l₂ : List β}, Paired F l₁ l₂ → (∀ a b, F a b → G a b) → Paired G l₁ l₂
 | _, _, .nil, _ => .nil
 | _, _, .cons r t, f => .cons (f _ _ r) (Paired.mapP t f)
theorem ObjOk.stay (x : ObjOk P w H h a o) (k : ∀ b u, (b = a ∨ H b = some (.own a)) → h.get? b = some u → h'.get? b = some u)
  (ho : ∀ b, H b = some (.own a) → H' b = some (.own a)) (ht : ∀ b xs, H b = some (.tup xs) → H' b = some (.tup xs)) : ObjOk P w H' h' a o := by
 induction o with
 | lst xs => obtain ⟨z, aa, n, r, e⟩ := x; exact ⟨z, aa, n, r, k _ _ (.inl rfl) e⟩
 | tup xs => obtain ⟨z, aa, r, ob, e, c⟩ := x; exact ⟨z, aa, r, ob, k _ _ (.inl rfl) e, c⟩
 | dK kvs => obtain ⟨z, y, vs, r, ob, es, ep, e, c⟩ := x; exact ⟨z, y, vs, r, ob, es, ep, k _ _ (.inl rfl) e, c⟩
 | dT kvs =>
  obtain ⟨z, y, xs, r, ob, es, ep, e, c⟩ := x
  exact ⟨z, y, xs, Paired.mapP r fun p q z => ⟨z.1, ht _ _ z.2.1, z.2.2⟩, ob, es, ep, k _ _ (.inl rfl) e, c⟩
 | set S n => obtain ⟨ob, es, ep, t, e, c⟩ := x; exact ⟨ob, es, ep, t, k _ _ (.inl rfl) e, c⟩
 | ins C dx fs =>
  obtain ⟨d, z, ne, e, mA, ⟨od, es, ep, e2, c⟩, r⟩ := x
  exact ⟨ho _ d, z, ne, k _ _ (.inl rfl) e, mA, ⟨od, es, ep, k _ _ (.inr d) e2, c⟩, r⟩
 | own y => obtain ⟨ob, e⟩ := x; exact ⟨ob, k _ _ (.inl rfl) e⟩
 | xd fs => obtain ⟨mA, ⟨od, es, ep, e, c⟩, r⟩ := x; exact ⟨mA, ⟨od, es, ep, k _ _ (.inl rfl) e, c⟩, r⟩
 | rng lo hi => obtain ⟨t, u, v, e⟩ := x; exact ⟨t, u, v, k _ _ (.inl rfl) e⟩
 | frz ob u ih => obtain ⟨e, q⟩ := x; exact ⟨k _ _ (.inl rfl) e, ih q⟩
 | tbl ps =>
  have e : h.get? a = some { cls := .none, data := .fields ps } := x
  show h'.get? a = some { cls := .none, data := .fields ps }
  exact k a _ (.inl rfl) e
 | met f y =>
  have e : h.get? a = some (PySem.W.methodObj (.ref f) (.ref y)) := x
  show h'.get? a = some (PySem.W.methodObj (.ref f) (.ref y))
  exact k a _ (.inl rfl) e
 | ext φ => obtain ⟨p, ⟨o, e⟩, st⟩ := x; exact ⟨st _ _ p fun o q => k _ _ (.inl rfl) q, ⟨o, k _ _ (.inl rfl) e⟩, st⟩
theorem HOk.lt (x : HOk P w H h) (e : H a = some o) : a < h.objs.size := (x a o e).lt
theorem HOk.fresh (x : HOk P w H h) (e : h.objs.size ≤ a) : H a = none := by
 cases q : H a with
 | none => rfl
 | some u => exact absurd (Nat.lt_of_lt_of_le (x.lt q) e) (Nat.lt_irrefl _)
theorem HOk.kept (x : HOk P w H h) (k : ∀ b u, h.get? b = some u → h'.get? b = some u) : HOk P w H h' := fun a o e =>
 (x a o e).stay (fun b u _ q => k b u q) (fun _ q => q) fun _ _ q => q
theorem HOk.laid (x : HOk P w H h) (k : ∀ b u, h.get? b = some u → h'.get? b = some u) (hp : h.objs.size ≤ a) (new : ObjOk P w (upd H a o) h' a o) : HOk P w (upd H a o) h' := fun b u e => by
 have hn := x.fresh hp
 by_cases hb : b = a
 ·subst hb; rw [zac] at e; cases e; exact new
 ·rw [zak hb] at e
  exact (x b u e).stay (fun c v _ q => k c v q) (fun c q => by rw [zak (zam q hn)]; exact q) fun c xs q => by rw [zak (zam q hn)]; exact q
end
def Rd (H : Hp) (a : Addr) (u : HO) : Prop := H a = some u ∨ ∃ o, H a = some (.frz o u)
theorem Rd.ok {P : Program} {w : World} {H : Hp} {h : Heap} {a : Addr} {u : HO} (r : Rd H a u) (x : HOk P w H h) : ObjOk P w H h a u := by
 rcases r with r | ⟨o, r⟩
 ·exact x a u r
 ·obtain ⟨_, q⟩ := x a _ r
  exact q
def Mut : Option HO → Prop
 | some (.lst _) => True
 | some (.dK _) => True
 | some (.dT _) => True
 | some (.set _ _) => True
 | some (.ins _ _ _) => True
 | some (.ext _) => True
 | _ => False
section
variable {P : Program} {w : World} {H : Hp} {h h' : Heap} {x e : Addr} {o' : HO}
theorem HOk.write (ok : HOk P w H h) (mu : Mut (H x)) (he : e = x ∨ H e = some (.own x)) (k : ∀ b u, b ≠ e → h.get? b = some u → h'.get? b = some u) (heo : ∃ u, h'.get? e = some u)
  (new : ObjOk P w (upd H x o') h' x o') : HOk P w (upd H x o') h' := fun b u q => by
 have nown : ∀ c y, H c = some (.own y) → c ≠ x := fun c y r z => by subst z; rw [r] at mu; exact mu
 have ntup : ∀ c xs, H c = some (.tup xs) → c ≠ x := fun c xs r z => by subst z; rw [r] at mu; exact mu
 by_cases hb : b = x
 ·subst hb; rw [zac] at q; cases q; exact new
 ·rw [zak hb] at q
  by_cases hbe : b = e
  ·have q' : H b = some (.own x) := by
    rcases he with z | z
    ·exact absurd (hbe.trans z) hb
    ·rw [hbe]; exact z
   rw [q] at q'; cases q'
   obtain ⟨v, hv⟩ := heo
   exact ⟨v, by rw [hbe]; exact hv⟩
  ·refine (ok b u q).stay (fun c v hc r => k c v ?_ r) (fun c r => by rw [zak (nown c b r)]; exact r) fun c xs r => by rw [zak (ntup c xs r)]; exact r
   rcases hc with rfl | hc
   ·exact hbe
   ·rintro rfl
    rcases he with z | z
    ·exact nown c b hc z
    ·rw [hc] at z; cases z; exact hb rfl
end
structure Un (fs ex : List Addr) (H H' : Hp) (h h' : Heap) : Prop where
 keep : ∀ b o, h.get? b = some o → H b = none → b ∉ fs → b ∉ ex → h'.get? b = some o
 slot : ∀ b o, h.get? b = some o → H b = none → b ∈ fs → b ∉ ex → ∃ sl, h'.get? b = some { o with slots := sl }
 free : ∀ b o, h.get? b = some o → H b = none → b ∉ ex → H' b = none
 there : ∀ b o, h.get? b = some o → b ∉ ex → ∃ o', h'.get? b = some o'
 tups : ∀ b xs, H b = some (.tup xs) → H' b = some (.tup xs)
 frzs : ∀ b o u, H b = some (.frz o u) → H' b = some (.frz o u)
 tbls : ∀ b ps, H b = some (.tbl ps) → ∃ more, H' b = some (.tbl (ps ++ more))
section
variable {fs fs' ex ex' : List Addr} {H H1 H2 : Hp} {h h1 h2 h' : Heap} {a x e : Addr} {o : HO}
theorem Un.any (u : Un fs ex H H1 h h1) {b : Addr} {ob : Obj} (q : h.get? b = some ob) (n : H b = none) (hx : b ∉ ex) : ∃ sl, h1.get? b = some { ob with slots := sl } := by
 by_cases hb : b ∈ fs
 ·exact u.slot b ob q n hb hx
 ·exact ⟨ob.slots, u.keep b ob q n hb hx⟩
theorem Un.kept (k : ∀ b u, h.get? b = some u → h'.get? b = some u) : Un fs ex H H h h' :=
 ⟨fun b ob q _ _ _ => k b ob q, fun b ob q _ _ _ => ⟨ob.slots, k b ob q⟩, fun _ _ _ n _ => n, fun b ob q _ => ⟨ob, k b ob q⟩, fun _ _ q => q, fun _ _ _ q => q, fun _ ps q => ⟨#[], by rw [q]; simp⟩⟩
theorem Un.refl : Un fs ex H H h h := Un.kept fun _ _ q => q
theorem Un.laid (k : ∀ b u, h.get? b = some u → h'.get? b = some u) (hp : h.objs.size ≤ a) (hn : H a = none) : Un fs ex H (upd H a o) h h' where
 keep := fun b u q _ _ _ => k b u q
 slot := fun b u q _ _ _ => ⟨u.slots, k b u q⟩
 free := fun b u q n _ => by rw [zak (Nat.ne_of_lt (Nat.lt_of_lt_of_le (Heap.lt_size q) hp))]; exact n
 there := fun b u q _ => ⟨u, k b u q⟩
 tups := fun b xs q => by rw [zak (zam q hn)]; exact q
 frzs := fun b u xs q => by rw [zak (zam q hn)]; exact q
 tbls := fun b ps q => ⟨#[], by rw [zak (zam q hn), q]; simp⟩
theorem Un.write (mu : Mut (H x)) (he : e = x ∨ H e = some (.own x)) (k : ∀ b u, b ≠ e → h.get? b = some u → h'.get? b = some u) (heo : ∃ u, h'.get? e = some u) : Un fs ex H (upd H x o) h h' := by
 have hx : ∀ b, H b = none → b ≠ x := fun b n z => by subst z; rw [n] at mu; exact mu
 have hb : ∀ b, H b = none → b ≠ e := fun b n z => by
  subst z
  rcases he with r | r
  ·exact hx b n r
  ·rw [n] at r; cases r
 have hm : ∀ b u, H b = some u → ¬ Mut (some u) → b ≠ x := fun b u q nm z => by subst z; rw [q] at mu; exact nm mu
 refine ⟨fun b u q n _ _ => k b u (hb b n) q, fun b u q n _ _ => ⟨u.slots, k b u (hb b n) q⟩, fun b u q n _ => by rw [zak (hx b n)]; exact n, fun b u q _ => ?_,
  fun b xs q => by rw [zak (hm b _ q fun z => z)]; exact q, fun b u xs q => by rw [zak (hm b _ q fun z => z)]; exact q, fun b ps q => ⟨#[], by rw [zak (hm b _ q fun z => z), q]; simp⟩⟩
 by_cases aa : b = e
 ·subst aa; exact heo
 ·exact ⟨u, k b u aa q⟩
end
def trk (h : Heap) (H : Hp) : List Addr := (List.range h.objs.size).filter fun a => (H a).isSome
def zlk (h : Heap) (H : Hp) : Heap := PySem.W.hideAll h (trk h H)
theorem zrn (h : Heap) (H : Hp) : (zlk h H).objs.size = h.objs.size := PySem.W.hideAll_size _ _
theorem zsh {h : Heap} {H : Hp} {b : Addr} {o : Obj} (e : h.get? b = some o) (n : H b = none) : (zlk h H).get? b = some o :=
 PySem.W.hideAll_get _ e fun hm => by
  have q : (H b).isSome = true := (List.mem_filter.mp hm).2
  rw [n] at q; simp at q
theorem zuv {h : Heap} {H : Hp} {b : Addr} {o : Obj} (e : (zlk h H).get? b = some o) : h.get? b = some o ∧ H b = none := by
 have e' : h.get? b = some o := PySem.W.of_hideAll (trk h H) e
 refine ⟨e', ?_⟩
 cases q : H b with
 | none => rfl
 | some x =>
  have hm : b ∈ trk h H := List.mem_filter.mpr ⟨List.mem_range.mpr (Heap.lt_size e'), by simp [q]⟩
  have z : (zlk h H).get? b = none := PySem.W.hideAll_none (trk h H) hm
  rw [z] at e; cases e
structure Mod (K : PySem.W.Frag) (mg : Str → Option Value) (base : Heap) : Prop where
 kin : K.In base
 glob : base.Ns mainGlobals mg
 blt : ∃ mb, base.Ns builtinsNs mb ∧ ∀ x : Str, x ≠ "__name__" → mb x = bootBuiltins x
 nolimit : base.NoLimit
structure Cx where
 prog : Program
 w : World
 K : PySem.W.Frag
 mg : Str → Option Value
 base : Heap
 A : Around
 N : List Str
 s₀ : Shared
 H₀ : Hp
 env : Env
 outer : List Env
 stack : List Env
 ex : List Addr
 fn : Str → Bool
 calm : Bool
 pn : List (Addr × Obj)
 xe : Value → Shared → Prop
def frs (l : List Env) : List Addr := l.filterMap (·.frame)
abbrev Cx.fs (X : Cx) : List Addr := frs X.outer
def Vis (sc : Scope) (x : Str) : Prop := sc.names.lookup x = some .local ∨ sc.names.lookup x = some .cell ∨ sc.names.lookup x = some .free
def Loc (sc : Scope) (x : Str) : Prop := sc.names.lookup x = some .local ∨ sc.names.lookup x = some .cell
def zy3 (env : Env) (h : Heap) (m : Str → Option Value) (x : Str) (u : Value) : Prop :=
 (env.kindOf x = some .local ∧ m x = some u) ∨ ((env.kindOf x = some .cell ∨ env.kindOf x = some .free) ∧ ∃ c, env.cells.lookup x = some c ∧ h.IsCell c (some u))
structure Cx.Ok (X : Cx) : Prop where
 mod : Mod X.K X.mg X.base
 kind : X.env.scope.kind = .function
 glob : X.env.globals = mainGlobals
 blt : X.env.builtins = builtinsNs
 above : X.s₀.heap.objs.size ≤ X.env.locals
 inj : ∀ x y c, X.env.cells.lookup x = some c → X.env.cells.lookup y = some c → x = y
 has : ∀ x, (X.env.kindOf x = some .cell ∨ X.env.kindOf x = some .free) → ∃ c, X.env.cells.lookup x = some c
 cab : ∀ x c, X.fn x = true → X.env.cells.lookup x = some c → X.s₀.heap.objs.size ≤ c
 hd : X.calm = true → X.A.handled = none
 frames : X.A.frames = some X.stack
 stk : X.stack = X.outer ∨ (X.stack = X.env :: X.outer ∧ X.env.frame = some X.env.locals)
 exf : ∀ b ∈ X.ex, b ≠ X.env.locals ∧ ∀ x c, X.env.cells.lookup x = some c → c ≠ b
 bs : ∀ b o, X.base.get? b = some o → X.s₀.heap.get? b = some o ∧ X.H₀ b = none
 bsz : X.base.objs.size ≤ X.s₀.heap.objs.size
 noex : ∀ b o, X.base.get? b = some o → b ∉ X.ex
 exfs : ∀ b ∈ X.ex, b ∉ X.fs
 funs : X.s₀.heap.FunFrames X.base X.outer
 frf : ∀ b ∈ X.fs, X.H₀ b = none
structure Inv (X : Cx) (pins : List (Addr × Obj)) (σ : List (Option V)) (H : Hp) (s : Shared) : Prop where
 ok : X.Ok
 os : s.os = X.s₀.os
 bare : AllBare s.gens
 base : Un X.fs X.ex X.H₀ H X.s₀.heap s.heap
 loc : ∃ m, s.heap.Ns X.env.locals m ∧ ∀ (i : Nat) (x : Str) (v : V), X.N[i]? = some x → σ[i]? = some (some v) → Vis X.env.scope x → ∃ u, RelV v u ∧ zy3 X.env s.heap m x u
 cell : ∀ x c, X.env.cells.lookup x = some c → ∃ v, s.heap.IsCell c v
 free : H X.env.locals = none
 freeC : ∀ x c, X.env.cells.lookup x = some c → H c = none
 pin : ∀ p ∈ X.pn ++ pins, s.heap.get? p.1 = some p.2 ∧ H p.1 = none ∧ p.1 ≠ X.env.locals ∧ p.1 ∉ X.fs ∧ ∀ v, p.2.data ≠ .cell v
 hok : HOk X.prog X.w H s.heap
 len : σ.length = X.N.length
section
variable {X : Cx} {pins : List (Addr × Obj)} {σ : List (Option V)} {H H' : Hp} {s : Shared} {h' : Heap}
theorem Cx.Ok.nofr (ok : X.Ok) {b : Addr} {o : Obj} (e : X.base.get? b = some o) : b ∉ X.fs := fun hb => by
 have := (ok.funs.mem hb).1
 rw [e] at this; cases this
theorem Inv.bs (I : Inv X pins σ H s) : ∀ b o, X.base.get? b = some o → s.heap.get? b = some o ∧ H b = none := fun b o e =>
 ⟨I.base.keep b o (I.ok.bs b o e).1 (I.ok.bs b o e).2 (I.ok.nofr e) (I.ok.noex b o e), I.base.free b o (I.ok.bs b o e).1 (I.ok.bs b o e).2 (I.ok.noex b o e)⟩
theorem Inv.bk (I : Inv X pins σ H s) : ∀ b o, X.base.get? b = some o → s.heap.get? b = some o := fun b o e => (I.bs b o e).1
theorem Inv.mod (I : Inv X pins σ H s) : Mod X.K X.mg X.base := I.ok.mod
theorem Inv.kIn (I : Inv X pins σ H s) : X.K.In s.heap := I.ok.mod.kin.keeps I.bk
theorem Inv.lt (I : Inv X pins σ H s) : X.env.locals < s.heap.objs.size := let ⟨_, hn, _⟩ := I.loc; hn.lt
theorem Inv.sz (I : Inv X pins σ H s) : X.s₀.heap.objs.size ≤ s.heap.objs.size := Nat.le_trans I.ok.above (Nat.le_of_lt I.lt)
theorem Inv.nofs (I : Inv X pins σ H s) {a : Addr} (h : s.heap.objs.size ≤ a) : a ∉ X.fs := fun hb => by
 obtain ⟨_, o, ho, _⟩ := I.ok.funs.mem hb
 exact absurd (Nat.lt_of_lt_of_le (Heap.lt_size ho) (Nat.le_trans I.sz h)) (Nat.lt_irrefl _)
theorem Inv.cne (I : Inv X pins σ H s) : ∀ x c, X.env.cells.lookup x = some c → c ≠ X.env.locals := fun x c e z => by
 obtain ⟨v, o, ho, hd⟩ := I.cell x c e
 obtain ⟨m, ⟨o', es, ep, ho', hd', _⟩, _⟩ := I.loc
 rw [z, ho'] at ho; cases ho; rw [hd'] at hd; cases hd
theorem Inv.funs (I : Inv X pins σ H s) : s.heap.FunFrames X.base X.outer := by
 have all : ∀ (l : List Env), (∀ b ∈ frs l, b ∈ X.fs) → X.s₀.heap.FunFrames X.base l → s.heap.FunFrames X.base l := by
  intro l
  induction l with
  | nil => intro _ _; trivial
  | cons env r ih =>
   intro hs hl
   obtain ⟨hk, ⟨L, o, hf, hn, ho, hd⟩, hr⟩ := hl
   have hL : L ∈ X.fs := hs L (by unfold frs; rw [List.filterMap_cons, hf]; exact List.mem_cons_self)
   obtain ⟨sl, e⟩ := I.base.slot L o ho (I.ok.frf L hL) hL fun z => I.ok.exfs L z hL
   exact ⟨hk, ⟨L, _, hf, hn, e, hd⟩, ih (fun b hb => hs b (by unfold frs; rw [List.filterMap_cons, hf]; exact List.mem_cons_of_mem _ hb)) hr⟩
 exact all X.outer (fun _ hb => hb) I.ok.funs
theorem Inv.stack (I : Inv X pins σ H s) : s.heap.FunFrames X.base X.stack := by
 rcases I.ok.stk with e | ⟨e, hf⟩
 ·rw [e]; exact I.funs
 ·rw [e]
  obtain ⟨m, hn, _⟩ := I.loc
  refine .cons (by rw [I.ok.kind]; decide) hf hn ?_ I.funs
  exact Heap.get?_none_of_le (Nat.le_trans I.ok.bsz I.ok.above)
theorem Inv.stkSub (I : Inv X pins σ H s) : ∀ b ∈ frs X.stack, b ∈ X.env.locals :: X.fs := fun b hb => by
 rcases I.ok.stk with e | ⟨e, hf⟩
 ·rw [e] at hb; exact List.mem_cons_of_mem _ hb
 ·rw [e] at hb
  unfold frs at hb
  rw [List.filterMap_cons, hf] at hb
  exact hb
theorem Inv.stkFree (I : Inv X pins σ H s) : ∀ b ∈ frs X.stack, H b = none := fun b hb => by
 rcases List.mem_cons.mp (I.stkSub b hb) with e | hb
 ·rw [e]; exact I.free
 ·obtain ⟨_, o, ho, _⟩ := I.ok.funs.mem hb
  exact I.base.free b o ho (I.ok.frf b hb) fun z => I.ok.exfs b z hb
theorem Inv.step {g' : Array GenState} {t' : Nat} {d' : Drawn} {ch : List Addr} (I : Inv X pins σ H s)
  (hch : ∀ b ∈ ch, (b ∈ X.ex ∨ X.s₀.heap.objs.size ≤ b) ∧ b ≠ X.env.locals ∧ (∀ x c, X.env.cells.lookup x = some c → c ≠ b) ∧ ∀ p ∈ X.pn ++ pins, p.1 ≠ b)
  (keep : ∀ b o, b ≠ X.env.locals → b ∉ X.fs → b ∉ ch → s.heap.get? b = some o → H b = none → h'.get? b = some o)
  (slot : ∀ b o, b ≠ X.env.locals → b ∈ X.fs → b ∉ ch → s.heap.get? b = some o → H b = none → ∃ sl, h'.get? b = some { o with slots := sl }) (free : ∀ b o, b ∉ ch → s.heap.get? b = some o → H b = none → H' b = none)
  (there : ∀ b o, b ∉ ch → s.heap.get? b = some o → ∃ o', h'.get? b = some o')
  (tups : ∀ b xs, H b = some (.tup xs) → H' b = some (.tup xs)) (frzs : ∀ b o u, H b = some (.frz o u) → H' b = some (.frz o u)) (tbls : ∀ b ps, H b = some (.tbl ps) → ∃ more, H' b = some (.tbl (ps ++ more)))
  (ns : ∀ m, s.heap.Ns X.env.locals m → h'.Ns X.env.locals m) (hok : HOk X.prog X.w H' h') (hg : AllBare g') :
  Inv X pins σ H' { s with heap := h', gens := g', drawn := d', toks := t' } := by
 have ae : ∀ b o, X.s₀.heap.get? b = some o → b ≠ X.env.locals := fun b o e => Nat.ne_of_lt (Nat.lt_of_lt_of_le (Heap.lt_size e) I.ok.above)
 have ad : ∀ b o, X.s₀.heap.get? b = some o → b ∉ X.ex → b ∉ ch := fun b o e hx hb => by
  rcases (hch b hb).1 with z | z
  ·exact hx z
  ·exact absurd (Nat.lt_of_lt_of_le (Heap.lt_size e) z) (Nat.lt_irrefl _)
 have aa : ∀ x c, X.env.cells.lookup x = some c → ∀ v, s.heap.IsCell c v → h'.IsCell c v := fun x c e v ⟨o, ho, hd⟩ => by
  have ac : c ∉ ch := fun z => (hch c z).2.2.1 x c e rfl
  by_cases hc : c ∈ X.fs
  ·obtain ⟨sl, q⟩ := slot c o (I.cne x c e) hc ac ho (I.freeC x c e)
   exact ⟨_, q, hd⟩
  ·exact ⟨o, keep c o (I.cne x c e) hc ac ho (I.freeC x c e), hd⟩
 refine ⟨I.ok, I.os, hg, ⟨fun b o e n hb hx => ?_, fun b o e n hb hx => ?_, fun b o e n hx => ?_, fun b o e hx => ?_, fun b xs e => tups b xs (I.base.tups b xs e), fun b o xs e => frzs b o xs (I.base.frzs b o xs e), fun b ps e => ?_⟩, ?_, fun x c e => ?_, ?_, fun x c e => ?_, fun p hp => ?_, hok, I.len⟩
 ·exact keep b o (ae b o e) hb (ad b o e hx) (I.base.keep b o e n hb hx) (I.base.free b o e n hx)
 ·obtain ⟨sl, e1⟩ := I.base.slot b o e n hb hx
  obtain ⟨af, e2⟩ := slot b _ (ae b o e) hb (ad b o e hx) e1 (I.base.free b o e n hx)
  exact ⟨af, e2⟩
 ·obtain ⟨o', e1⟩ := I.base.there b o e hx
  exact free b o' (ad b o e hx) e1 (I.base.free b o e n hx)
 ·obtain ⟨o', e1⟩ := I.base.there b o e hx
  exact there b o' (ad b o e hx) e1
 ·obtain ⟨m1, e1⟩ := I.base.tbls b ps e
  obtain ⟨m2, e2⟩ := tbls b _ e1
  exact ⟨m1 ++ m2, by rw [e2, Array.append_assoc]⟩
 ·obtain ⟨m, hn, hl⟩ := I.loc
  refine ⟨m, ns m hn, fun i x v e1 e2 e3 => ?_⟩
  obtain ⟨u, r, l⟩ := hl i x v e1 e2 e3
  refine ⟨u, r, ?_⟩
  rcases l with l | ⟨k, c, e, z⟩
  ·exact .inl l
  ·exact .inr ⟨k, c, e, aa x c e _ z⟩
 ·obtain ⟨v, z⟩ := I.cell x c e
  exact ⟨v, aa x c e v z⟩
 ·obtain ⟨m, ⟨o, _, _, ho, _⟩, _⟩ := I.loc
  exact free _ o (fun z => (hch _ z).2.1 rfl) ho I.free
 ·obtain ⟨v, o, ho, hd⟩ := I.cell x c e
  exact free c o (fun z => (hch c z).2.2.1 x c e rfl) ho (I.freeC x c e)
 ·obtain ⟨e, n, ne, nf, d⟩ := I.pin p hp
  have ac : p.1 ∉ ch := fun z => (hch p.1 z).2.2.2 p hp rfl
  exact ⟨keep p.1 p.2 ne nf ac e n, free p.1 p.2 ac e n, ne, nf, d⟩
theorem Inv.un {t' : Nat} (I : Inv X pins σ H s) (u : Un X.fs [] H H' s.heap h') (hok : HOk X.prog X.w H' h') : Inv X pins σ H' { s with heap := h', toks := t' } := by
 obtain ⟨m, ⟨o, es, ep, ho, r⟩, _⟩ := id I.loc
 obtain ⟨sl, hL⟩ := u.any ho I.free (by simp)
 exact I.step (g' := s.gens) (d' := s.drawn) (ch := []) (fun _ z => nomatch z) (fun b o _ hb _ e n => u.keep b o e n hb (by simp)) (fun b o _ hb _ e n => u.slot b o e n hb (by simp)) (fun b o _ e n => u.free b o e n (by simp)) (fun b o _ e => u.there b o e (by simp)) u.tups u.frzs u.tbls (fun m' hm => by
  obtain ⟨o', ad, ac, aa, r'⟩ := hm
  rw [ho] at aa; cases aa
  exact ⟨_, ad, ac, hL, r'⟩) hok I.bare
theorem Inv.call {g' : Array GenState} {t' : Nat} {d' : Drawn} {ch : List Addr} (I : Inv X pins σ H s) (u : Un (frs X.stack) ch H H' s.heap h') (hok : HOk X.prog X.w H' h') (hg : AllBare g')
  (hch : ∀ b ∈ ch, (b ∈ X.ex ∨ X.s₀.heap.objs.size ≤ b) ∧ b ≠ X.env.locals ∧ (∀ x c, X.env.cells.lookup x = some c → c ≠ b) ∧ ∀ p ∈ X.pn ++ pins, p.1 ≠ b) :
  Inv X pins σ H' { s with heap := h', gens := g', drawn := d', toks := t' } := by
 obtain ⟨m, ⟨o, es, ep, ho, r⟩, _⟩ := id I.loc
 obtain ⟨sl, hL⟩ := u.any ho I.free fun z => (hch _ z).2.1 rfl
 exact I.step (ch := ch) hch (fun b o hL hb hc e n => u.keep b o e n (fun z => (List.mem_cons.mp (I.stkSub b z)).elim hL hb) hc) (fun b o _ _ hc e n => u.any e n hc) (fun b o hc e n => u.free b o e n hc) (fun b o hc e => u.there b o e hc) u.tups u.frzs u.tbls (fun m' hm => by
  obtain ⟨o', ad, ac, aa, r'⟩ := hm
  rw [ho] at aa; cases aa
  exact ⟨_, ad, ac, hL, r'⟩) hok hg
theorem Inv.turned {t' : Nat} {it : Addr} (I : Inv X pins σ H s) (k : ∀ b o, b ≠ it → s.heap.get? b = some o → h'.get? b = some o) (hn : H it = none) (hL : it ≠ X.env.locals)
  (h1 : it ∈ X.ex ∨ X.s₀.heap.objs.size ≤ it) (h2 : ∀ x c, X.env.cells.lookup x = some c → c ≠ it) (h3 : ∀ p ∈ X.pn ++ pins, p.1 ≠ it) : Inv X pins σ H { s with heap := h', toks := t' } := by
 have aa : ∀ b u, H b = some u → b ≠ it := fun b u e z => by rw [z, hn] at e; cases e
 refine I.step (g' := s.gens) (d' := s.drawn) (ch := [it]) (fun b hb => ?_) (fun b o _ _ hc e _ => k b o (fun z => hc (by simp [z])) e) (fun b o _ _ hc e _ => ⟨o.slots, k b o (fun z => hc (by simp [z])) e⟩) (fun _ _ _ _ n => n)
  (fun b o hc e => ⟨o, k b o (fun z => hc (by simp [z])) e⟩) (fun _ _ e => e) (fun _ _ _ e => e) (fun b ps e => ⟨#[], by rw [e]; simp⟩) (fun m hm => ?_) (fun b u e => ?_) I.bare
 ·have e : b = it := by simpa using hb
  subst e
  exact ⟨h1, hL, h2, h3⟩
 ·obtain ⟨o, es, ep, ho, r⟩ := hm
  exact ⟨o, es, ep, k _ o (Ne.symm hL) ho, r⟩
 ·refine (I.hok b u e).stay (fun c v hc q => k c v ?_ q) (fun _ q => q) fun _ _ q => q
  rcases hc with z | z
  ·rw [z]; exact aa b u e
  ·exact aa c _ z
theorem Inv.tok (I : Inv X pins σ H s) (t : Nat) : Inv X pins σ H { s with toks := t } := I.un (h' := s.heap) (t' := t) Un.refl I.hok
theorem Inv.kept {t' : Nat} (I : Inv X pins σ H s) (k : ∀ b u, s.heap.get? b = some u → h'.get? b = some u) : Inv X pins σ H { s with heap := h', toks := t' } := I.un (Un.kept k) (I.hok.kept k)
theorem Inv.laid {a : Addr} {o : HO} {t' : Nat} (I : Inv X pins σ H s) (k : ∀ b u, s.heap.get? b = some u → h'.get? b = some u) (hp : s.heap.objs.size ≤ a) (new : ObjOk X.prog X.w (upd H a o) h' a o) :
  Inv X pins σ (upd H a o) { s with heap := h', toks := t' } := I.un (Un.laid k hp (I.hok.fresh hp)) (I.hok.laid k hp new)
theorem Inv.write {x e : Addr} {o : HO} {t' : Nat} (I : Inv X pins σ H s) (mu : Mut (H x)) (he : e = x ∨ H e = some (.own x)) (k : ∀ b u, b ≠ e → s.heap.get? b = some u → h'.get? b = some u) (heo : ∃ u, h'.get? e = some u)
  (new : ObjOk X.prog X.w (upd H x o) h' x o) : Inv X pins σ (upd H x o) { s with heap := h', toks := t' } := I.un (Un.write mu he k heo) (I.hok.write mu he k heo new)
theorem Inv.pins_of {pins' : List (Addr × Obj)} (I : Inv X pins σ H s) (h : ∀ p ∈ pins', s.heap.get? p.1 = some p.2 ∧ H p.1 = none ∧ p.1 ≠ X.env.locals ∧ p.1 ∉ X.fs ∧ ∀ v, p.2.data ≠ .cell v) : Inv X pins' σ H s :=
 ⟨I.ok, I.os, I.bare, I.base, I.loc, I.cell, I.free, I.freeC, fun p hp => (List.mem_append.mp hp).elim (fun z => I.pin p (List.mem_append_left _ z)) (h p), I.hok, I.len⟩
theorem zk1 {N : List Str} (hN : N.Nodup) {i j : Nat} {x : Str} (a : N[i]? = some x) (b : N[j]? = some x) : i = j := by
 obtain ⟨h1, e1⟩ := List.getElem?_eq_some_iff.mp a
 obtain ⟨h2, e2⟩ := List.getElem?_eq_some_iff.mp b
 exact (List.getElem_inj hN).mp (e1.trans e2.symm)
theorem zrk {M : Model} {A : Around} {E : Value → Shared → Prop} {i : Nat} {x : Str} {v : V} {u : Value} {Q : Unit → Shared → Prop} (I : Inv X pins σ H s) (hN : X.N.Nodup) (hi : X.N[i]? = some x) (hx : Loc X.env.scope x) (r : RelV v u)
  (h : ∀ s', Inv X pins (σ.set i (some v)) H s' → (∃ a, Heap.SameBut a s.heap s'.heap ∧ (a = X.env.locals ∨ X.env.cells.lookup x = some a)) → Q () s') (hf : X.fn x = true ∨ X.env.scope.names.lookup x = some .local := by first | exact .inl rfl | exact .inr rfl | assumption) : wpAny M A (storeName X.env x u) Q E s := by
 obtain ⟨m, hn, hl⟩ := id I.loc
 have ae : (X.env.scope.kind == .class || (X.env.scope.kind == .module && X.env.locals != X.env.globals)) = false := by rw [I.ok.kind]; rfl
 have hiσ : i < σ.length := by rw [I.len]; exact (List.getElem?_eq_some_iff.mp hi).1
 have cne := I.cne
 have aa : ∀ {a : Addr} {h' : Heap}, (∃ o, s.heap.get? a = some o ∧ H a = none) → Heap.SameBut a s.heap h' → HOk X.prog X.w H h' := fun {a h'} ha hs b ob e => by
  obtain ⟨_, _, ac⟩ := ha
  refine (I.hok b ob e).stay (fun c w' hc q => (hs.2 c ?_).trans q) (fun _ q => q) fun _ _ q => q
  rintro rfl
  rcases hc with rfl | hc
  ·rw [ac] at e; cases e
  ·rw [ac] at hc; cases hc
 rcases hx with hk | hk
 ·refine wpAny_storeName_local hk hn (fun h' aj hs => ?_) ae
  obtain ⟨oL, _, _, ak, _⟩ := id hn
  refine h _ ⟨I.ok, I.os, I.bare, ⟨fun b o e n hb hx => ?_, fun b o e n hb hx => ?_, I.base.free, fun b o e hx => ?_, I.base.tups, I.base.frzs, I.base.tbls⟩, ⟨_, aj, fun j y v' e1 e2 e3 => ?_⟩, fun y c e => ?_, I.free, I.freeC, fun p hp => ?_, aa ⟨oL, ak, I.free⟩ hs, by simpa using I.len⟩ ⟨_, hs, .inl rfl⟩
  ·exact (hs.2 b (Nat.ne_of_lt (Nat.lt_of_lt_of_le (Heap.lt_size e) I.ok.above))).trans (I.base.keep b o e n hb hx)
  ·obtain ⟨sl, e1⟩ := I.base.slot b o e n hb hx
   exact ⟨sl, (hs.2 b (Nat.ne_of_lt (Nat.lt_of_lt_of_le (Heap.lt_size e) I.ok.above))).trans e1⟩
  ·obtain ⟨o', e1⟩ := I.base.there b o e hx
   exact ⟨o', (hs.2 b (Nat.ne_of_lt (Nat.lt_of_lt_of_le (Heap.lt_size e) I.ok.above))).trans e1⟩
  ·by_cases hj : j = i
   ·subst hj
    rw [hi] at e1; cases e1
    rw [List.getElem?_set_self hiσ] at e2
    cases e2
    exact ⟨u, r, .inl ⟨hk, by simp⟩⟩
   ·rw [List.getElem?_set_ne (Ne.symm hj)] at e2
    obtain ⟨u', r', q⟩ := hl j y v' e1 e2 e3
    refine ⟨u', r', ?_⟩
    rcases q with ⟨k, e⟩ | ⟨k, c, e, z⟩
    ·refine .inl ⟨k, ?_⟩
     have : y ≠ x := fun e => hj (zk1 hN e1 (e ▸ hi))
     simp [this, e]
    ·exact .inr ⟨k, c, e, z.sameBut hs (cne y c e)⟩
  ·obtain ⟨w', z⟩ := I.cell y c e
   exact ⟨w', z.sameBut hs (cne y c e)⟩
  ·obtain ⟨e, n, ne, nf, d⟩ := I.pin p hp
   exact ⟨(hs.2 p.1 ne).trans e, n, ne, nf, d⟩
 ·have ad : X.fn x = true := by
   rcases hf with z | z
   ·exact z
   ·rw [z] at hk; cases hk
  obtain ⟨c, hc⟩ := I.ok.has x (.inl hk)
  obtain ⟨w', z⟩ := I.cell x c hc
  refine wpAny_storeName_cell I.ok.kind hk hc z (fun h' ag hs => ?_)
  obtain ⟨oc, ai, af⟩ := id z
  refine h { s with heap := h' } ⟨I.ok, I.os, I.bare, ⟨fun b o e n hb hx => ?_, fun b o e n hb hx => ?_, I.base.free, fun b o e hx => ?_, I.base.tups, I.base.frzs, I.base.tbls⟩, ⟨m, hn.sameBut hs (Ne.symm (cne x c hc)), fun j y v' e1 e2 e3 => ?_⟩, fun y c' e => ?_, I.free, I.freeC, fun p hp => ?_, aa ⟨oc, ai, I.freeC x c hc⟩ hs, by simpa using I.len⟩ ⟨c, hs, .inr hc⟩
  ·exact (hs.2 b (Nat.ne_of_lt (Nat.lt_of_lt_of_le (Heap.lt_size e) (I.ok.cab x c ad hc)))).trans (I.base.keep b o e n hb hx)
  ·obtain ⟨sl, e1⟩ := I.base.slot b o e n hb hx
   exact ⟨sl, (hs.2 b (Nat.ne_of_lt (Nat.lt_of_lt_of_le (Heap.lt_size e) (I.ok.cab x c ad hc)))).trans e1⟩
  ·obtain ⟨o', e1⟩ := I.base.there b o e hx
   exact ⟨o', (hs.2 b (Nat.ne_of_lt (Nat.lt_of_lt_of_le (Heap.lt_size e) (I.ok.cab x c ad hc)))).trans e1⟩
  ·by_cases hj : j = i
   ·subst hj
    rw [hi] at e1; cases e1
    rw [List.getElem?_set_self hiσ] at e2
    cases e2
    exact ⟨u, r, .inr ⟨.inl hk, c, hc, ag⟩⟩
   ·rw [List.getElem?_set_ne (Ne.symm hj)] at e2
    obtain ⟨u', r', q⟩ := hl j y v' e1 e2 e3
    refine ⟨u', r', ?_⟩
    rcases q with q | ⟨k, c', e, z'⟩
    ·exact .inl q
    ·refine .inr ⟨k, c', e, z'.sameBut hs ?_⟩
     rintro rfl
     exact hj (zk1 hN e1 (I.ok.inj _ _ _ e hc ▸ hi))
  ·by_cases ah : c' = c
   ·subst ah; exact ⟨_, ag⟩
   ·obtain ⟨w2, z2⟩ := I.cell y c' e
    exact ⟨w2, z2.sameBut hs ah⟩
  ·obtain ⟨e, n, ne, nf, d⟩ := I.pin p hp
   refine ⟨(hs.2 p.1 ?_).trans e, n, ne, nf, d⟩
   intro q
   rw [q, ai] at e
   have q' : oc = p.2 := Option.some.inj e
   exact d w' (by rw [← q']; exact af)
theorem zkd {M : Model} {A : Around} {E : Value → Shared → Prop} {i : Nat} {x : Str} {v : V} {u : Value} {Q : Unit → Shared → Prop} (I : Inv X pins σ H s) (hN : X.N.Nodup) (hi : X.N[i]? = some x) (hx : Loc X.env.scope x) (r : RelV v u)
  (h : ∀ s', Inv X pins (σ.set i (some v)) H s' → Q () s') (hf : X.fn x = true ∨ X.env.scope.names.lookup x = some .local := by first | exact .inl rfl | exact .inr rfl | assumption) : wpAny M A (storeName X.env x u) Q E s :=
 zrk I hN hi hx r (fun s' I' _ => h s' I') hf
theorem Inv.call' {s' : Shared} {ch : List Addr} (I : Inv X pins σ H s) (ho : s'.os = s.os) (u : Un (frs X.stack) ch H H' s.heap s'.heap) (hok : HOk X.prog X.w H' s'.heap) (hg : AllBare s'.gens)
  (hch : ∀ b ∈ ch, (b ∈ X.ex ∨ X.s₀.heap.objs.size ≤ b) ∧ b ≠ X.env.locals ∧ (∀ x c, X.env.cells.lookup x = some c → c ≠ b) ∧ ∀ p ∈ X.pn ++ pins, p.1 ≠ b) : Inv X pins σ H' s' := by
 obtain ⟨h', g', d', t', o'⟩ := s'
 have e : o' = s.os := ho
 subst e
 exact I.call (g' := g') (t' := t') (d' := d') u hok hg hch
end
abbrev XK := Value → Option Addr → Hp → Prop
abbrev St := List (Option V)
abbrev VK := V → Hp → Prop
abbrev TE := St → Hp → VK → Prop
abbrev TT := St → Hp → (Bool → Hp → Prop) → Prop
abbrev TA := St → Hp → (List V → Hp → Prop) → Prop
structure zgt where
 nx : St → Hp → Prop
 rt : VK
 bk : St → Hp → Prop := fun _ _ => False
 ct : St → Hp → Prop := fun _ _ => False
abbrev TS := zgt → St → Hp → Prop
def EP (X : Cx) (pins : List (Addr × Obj)) (σ : St) (Q : VK) (u : Value) (s' : Shared) : Prop := ∃ v H', Inv X pins σ H' s' ∧ RelV v u ∧ Q v H'
def TP (X : Cx) (pins : List (Addr × Obj)) (σ : St) (Q : Bool → Hp → Prop) (b : Bool) (s' : Shared) : Prop := ∃ H', Inv X pins σ H' s' ∧ Q b H'
def AP (X : Cx) (pins : List (Addr × Obj)) (σ : St) (Q : List V → Hp → Prop) (us : List Value) (s' : Shared) : Prop := ∃ vs H', Inv X pins σ H' s' ∧ Vals vs us ∧ Q vs H'
def SP (X : Cx) (pins : List (Addr × Obj)) (D : zgt) (f : Flow) (s' : Shared) : Prop :=
 match f with
 | .next => ∃ σ' H', Inv X pins σ' H' s' ∧ D.nx σ' H'
 | .brk => ∃ σ' H', Inv X pins σ' H' s' ∧ D.bk σ' H'
 | .cont => ∃ σ' H', Inv X pins σ' H' s' ∧ D.ct σ' H'
 | .ret u => ∃ v σ' H', Inv X pins σ' H' s' ∧ RelV v u ∧ D.rt v H'
def PE (X : Cx) (e : Expr) (t : TE) : Prop :=
 ∀ (pins : List (Addr × Obj)) (s : Shared) (σ : St) (H : Hp) (Q : VK), Inv X pins σ H s → t σ H Q → wpAny (model X.prog X.w) X.A (eval e X.env) (EP X pins σ Q) X.xe s
def PT (X : Cx) (e : Expr) (t : TT) : Prop :=
 ∀ (pins : List (Addr × Obj)) (s : Shared) (σ : St) (H : Hp) (Q : Bool → Hp → Prop), Inv X pins σ H s → t σ H Q → wpAny (model X.prog X.w) X.A (isTrue e X.env (eval e X.env)) (TP X pins σ Q) X.xe s
def PW (X : Cx) (e : Expr) (t : TT) : Prop :=
 ∀ (whole : Sem Value) (pins : List (Addr × Obj)) (s : Shared) (σ : St) (H : Hp) (Q : Bool → Hp → Prop), Inv X pins σ H s → t σ H Q → wpAny (model X.prog X.w) X.A (isTrue e X.env whole) (TP X pins σ Q) X.xe s
theorem PW.pt {X : Cx} {e : Expr} {t : TT} (h : PW X e t) : PT X e t := h _
def PA (X : Cx) (es : List Expr) (t : TA) : Prop :=
 ∀ (pos : Pos) (pins : List (Addr × Obj)) (s : Shared) (σ : St) (H : Hp) (Q : List V → Hp → Prop), Inv X pins σ H s → t σ H Q → wpAny (model X.prog X.w) X.A (spliced (backTo pos (starEach es X.env))) (AP X pins σ Q) X.xe s
def PS (X : Cx) (st : Stmt) (t : TS) : Prop :=
 ∀ (pins : List (Addr × Obj)) (s : Shared) (σ : St) (H : Hp) (D : zgt), Inv X pins σ H s → t D σ H → wpAny (model X.prog X.w) X.A (exec st X.env) (SP X pins D) X.xe s
def PSs (X : Cx) (st : List Stmt) (t : TS) : Prop :=
 ∀ (pins : List (Addr × Obj)) (s : Shared) (σ : St) (H : Hp) (D : zgt), Inv X pins σ H s → t D σ H → wpAny (model X.prog X.w) X.A (execs st X.env) (SP X pins D) X.xe s
theorem thn {α : Type} {t : Sem α} {Q Q' : α → Shared → Prop} {M : Model} {A : Around} {E : Value → Shared → Prop} {s : Shared} (h : wpAny M A t Q E s) (hQ : ∀ a s, Q a s → Q' a s) : wpAny M A t Q' E s := wpAny_mono h hQ fun _ _ x => x
section
variable {X : Cx}
def zxg (i : Nat) : TE := fun σ H Q => ∃ v, σ[i]? = some (some v) ∧ Q v H
def tC (v : V) : TE := fun _ H Q => Q v H
theorem zoz {i : Nat} {x : Str} {pos : Pos} (hN : X.N[i]? = some x) (hv : Vis X.env.scope x) (hd : (x == ("__debug__" : Str)) = false := by decide) (hcd : (x == ("__classdict__" : Str)) = false := by decide) : PE X (.Name x pos) (zxg i) := by
 intro pins s σ H Q I h
 obtain ⟨v, e, h⟩ := h
 obtain ⟨m, hn, hl⟩ := I.loc
 obtain ⟨u, r, l⟩ := hl i x v hN e hv
 have ac : EP X pins σ Q u s := ⟨v, H, I, r, h⟩
 rcases l with ⟨hk, hm⟩ | ⟨hk, c, hc, aa⟩
 ·exact wpAny_Name (wpAny_loadName_local I.ok.kind hk hn hm ac) hd
 ·rcases hk with hk | hk
  ·exact wpAny_Name (wpAny_loadName_cell I.ok.kind hk hc aa ac) hd
  ·exact wpAny_Name (wpAny_loadName_free I.ok.kind hk hc aa ac hcd) hd
theorem zad {i j pos} : PE X (.Constant (.int i) j pos) (tC (.int i)) := fun _ _ _ H _ I h => wpAny_Constant_int ⟨.int i, H, I.tok _, ⟨_, rfl⟩, h⟩
theorem ziy {b j pos} : PE X (.Constant (.bool b) j pos) (tC (.bl b)) := fun _ _ _ H _ I h => Constant_bool ⟨.bl b, H, I, rfl, h⟩
theorem zco {j pos} : PE X (.Constant .none j pos) (tC .non) := fun _ _ _ H _ I h => Constant_none ⟨.non, H, I, rfl, h⟩
theorem zbe {x j pos} : PE X (.Constant (.str x) j pos) (tC (.str x)) := fun _ _ _ H _ I h => Calls.Constant_str ⟨.str x, H, I.tok _, ⟨_, rfl⟩, h⟩
def Gl (X : Cx) (x : Str) : Prop := X.env.kindOf x = some .globalImplicit
theorem ze9 {E : Value → Shared → Prop} {pins : List (Addr × Obj)} {s : Shared} {σ : St} {H : Hp} {x : Str} {u : Value} {pos : Pos} {Q : Value → Shared → Prop} (I : Inv X pins σ H s) (hg : Gl X x) (hm : X.mg x = some u) (h : Q u s)
  (hd : (x == ("__debug__" : Str)) = false := by decide) : wpAny (model X.prog X.w) X.A (eval (.Name x pos) X.env) Q E s :=
 Calls.Name_function_global I.ok.kind hg (Calls.loadGlobal_global (by rw [I.ok.glob]; exact I.mod.glob.keeps I.bk) hm h) hd
theorem zh7 {E : Value → Shared → Prop} {pins : List (Addr × Obj)} {s : Shared} {σ : St} {H : Hp} {x : Str} {u : Value} {pos : Pos} {Q : Value → Shared → Prop} (I : Inv X pins σ H s) (hg : Gl X x) (hm : X.mg x = none) (hv : bootBuiltins x = some u) (h : Q u s)
  (hn : x ≠ "__name__" := by decide) (hd : (x == ("__debug__" : Str)) = false := by decide) : wpAny (model X.prog X.w) X.A (eval (.Name x pos) X.env) Q E s := by
 obtain ⟨mb, h1, h2⟩ := I.mod.blt
 exact Calls.Name_function_global I.ok.kind hg (Calls.loadGlobal_builtin (by rw [I.ok.glob]; exact I.mod.glob.keeps I.bk) hm (by rw [I.ok.blt]; exact h1.keeps I.bk) ((h2 x hn).trans hv) h) hd
theorem zdu {x : Str} {v : V} {u : Value} {pos : Pos} (hg : Gl X x) (hm : X.mg x = some u) (r : RelV v u) (hd : (x == ("__debug__" : Str)) = false := by decide) : PE X (.Name x pos) (tC v) :=
 fun _ _ _ H _ I h => ze9 I hg hm ⟨v, H, I, r, h⟩ hd
theorem zp6 {x : Str} {v : V} {u : Value} {pos : Pos} (hg : Gl X x) (hm : X.mg x = none) (hv : bootBuiltins x = some u) (r : RelV v u) (hn : x ≠ "__name__" := by decide) (hd : (x == ("__debug__" : Str)) = false := by decide) : PE X (.Name x pos) (tC v) :=
 fun _ _ _ H _ I h => zh7 I hg hm hv ⟨v, H, I, r, h⟩ hn hd
variable {a b : Expr} {ta tb : TE} {pos : Pos}
def tB (t : TE) : TT := fun σ H Q => t σ H fun x H1 => ∃ c, x = .bl c ∧ Q c H1
theorem zbo {e : Expr} {t : TE} (h : PE X e t) (he : ∀ whole, isTrue e X.env whole = (do let v ← whole; standAt e.pos; holding [v] (truthy v)) := by intro _; rfl) : PT X e (tB t) := by
 intro pins s σ H Q I hw
 refine isTrue_plain (thn (h pins s σ H _ I hw) fun v s1 ⟨x, H1, I1, r1, q1⟩ => ?_) (he _)
 obtain ⟨d, rfl, q⟩ := q1
 cases r1
 exact wpAny_truthy_bool ⟨H1, I1, q⟩
variable {tA tB' : TT} {rest : List Expr}
def zyw (t u : TT) : TT := fun σ H Q => t σ H fun c H1 => if c = true then u σ H1 Q else Q false H1
def tOr (t u : TT) : TT := fun σ H Q => t σ H fun c H1 => if c = true then Q true H1 else u σ H1 Q
def zyu (t : TT) : TT := fun σ H Q => t σ H fun c H1 => Q (!c) H1
theorem zfg (ha : PT X a tA) : PW X (.BoolOp .And [a] pos) tA := by
 intro wh pins s σ H Q I h
 refine isTrue_and (thn (ha pins s σ H Q I h) fun c s1 e => ?_)
 cases c with
 | true => exact isTrue_and_nil e
 | false => exact e
theorem zhf (ha : PT X a tA) : PW X (.BoolOp .Or [a] pos) tA := by
 intro wh pins s σ H Q I h
 refine isTrue_or (thn (ha pins s σ H Q I h) fun c s1 e => ?_)
 cases c with
 | false => exact isTrue_or_nil e
 | true => exact e
theorem zgc (ha : PT X a tA) (hb : PW X (.BoolOp .And (b :: rest) pos) tB') : PW X (.BoolOp .And (a :: b :: rest) pos) (zyw tA tB') := by
 intro wh pins s σ H Q I h
 refine isTrue_and (thn (ha pins s σ H _ I h) fun c s1 ⟨H1, I1, q1⟩ => ?_)
 cases c with
 | true => exact hb wh pins s1 σ H1 Q I1 q1
 | false => exact ⟨H1, I1, q1⟩
theorem zg2 (ha : PT X a tA) (hb : PW X (.BoolOp .Or (b :: rest) pos) tB') : PW X (.BoolOp .Or (a :: b :: rest) pos) (tOr tA tB') := by
 intro wh pins s σ H Q I h
 refine isTrue_or (thn (ha pins s σ H _ I h) fun c s1 ⟨H1, I1, q1⟩ => ?_)
 cases c with
 | true => exact ⟨H1, I1, q1⟩
 | false => exact hb wh pins s1 σ H1 Q I1 q1
theorem zf2 (ha : PT X a tA) : PT X (.UnaryOp .Not a pos) (zyu tA) := by
 intro pins s σ H Q I h
 exact isTrue_not (ha pins s σ H (fun c H1 => Q (!c) H1) I h)
def zx1 (ta tb : TE) : TE := fun σ H Q => ta σ H fun x H1 => ∃ c, x = .bl c ∧ if c = true then tb σ H1 Q else Q (.bl false) H1
def zxn (ta : TE) : TE := fun σ H Q => ta σ H fun x H1 => ∃ c, x = .bl c ∧ Q (.bl (!c)) H1
theorem zd4 {op} {t : TE} (h : PE X a t) : PE X (.BoolOp op [a] pos) t := fun pins s σ H Q I hw => BoolOp_one (h pins s σ H Q I hw)
theorem zdk (ha : PE X a ta) (hb : PE X (.BoolOp .And (b :: rest) pos) tb) : PE X (.BoolOp .And (a :: b :: rest) pos) (zx1 ta tb) := by
 intro pins s σ H Q I h
 refine BoolOp_and (thn (ha pins s σ H _ I h) fun v s1 ⟨x, H1, I1, r1, q1⟩ => ?_)
 obtain ⟨c, rfl, q1⟩ := q1
 cases r1
 refine wpAny_truthy_bool ?_
 cases c with
 | true => exact hb pins s1 σ H1 Q I1 q1
 | false => exact ⟨.bl false, H1, I1, rfl, q1⟩
theorem zjl (ha : PE X a ta) : PE X (.UnaryOp .Not a pos) (zxn ta) := by
 intro pins s σ H Q I h
 refine UnaryOp_ (thn (ha pins s σ H _ I h) fun v s1 ⟨x, H1, I1, r1, q1⟩ => ?_)
 obtain ⟨c, rfl, q1⟩ := q1
 cases r1
 exact not_of (wpAny_truthy_bool ⟨.bl (!c), H1, I1, rfl, q1⟩)
end
def SqL (K : PySem.W.Frag) (H : Hp) (a : Addr) (xs : List V) : Prop :=
 Rd H a (.lst xs) ∨
  ∃ (o : Obj) (its : Array Value) (n : Nat), K.lookup a = some o ∧ o.cls = .type "list" ∧ o.dict = none ∧ o.data = .seq its n ∧ its.size ≤ sizeLine ∧ Vals xs its.toList
def SqT (K : PySem.W.Frag) (H : Hp) (a : Addr) (xs : List V) : Prop :=
 Rd H a (.tup xs) ∨
  ∃ (o : Obj) (its : Array Value) (n : Nat), K.lookup a = some o ∧ o.cls = .type "tuple" ∧ o.data = .seq its n ∧ its.size ≤ sizeLine ∧ Vals xs its.toList
def zyx : Value → Option V
 | .none => some .non
 | .bool b => some (.bl b)
 | .int i _ => some (.int i)
 | .str x _ => some (.str x)
 | .bytes b _ => some (.byt b)
 | .float b _ => some (.flt b)
 | .ref a => some (.ref a)
 | .type n => some (.ty n)
 | _ => none
theorem RelV.abs {x : V} {u : Value} (r : RelV x u) : zyx u = some x := by
 cases x with
 | non => cases r; rfl
 | bl _ => cases r; rfl
 | int _ => obtain ⟨t, rfl⟩ := r; rfl
 | str _ => obtain ⟨t, rfl⟩ := r; rfl
 | byt _ => obtain ⟨t, rfl⟩ := r; rfl
 | flt _ => obtain ⟨t, rfl⟩ := r; rfl
 | ref _ => cases r; rfl
 | ty _ => cases r; rfl
theorem RelV.inj {x y : V} {u : Value} (r : RelV x u) (q : RelV y u) : x = y := Option.some.inj (r.abs.symm.trans q.abs)
theorem Vals.inj : ∀ {xs ys : List V} {us : List Value}, Vals xs us → Vals ys us → xs = ys
 | _, _, _, .nil, .nil => rfl
 | _, _, _, .cons r t, .cons r' t' => by rw [r.inj r', Vals.inj t t']
section
variable {X : Cx} {pins : List (Addr × Obj)} {σ : St} {H : Hp} {s : Shared} {a : Addr} {xs ys : List V}
theorem SqL.of {K : PySem.W.Frag} (h : H a = some (.lst xs)) : SqL K H a xs := .inl (.inl h)
theorem Inv.list (I : Inv X pins σ H s) (h : SqL X.K H a xs) : ∃ its : List Value, Vals xs its ∧ PlainL s.heap a its.toArray ∧ xs.length ≤ sizeLine := by
 rcases h with h | ⟨o, its, n, hk, hc, hd, hs, hz, r⟩
 ·obtain ⟨z, its, n, r, e⟩ := h.ok I.hok
  exact ⟨its, r, ⟨_, n, e, rfl, rfl, rfl⟩, z⟩
 ·refine ⟨its.toList, r, ⟨o, n, I.kIn a o hk, hc, hd, by simpa using hs⟩, ?_⟩
  have e := r.length
  simp only [Array.length_toList] at e
  omega
theorem Inv.tuple (I : Inv X pins σ H s) (h : SqT X.K H a xs) : ∃ its : List Value, Vals xs its ∧ IsTup s.heap a its.toArray ∧ xs.length ≤ sizeLine := by
 rcases h with h | ⟨o, its, n, hk, hc, hs, hz, r⟩
 ·obtain ⟨z, its, r, p⟩ := h.ok I.hok
  exact ⟨its, r, p, z⟩
 ·refine ⟨its.toList, r, ⟨o, I.kIn a o hk, hc, n, by simpa using hs⟩, ?_⟩
  have e := r.length
  simp only [Array.length_toList] at e
  omega
theorem Inv.list_inj (I : Inv X pins σ H s) (h : SqL X.K H a xs) (h' : SqL X.K H a ys) : xs = ys := by
 obtain ⟨aa, r, ⟨o, n, e, _, _, d⟩, _⟩ := I.list h
 obtain ⟨its', r', ⟨o', n', e', _, _, d'⟩, _⟩ := I.list h'
 rw [e] at e'; cases e'
 rw [d] at d'
 injection d' with d1 _
 have : aa = its' := by simpa using congrArg Array.toList d1
 subst this
 exact r.inj r'
theorem Inv.tuple_inj (I : Inv X pins σ H s) (h : SqT X.K H a xs) (h' : SqT X.K H a ys) : xs = ys := by
 obtain ⟨aa, r, ⟨o, e, _, n, d⟩, _⟩ := I.tuple h
 obtain ⟨its', r', ⟨o', e', _, n', d'⟩, _⟩ := I.tuple h'
 rw [e] at e'; cases e'
 rw [d] at d'
 injection d' with d1 _
 have : aa = its' := by simpa using congrArg Array.toList d1
 subst this
 exact r.inj r'
end
abbrev Cx.wish (X : Cx) (E : Value → Shared → Prop) : Cx := { X with xe := E }
abbrev Cx.nox (X : Cx) : Cx := X.wish fun _ _ => False
theorem Cx.Ok.wish {X : Cx} (ok : X.Ok) (E : Value → Shared → Prop) : (X.wish E).Ok :=
 ⟨ok.mod, ok.kind, ok.glob, ok.blt, ok.above, ok.inj, ok.has, ok.cab, ok.hd, ok.frames, ok.stk, ok.exf, ok.bs, ok.bsz, ok.noex, ok.exfs, ok.funs, ok.frf⟩
theorem Cx.Ok.unwish {X : Cx} {E : Value → Shared → Prop} (ok : (X.wish E).Ok) : X.Ok :=
 ⟨ok.mod, ok.kind, ok.glob, ok.blt, ok.above, ok.inj, ok.has, ok.cab, ok.hd, ok.frames, ok.stk, ok.exf, ok.bs, ok.bsz, ok.noex, ok.exfs, ok.funs, ok.frf⟩
section
variable {X : Cx} {pins : List (Addr × Obj)} {σ : St} {H : Hp} {s : Shared} {E : Value → Shared → Prop}
theorem Inv.wish (I : Inv X pins σ H s) (E : Value → Shared → Prop) : Inv (X.wish E) pins σ H s := ⟨I.ok.wish E, I.os, I.bare, I.base, I.loc, I.cell, I.free, I.freeC, I.pin, I.hok, I.len⟩
theorem Inv.unwish (I : Inv (X.wish E) pins σ H s) : Inv X pins σ H s := ⟨I.ok.unwish, I.os, I.bare, I.base, I.loc, I.cell, I.free, I.freeC, I.pin, I.hok, I.len⟩
theorem SP.unwish {D : zgt} {f : Flow} {s' : Shared} (h : SP (X.wish E) pins D f s') : SP X pins D f s' := by
 cases f with
 | next => obtain ⟨σ', H', I, q⟩ := h; exact ⟨σ', H', I.unwish, q⟩
 | brk => obtain ⟨σ', H', I, q⟩ := h; exact ⟨σ', H', I.unwish, q⟩
 | cont => obtain ⟨σ', H', I, q⟩ := h; exact ⟨σ', H', I.unwish, q⟩
 | ret u => obtain ⟨v, σ', H', I, r, q⟩ := h; exact ⟨v, σ', H', I.unwish, r, q⟩
theorem PSs.nox {st : List Stmt} {t : TS} (h : PSs X.nox st t) : PSs X st t := fun pins s σ H D I hw =>
 wpAny_mono (h pins s σ H D (I.wish _) hw) (fun _ _ q => q.unwish) fun _ _ z => False.elim z
end
section
variable {X : Cx} {st : Stmt} {rest : List Stmt} {t u : TS} {e : Expr} {te : TE} {pos : Pos}
def zx6 : TS := fun D σ H => D.nx σ H
def zyz (t u : TS) : TS := fun D σ H => t { D with nx := u D } σ H
theorem za0 : PSs X [] zx6 := fun _ _ σ H _ I h => wpAny_execs_nil ⟨σ, H, I, h⟩
theorem zae (h1 : PS X st t) (h2 : PSs X rest u) : PSs X (st :: rest) (zyz t u) := by
 intro pins s σ H D I h
 refine wpAny_execs_cons (thn (h1 pins s σ H { D with nx := u D } I h) fun f s1 q => ?_)
 cases f with
 | next =>
  obtain ⟨σ', H', I', q⟩ := q
  exact h2 pins s1 σ' H' D I' q
 | ret v => exact q
 | brk => exact q
 | cont => exact q
theorem zai (h1 : PS X st t) : PSs X [st] t := by
 intro pins s σ H D I h
 refine wpAny_execs_cons (thn (h1 pins s σ H D I h) fun f s1 q => ?_)
 cases f with
 | next => exact wpAny_execs_nil q
 | ret v => exact q
 | brk => exact q
 | cont => exact q
theorem Inv.quiet {pins : List (Addr × Obj)} {σ : St} {H : Hp} {s : Shared} (I : Inv X pins σ H s) : interactive X.env = false := by simp [interactive, I.ok.kind]
def zx2 (te : TE) : TS := fun D σ H => te σ H fun _ H1 => D.nx σ H1
theorem zca (he : PE X e te) (hs : swapsWith e none pos.line X.env = pure false := by rfl) : PS X (.Expr e pos) (zx2 te) := by
 intro pins s σ H D I h
 exact wpAny_Expr_any (thn (he pins s σ H _ I h) fun v s1 ⟨x, H1, I1, r1, q1⟩ => ⟨σ, H1, I1, q1⟩) I.quiet hs
def zyn (te : TE) : TS := fun D σ H => te σ H D.rt
theorem zap (he : PE X e te) : PS X (.Return (some e) pos) (zyn te) := by
 intro pins s σ H D I h
 exact wpAny_Return_some (thn (he pins s σ H _ I h) fun v s1 ⟨x, H1, I1, r1, q1⟩ => ⟨x, σ, H1, I1, r1, q1⟩)
def zyr (c : TT) (t u : TS) : TS := fun D σ H => c σ H fun b H1 => if b = true then t D σ H1 else u D σ H1
theorem za4 {c : Expr} {a b : List Stmt} {tc : TT} (hc : PT X c tc) (ha : PSs X a t) (hb : PSs X b u) : PS X (.If c a b pos) (zyr tc t u) := by
 intro pins s σ H D I h
 refine wpAny_If (thn (hc pins s σ H _ I h) fun d s1 ⟨H1, I1, q1⟩ => ?_)
 cases d with
 | true => exact ha pins s1 σ H1 D I1 q1
 | false => exact hb pins s1 σ H1 D I1 q1
def znj : TS := fun _ _ _ => False
theorem zh0 : PS X st znj := fun _ _ _ _ _ _ h => h.elim
theorem zlp {sts : List Stmt} : PSs X sts znj := fun _ _ _ _ _ _ h => h.elim
end
abbrev TG := V → St → Hp → (St → Hp → Prop) → Prop
abbrev TGs := List V → St → Hp → (St → Hp → Prop) → Prop
def PG (X : Cx) (target : Expr) (t : TG) : Prop :=
 ∀ (pins : List (Addr × Obj)) (s : Shared) (σ : St) (H : Hp) (v : V) (u : Value) (Q : St → Hp → Prop), Inv X pins σ H s → RelV v u → t v σ H Q →
  wpAny (model X.prog X.w) X.A (assign target X.env u) (fun _ s' => ∃ σ' H', Inv X pins σ' H' s' ∧ Q σ' H') X.xe s
def PGs (X : Cx) (ts : List Expr) (t : TGs) : Prop :=
 ∀ (pins : List (Addr × Obj)) (s : Shared) (σ : St) (H : Hp) (vs : List V) (us : List Value) (Q : St → Hp → Prop), Inv X pins σ H s → Vals vs us → t vs σ H Q →
  wpAny (model X.prog X.w) X.A (assignInOrder ((assignEach ts X.env).map (·.2)) us) (fun _ s' => ∃ σ' H', Inv X pins σ' H' s' ∧ Q σ' H') X.xe s
abbrev zxc := V → V → V → Hp → (Hp → Prop) → Prop
def zx7 (X : Cx) (t : zxc) : Prop :=
 ∀ (pins : List (Addr × Obj)) (s : Shared) (σ : St) (H : Hp) (o i v : V) (ov iv u : Value) (Q : Hp → Prop), Inv X pins σ H s → RelV o ov → RelV i iv → RelV v u → t o i v H Q →
  wpAny (model X.prog X.w) X.A (setItem ov iv u) (fun _ s' => ∃ H', Inv X pins σ H' s' ∧ Q H') X.xe s
section
variable {X : Cx} {pos : Pos}
def zqc (i : Nat) : TG := fun v σ H Q => Q (σ.set i (some v)) H
theorem zaw {i : Nat} {x : Str} (hN : X.N.Nodup) (hi : X.N[i]? = some x) (hx : Loc X.env.scope x) (hf : X.fn x = true ∨ X.env.scope.names.lookup x = some .local := by first | exact .inl rfl | exact .inr rfl | assumption) : PG X (.Name x pos) (zqc i) := by
 intro pins s σ H v u Q I r h
 exact wpAny_assign_Name (zkd I hN hi hx r (fun s' I' => ⟨_, H, I', h⟩) hf)
def zym : TGs := fun vs σ H Q => vs = [] ∧ Q σ H
def zxl (t : TG) (u : TGs) : TGs := fun vs σ H Q => ∃ v r, vs = v :: r ∧ t v σ H fun σ' H' => u r σ' H' Q
theorem zce : PGs X [] zym := by
 intro pins s σ H vs us Q I r h
 obtain ⟨e, h⟩ := h
 subst e
 cases r
 exact assignInOrder_nil ⟨σ, H, I, h⟩
theorem za3 {e : Expr} {es : List Expr} {t : TG} {u : TGs} (h1 : PG X e t) (h2 : PGs X es u)
  (hs : (assignEach (e :: es) X.env).map (·.2) = assign e X.env :: (assignEach es X.env).map (·.2) := by rfl) : PGs X (e :: es) (zxl t u) := by
 intro pins s σ H vs us Q I r h
 obtain ⟨v, vr, e1, h⟩ := h
 subst e1
 cases r with
 | cons r rr =>
  rw [hs]
  refine assignInOrder_cons (thn (h1 pins s σ H _ _ _ I r h) fun _ s1 ⟨σ1, H1, I1, q1⟩ => ?_)
  exact h2 pins s1 σ1 H1 _ _ Q I1 rr q1
def zxm (K : PySem.W.Frag) (n : Nat) (t : TGs) : TG := fun v σ H Q => ∃ a xs, v = .ref a ∧ SqT K H a xs ∧ xs.length = n ∧ t xs σ H Q
theorem zxe {es : List Expr} {k : Nat} {t : TGs} {n : Nat} (hc : X.calm = true) (h : PGs X es t)
  (hn : (assignEach es X.env).length = n := by rfl) (hst : (assignEach es X.env).findIdx? (·.1) = none := by rfl) : PG X (.Tuple es k pos) (zxm X.K n t) := by
 intro pins s σ H v u Q I r hw
 obtain ⟨a, xs, e1, hq, hl, hw⟩ := hw
 subst e1
 cases r
 obtain ⟨aa, rv, ht, hz⟩ := I.tuple hq
 refine assign_Tuple_tuple (I.ok.hd hc) ht (by simp [hn, ← hl, rv.length]) hst fun h' hx => ?_
 have I1 : Inv X pins σ H { s with heap := h' } := I.kept (t' := s.toks) fun b o e => hx b o (Nat.ne_of_lt (Heap.lt_size e)) e
 exact h pins _ σ H xs _ Q I1 (by simpa using rv) hw
def zyv (to ti : TE) (t : zxc) : TG := fun v σ H Q => to σ H fun o H1 => ti σ H1 fun i H2 => t o i v H2 fun H3 => Q σ H3
theorem zud {o i : Expr} {to ti : TE} {t : zxc} (ho : PE X o to) (hi : PE X i ti) (hs : zx7 X t)
  (ha : ∀ v, assign (.Subscript o i pos) X.env v = (do
   let ov ← holding [v] (eval o X.env)
   let iv ← holding [v, ov] (eval i X.env)
   standAt pos
   holding [v, ov, iv] (setItem ov iv v)
   release [v, ov, iv] []) := by intro _; rfl) : PG X (.Subscript o i pos) (zyv to ti t) := by
 intro pins s σ H v u Q I r h
 rw [ha]
 refine wpAny_bind (wpAny_holding (thn (ho pins s σ H _ I h) fun ov s1 ⟨x, H1, I1, r1, q1⟩ => ?_))
 refine wpAny_bind (wpAny_holding (thn (hi pins s1 σ H1 _ I1 q1) fun iv s2 ⟨y, H2, I2, r2, q2⟩ => ?_))
 refine wpAny_bind (wpAny_standAt (wpAny_bind (wpAny_holding (thn (hs pins s2 σ H2 x y v ov iv u _ I2 r1 r2 r q2) fun _ s3 ⟨H3, I3, q3⟩ => ?_))))
 exact wpAny_release ⟨σ, H3, I3, q3⟩
def zwn (te : TE) (g : TG) : TS := fun D σ H => te σ H fun x H1 => g x σ H1 D.nx
theorem zh8 {tg e : Expr} {te : TE} {g : TG} (he : PE X e te) (hg : PG X tg g) (hs : swapsWithSole [tg] e pos.line X.env = pure false := by rfl) (hw : swappedStores [tg] e X.env = pure none := by rfl)
  (h1 : (assignEach [tg] X.env).map (·.2) = [assign tg X.env] := by rfl) : PS X (.Assign [tg] e pos) (zwn te g) := by
 intro pins s σ H D I h
 refine wpAny_Assign_stores (thn (he pins s σ H _ I h) fun v s1 ⟨x, H1, I1, r1, q1⟩ => ?_) hs hw
 rw [h1]
 exact thn (hg pins s1 σ H1 x v _ I1 r1 q1) fun _ s2 q => q
theorem zao {i : Nat} {x : Str} {e : Expr} {te : TE} {pos' : Pos} (hN : X.N.Nodup) (hi : X.N[i]? = some x) (hx : Loc X.env.scope x) (he : PE X e te) (hs : swapsWith e (some (.Name x pos')) pos.line X.env = pure false := by rfl) (hf : X.fn x = true ∨ X.env.scope.names.lookup x = some .local := by first | exact .inl rfl | exact .inr rfl | assumption) :
  PS X (.Assign [.Name x pos'] e pos) (zwn te (zqc i)) := by
 intro pins s σ H D I h
 refine wpAny_Assign_Name (thn (he pins s σ H _ I h) fun v s1 ⟨y, H1, I1, r1, q1⟩ => ?_) hs
 exact zkd I1 hN hi hx r1 (fun s2 I2 => ⟨_, H1, I2, q1⟩) hf
end
structure It where
 go : Nat → Hp → Prop
 yld : Nat → Hp → V → Hp → Prop
 stop : Nat → Hp → Prop
def zi5 (X : Cx) (pins : List (Addr × Obj)) (H : Hp) (b : Addr) : Prop :=
 H b = none ∧ b ≠ X.env.locals ∧ b ∉ X.fs ∧ (b ∈ X.ex ∨ X.s₀.heap.objs.size ≤ b) ∧ (∀ x c, X.env.cells.lookup x = some c → c ≠ b) ∧ ∀ p ∈ X.pn ++ pins, p.1 ≠ b
theorem Inv.fpOk {X : Cx} {pins : List (Addr × Obj)} {σ : St} {H H' : Hp} {s : Shared} {b : Addr} (I : Inv X pins σ H s) (hb : s.heap.objs.size ≤ b) (hn : H' b = none) : zi5 X pins H' b := by
 refine ⟨hn, Nat.ne_of_gt (Nat.lt_of_lt_of_le I.lt hb), I.nofs hb, .inr (Nat.le_trans I.sz hb), fun x c e z => ?_, fun p hp z => ?_⟩
 ·obtain ⟨v, q⟩ := I.cell x c e
  exact absurd (Nat.lt_of_lt_of_le q.lt (by rw [z]; exact hb)) (Nat.lt_irrefl _)
 ·exact absurd (Nat.lt_of_lt_of_le (Heap.lt_size (I.pin p hp).1) (by rw [z]; exact hb)) (Nat.lt_irrefl _)
structure ztq (P : Program) (w : World) (K : PySem.W.Frag) (tg : Expr) (J : It) (fp : List Addr) (it : Addr) (tn : Nat → Heap → Prop) : Prop where
 mem : it ∈ fp
 obj : ∀ i h, tn i h → ∀ b ∈ fp, ∃ o, h.get? b = some o ∧ ∀ v, o.data ≠ .cell v
 keep : ∀ i h h', tn i h → (∀ b ∈ fp, ∀ o, h.get? b = some o → h'.get? b = some o) → tn i h'
 item : ∀ (X : Cx), X.prog = P → X.w = w → X.K = K → X.calm = true → ∀ (i : Nat) (pins : List (Addr × Obj)) (s : Shared) (σ : St) (H : Hp) (E : Value → Shared → Prop), Inv X pins σ H s → (∀ b ∈ fp, zi5 X pins H b) → tn i s.heap → J.go i H →
  wpAny (model P w) X.A (pyNext (.ref it)) (fun r s1 => ∃ u, r = some u ∧
   wpAny (model P w) X.A (letOwnedTupleGo tg (.ref it) u) (fun _ s2 => ∃ x H', Inv X pins σ H' s2 ∧ RelV x u ∧ J.yld i H x H' ∧ tn (i + 1) s2.heap ∧ ∀ b ∈ fp, H' b = none) E s1) E s
 done : ∀ (X : Cx), X.prog = P → X.w = w → X.K = K → X.calm = true → ∀ (i : Nat) (pins : List (Addr × Obj)) (s : Shared) (σ : St) (H : Hp) (E : Value → Shared → Prop), Inv X pins σ H s → (∀ b ∈ fp, zi5 X pins H b) → tn i s.heap → J.stop i H →
  wpAny (model P w) X.A (pyNext (.ref it)) (fun r s1 => r = none ∧ Inv X pins σ H s1) E s
 self : ∀ (A : Around) (i : Nat) (s : Shared) (Q : Value → Shared → Prop) (E : Value → Shared → Prop), tn i s.heap → Q (.ref it) s → wpAny (model P w) A (pyIter (.ref it)) Q E s
abbrev TI := St → Hp → (It → Hp → Prop) → Prop
def PIE (X : Cx) (pins : List (Addr × Obj)) (σ : St) (tg : Expr) (R : It → Hp → Prop) (itv : Value) (s2 : Shared) : Prop :=
 ∃ (it : Addr) (fp : List Addr) (tn : Nat → Heap → Prop) (J : It) (H' : Hp), itv = .ref it ∧ Inv X pins σ H' s2 ∧ ztq X.prog X.w X.K tg J fp it tn ∧ tn 0 s2.heap ∧ (∀ b ∈ fp, zi5 X pins H' b) ∧ R J H'
def PI (X : Cx) (tg iter : Expr) (wi : TI) : Prop :=
 ∀ (pins : List (Addr × Obj)) (s : Shared) (σ : St) (H : Hp) (R : It → Hp → Prop), Inv X pins σ H s → wi σ H R →
  wpAny (model X.prog X.w) X.A (eval iter X.env) (fun v s1 => wpAny (model X.prog X.w) X.A (pyIter v) (PIE X pins σ tg R) X.xe s1) X.xe s
theorem ztb {M : Model} {A : Around} {E : Value → Shared → Prop} {s : Shared} {tg : Expr} {it : Addr} {u : Value} {o : Obj} {n : String} {vs : Array Value} {Q : Unit → Shared → Prop} (ho : s.heap.get? it = some o) (hc : o.cls = .type n) (hd : o.data = .fields vs)
    (hn : ["enumerate", "zip", "dict_itemiterator", "dict_reverseitemiterator", "odict_iterator", "itertools.zip_longest", "itertools.pairwise"].contains n = false) (hQ : Q () s) : wpAny M A (letOwnedTupleGo tg (.ref it) u) Q E s := by
  unfold letOwnedTupleGo
  cases tg <;> first
    | exact wpAny_pure hQ
    | (cases u <;> first
        | exact wpAny_pure hQ
        | (refine wpAny_bind (wpAny_load ho ?_)
           rw [hc, hd]
           show wpAny M A (if (["enumerate", "zip", "dict_itemiterator", "dict_reverseitemiterator", "odict_iterator", "itertools.zip_longest", "itertools.pairwise"].contains n && vs[0]? == some (rawInt _)) = true then _ else _) Q E s
           rw [if_neg (by intro h; rw [hn, Bool.false_and] at h; cases h)]
           exact wpAny_pure hQ))
def Itl (K : PySem.W.Frag) (a : Addr) : It :=
 ⟨fun i H => ∃ xs x, SqL K H a xs ∧ xs[i]? = some x, fun i H x H' => H' = H ∧ ∀ xs, SqL K H a xs → xs[i]? = some x, fun i H => ∃ xs, SqL K H a xs ∧ xs.length ≤ i⟩
def Itt (K : PySem.W.Frag) (a : Addr) : It :=
 ⟨fun i H => ∃ xs x, SqT K H a xs ∧ xs[i]? = some x, fun i H x H' => H' = H ∧ ∀ xs, SqT K H a xs → xs[i]? = some x, fun i H => ∃ xs, SqT K H a xs ∧ xs.length ≤ i⟩
def Itr (lo : Int) (n : Nat) : It := ⟨fun i _ => i < n, fun i H x H' => H' = H ∧ x = .int (lo + i), fun i _ => n ≤ i⟩
theorem zl2 {P : Program} {w : World} {K : PySem.W.Frag} {tg : Expr} (a it : Addr) : ztq P w K tg (Itl K a) [it] it (fun i h => h.IsListIter it a i) where
 mem := by simp
 obj := fun i h st b hb => by
  have e : b = it := by simpa using hb
  subst e
  obtain ⟨o, e, c, d⟩ := st
  exact ⟨o, e, fun v z => by rw [d] at z; cases z⟩
 keep := fun i h h' st k => st.at fun o e => k it (by simp) o e
 item := by
  intro X hP hw hK hc i pins s σ H E I hf st hg
  subst hP hw hK
  obtain ⟨xs, x, hq, hx⟩ := hg
  obtain ⟨ac, rv, p, hz⟩ := I.list hq
  obtain ⟨u, hu, ru⟩ := rv.get hx
  obtain ⟨f0, f1, f2, f3, f4, f5⟩ := hf it (by simp)
  refine wpAny_pyNext_list_item st p.isList (x := u) (by simpa using hu) fun h' aa sb => ?_
  have I1 : Inv X pins σ H { s with heap := h' } := I.turned (t' := s.toks) (fun b o hb e => (sb.2 b hb).trans e) f0 f1 f3 f4 f5
  obtain ⟨o, e, c, d⟩ := id aa
  exact ⟨u, rfl, ztb (s := { s with heap := h' }) e c d (by decide) ⟨x, H, I1, ru, ⟨rfl, fun ys hy => by rw [I.list_inj hy hq]; exact hx⟩, aa, fun b hb => (hf b hb).1⟩⟩
 done := by
  intro X hP hw hK hc i pins s σ H E I hf st hg
  subst hP hw hK
  obtain ⟨xs, hq, hx⟩ := hg
  obtain ⟨ac, rv, p, hz⟩ := I.list hq
  obtain ⟨f0, f1, f2, f3, f4, f5⟩ := hf it (by simp)
  have hl := rv.length
  exact wpAny_pyNext_list_end (I.ok.hd hc) st p.isList (by simp; omega) fun h' eb => ⟨rfl, I.turned (t' := s.toks) (fun b o hb e => eb b o hb e) f0 f1 f3 f4 f5⟩
 self := fun _ _ _ _ _ st h => wpAny_pyIter_listiter st h
theorem zj7 {P : Program} {w : World} {K : PySem.W.Frag} {tg : Expr} (a it : Addr) : ztq P w K tg (Itt K a) [it] it (fun i h => h.IsTupleIter it a i) where
 mem := by simp
 obj := fun i h st b hb => by
  have e : b = it := by simpa using hb
  subst e
  obtain ⟨o, e, c, d⟩ := st
  exact ⟨o, e, fun v z => by rw [d] at z; cases z⟩
 keep := fun i h h' st k => st.at fun o e => k it (by simp) o e
 item := by
  intro X hP hw hK hc i pins s σ H E I hf st hg
  subst hP hw hK
  obtain ⟨xs, x, hq, hx⟩ := hg
  obtain ⟨aa, rv, p, hz⟩ := I.tuple hq
  obtain ⟨u, hu, ru⟩ := rv.get hx
  obtain ⟨f0, f1, f2, f3, f4, f5⟩ := hf it (by simp)
  refine wpAny_pyNext_tuple_item st (show s.heap.IsTuple a aa.toArray from p) (x := u) (by simpa using hu) fun h' ac sb => ?_
  have I1 : Inv X pins σ H { s with heap := h' } := I.turned (t' := s.toks) (fun b o hb e => (sb.2 b hb).trans e) f0 f1 f3 f4 f5
  obtain ⟨o, e, c, d⟩ := id ac
  exact ⟨u, rfl, ztb (s := { s with heap := h' }) e c d (by decide) ⟨x, H, I1, ru, ⟨rfl, fun ys hy => by rw [I.tuple_inj hy hq]; exact hx⟩, ac, fun b hb => (hf b hb).1⟩⟩
 done := by
  intro X hP hw hK hc i pins s σ H E I hf st hg
  subst hP hw hK
  obtain ⟨xs, hq, hx⟩ := hg
  obtain ⟨aa, rv, p, hz⟩ := I.tuple hq
  obtain ⟨f0, f1, f2, f3, f4, f5⟩ := hf it (by simp)
  have hl := rv.length
  exact wpAny_pyNext_tuple_end (I.ok.hd hc) st (show s.heap.IsTuple a aa.toArray from p) (by simp; omega) fun h' eb => ⟨rfl, I.turned (t' := s.toks) (fun b o hb e => eb b o hb e) f0 f1 f3 f4 f5⟩
 self := fun _ _ _ _ _ st h => wpAny_pyIter_tupleiter st h
theorem zo3 {P : Program} {w : World} {K : PySem.W.Frag} {tg : Expr} (it : Addr) (lo : Int) (n : Nat) : ztq P w K tg (Itr lo n) [it] it (fun i h => IsRangeIter h it (lo + (i : Nat) * 1) ((n : Int) - (i : Nat)) 1) where
 mem := by simp
 obj := fun i h st b hb => by
  have e : b = it := by simpa using hb
  subst e
  exact ⟨_, st, fun v z => by
   have z' : Data.fields _ = Data.cell v := z
   cases z'⟩
 keep := fun i h h' st k => k it (by simp) _ st
 item := by
  intro X hP hw hK hc i pins s σ H E I hf st hg
  subst hP hw hK
  obtain ⟨f0, f1, f2, f3, f4, f5⟩ := hf it (by simp)
  have W := Walks.range (prog := X.prog) (w := X.w) (I.ok.hd hc) it lo 1 n
  refine W.item i s _ _ hg st fun v h' tk hv aa kk => ?_
  obtain ⟨t, rfl⟩ := hv
  have I1 : Inv X pins σ H { s with heap := h', toks := tk } := I.turned (fun b o hb e => kk b o (by simpa using hb) e) f0 f1 f3 f4 f5
  refine ⟨_, rfl, ztb (s := { s with heap := h', toks := tk }) (n := "range_iterator") aa rfl rfl (by decide) ⟨.int (lo + i), H, I1, ⟨t, ?_⟩, ⟨rfl, rfl⟩, aa, fun b hb => (hf b hb).1⟩⟩
  rw [Int.mul_one]
 done := by
  intro X hP hw hK hc i pins s σ H E I hf st hg
  subst hP hw hK
  obtain ⟨f0, f1, f2, f3, f4, f5⟩ := hf it (by simp)
  exact wpAny_pyNext_range_end (I.ok.hd hc) st (by have : n ≤ i := hg; omega) fun h' eb => ⟨rfl, I.turned (t' := s.toks) (fun b o hb e => eb b o hb e) f0 f1 f3 f4 f5⟩
 self := fun _ _ _ _ _ st h => wpAny_pyIter_rangeiter st h
section
variable {X : Cx} {tg : Expr}
def zvy (K : PySem.W.Frag) (tl : TE) : TI := fun σ H R => tl σ H fun x H1 => ∃ a, x = .ref a ∧ (∃ xs, SqL K H1 a xs) ∧ R (Itl K a) H1
def zxf (K : PySem.W.Frag) (tl : TE) : TI := fun σ H R => tl σ H fun x H1 => ∃ a, x = .ref a ∧ (∃ xs, SqT K H1 a xs) ∧ R (Itt K a) H1
theorem zus {l : Expr} {tl : TE} (hl : PE X l tl) : PI X tg l (zvy X.K tl) := by
 intro pins s σ H R I h
 refine thn (hl pins s σ H _ I h) fun v s1 ⟨x, H1, I1, r1, q1⟩ => ?_
 obtain ⟨a, e, ⟨xs, hq⟩, q⟩ := q1
 subst e
 cases r1
 obtain ⟨aa, rv, p, hz⟩ := I1.list hq
 refine wpAny_pyIter_list p.isList ?_
 refine ⟨s1.heap.objs.size, [s1.heap.objs.size], _, _, H1, rfl, I1.kept (t' := s1.toks) fun b o e => Heap.get?_push_of_some _ e, zl2 a _, ⟨_, Heap.get?_push_size _ rfl, rfl, rfl⟩, fun b hb => ?_, q⟩
 have e : b = s1.heap.objs.size := by simpa using hb
 subst e
 exact I1.fpOk (Nat.le_refl _) (I1.hok.fresh (Nat.le_refl _))
theorem zw7 {l : Expr} {tl : TE} (hl : PE X l tl) : PI X tg l (zxf X.K tl) := by
 intro pins s σ H R I h
 refine thn (hl pins s σ H _ I h) fun v s1 ⟨x, H1, I1, r1, q1⟩ => ?_
 obtain ⟨a, e, ⟨xs, hq⟩, q⟩ := q1
 subst e
 cases r1
 obtain ⟨aa, rv, p, hz⟩ := I1.tuple hq
 refine wpAny_pyIter_tuple (show s1.heap.IsTuple a aa.toArray from p) ?_
 refine ⟨s1.heap.objs.size, [s1.heap.objs.size], _, _, H1, rfl, I1.kept (t' := s1.toks) fun b o e => Heap.get?_push_of_some _ e, zj7 a _, ⟨_, Heap.get?_push_size _ rfl, rfl, rfl⟩, fun b hb => ?_, q⟩
 have e : b = s1.heap.objs.size := by simpa using hb
 subst e
 exact I1.fpOk (Nat.le_refl _) (I1.hok.fresh (Nat.le_refl _))
theorem zn3 {pins : List (Addr × Obj)} {σ : St} {H : Hp} {s : Shared} {R : It → Hp → Prop} {E : Value → Shared → Prop} {lo hi : Int} {t u v : Tok} {tk : Nat} (I : Inv X pins σ H s) (h1 : -(2 ^ 62) ≤ lo) (h2 : lo < 2 ^ 62) (h3 : -(2 ^ 62) ≤ hi) (h4 : hi < 2 ^ 62)
  (q : R (Itr lo (hi - lo).toNat) H) : wpAny (model X.prog X.w) X.A (pyIter (.ref s.heap.objs.size)) (PIE X pins σ tg R) E { s with heap := s.heap.push { cls := .type "range", data := .fields #[.int lo t, .int hi u, .int 1 v] }, toks := tk } := by
 refine wpAny_pyIter_range (IsRange.new ..) (small_one h1 h2 h3 h4) ?_
 have I1 : Inv X pins σ H { s with heap := s.heap.push { cls := .type "range", data := .fields #[.int lo t, .int hi u, .int 1 v] }, toks := tk } := I.kept fun b o e => Heap.get?_push_of_some _ e
 refine ⟨(s.heap.push { cls := .type "range", data := .fields #[.int lo t, .int hi u, .int 1 v] }).objs.size, [(s.heap.push { cls := .type "range", data := .fields #[.int lo t, .int hi u, .int 1 v] }).objs.size], _, _, H, rfl,
  I1.kept (t' := tk) fun b o e => Heap.get?_push_of_some _ e, zo3 _ lo (hi - lo).toNat, ?_, fun b hb => ?_, q⟩
 ·have e1 : lo + ((0 : Nat) : Int) * 1 = lo := by simp
  have e2 : (((hi - lo).toNat : Nat) : Int) - ((0 : Nat) : Int) = Builtin.Range.rangeSize lo hi 1 := by rw [rangeSize_one]; split <;> omega
  show IsRangeIter _ _ (lo + ((0 : Nat) : Int) * 1) ((((hi - lo).toNat : Nat) : Int) - ((0 : Nat) : Int)) 1
  rw [e1, e2]
  exact Heap.get?_push_size _ rfl
 ·have e : b = (s.heap.push { cls := .type "range", data := .fields #[.int lo t, .int hi u, .int 1 v] }).objs.size := by simpa using hb
  subst e
  exact I1.fpOk (Nat.le_refl _) (I1.hok.fresh (Nat.le_refl _))
def zyb (ta : TA) : TI := fun σ H R => ta σ H fun vs H1 => ∃ j : Int, vs = [.int j] ∧ -(2 ^ 62) ≤ j ∧ j < 2 ^ 62 ∧ R (Itr 0 j.toNat) H1
def zxk (ta : TA) : TI := fun σ H R => ta σ H fun vs H1 => ∃ i j : Int, vs = [.int i, .int j] ∧ (-(2 ^ 62) ≤ i ∧ i < 2 ^ 62 ∧ -(2 ^ 62) ≤ j ∧ j < 2 ^ 62) ∧ R (Itr i (j - i).toNat) H1
theorem zcs {a : Expr} {ta : TA} {p pos : Pos} (hg : Gl X "range") (hm : X.mg "range" = none) (ha : PA X [a] ta) (hs : starEach [a] X.env = [(false, eval a X.env)] := by rfl) : PI X tg (.Call (.Name "range" p) [a] [] pos) (zyb ta) := by
 intro pins s σ H R I h
 refine Call_ (zh7 I hg hm boot_range (PyProof.Rows.callWith_type1 (thn (ha pos pins s σ H _ I h) fun us s1 ⟨vs, H1, I1, r1, q1⟩ => ?_) hs rfl))
 obtain ⟨j, e, q1, q2, q⟩ := q1
 subst e
 cases r1 with
 | cons r rr =>
  cases rr
  obtain ⟨t, rfl⟩ := r
  exact call_range_1 (zn3 I1 (by omega) (by omega) q1 q2 (by simpa using q))
theorem zrd {a b : Expr} {ta : TA} {p pos : Pos} (hg : Gl X "range") (hm : X.mg "range" = none) (ha : PA X [a, b] ta) (hs : starEach [a, b] X.env = [(false, eval a X.env), (false, eval b X.env)] := by rfl) (hs2 : starEach [b] X.env = [(false, eval b X.env)] := by rfl) :
  PI X tg (.Call (.Name "range" p) [a, b] [] pos) (zxk ta) := by
 intro pins s σ H R I h
 refine Call_ (zh7 I hg hm boot_range (PyProof.Rows.callWith_type1 (thn (ha pos pins s σ H _ I h) fun us s1 ⟨vs, H1, I1, r1, q1⟩ => ?_) (by rw [hs, hs2]) (by rw [hs2]; rfl)))
 obtain ⟨i, j, e, ⟨q1, q2, q3, q4⟩, q⟩ := q1
 subst e
 cases r1 with
 | cons r rr =>
  cases rr with
  | cons r' rr =>
   cases rr
   obtain ⟨t, rfl⟩ := r
   obtain ⟨t', rfl⟩ := r'
   exact call_range_2 (zn3 I1 q1 q2 q3 q4 q)
def zys (wi : TI) (g : TG) (tb : TS) : TS := fun D σ H => wi σ H fun J H1 => ∃ W : Nat → Nat → St → Hp → Prop, (∃ m, W 0 m σ H1) ∧ ∀ i m σ H, W i m σ H →
 (J.stop i H ∧ D.nx σ H) ∨ (J.go i H ∧ ∃ N : St → Hp → Prop, (∀ σ' H', N σ' H' → ∃ m', m' < m ∧ W (i + 1) m' σ' H') ∧ ∀ x H', J.yld i H x H' → g x σ H' fun σ2 H2 => tb { D with nx := N, ct := N, bk := D.nx } σ2 H2)
def zid (fp : List Addr) (h : Heap) : List (Addr × Obj) := fp.filterMap fun b => (h.get? b).map fun o => (b, o)
theorem ze8 {fp : List Addr} {h : Heap} {b : Addr} {o : Obj} (hb : b ∈ fp) (e : h.get? b = some o) : (b, o) ∈ zid fp h := List.mem_filterMap.mpr ⟨b, hb, by rw [e]; rfl⟩
theorem zqv {fp : List Addr} {h : Heap} {p : Addr × Obj} (hp : p ∈ zid fp h) : p.1 ∈ fp ∧ h.get? p.1 = some p.2 := by
 obtain ⟨b, hb, e⟩ := List.mem_filterMap.mp hp
 cases q : h.get? b with
 | none => rw [q] at e; cases e
 | some o =>
  rw [q] at e
  have e' : (b, o) = p := Option.some.inj e
  subst e'
  exact ⟨hb, q⟩
theorem Inv.pinned {pins : List (Addr × Obj)} {σ : St} {H : Hp} {s : Shared} {fp : List Addr} (I : Inv X pins σ H s) (hf : ∀ b ∈ fp, zi5 X pins H b) (ho : ∀ b ∈ fp, ∃ o, s.heap.get? b = some o ∧ ∀ v, o.data ≠ .cell v) : Inv X (pins ++ zid fp s.heap) σ H s :=
 I.pins_of fun p hp => (List.mem_append.mp hp).elim (fun z => I.pin p (List.mem_append_right _ z)) fun z => by
  obtain ⟨hb, e⟩ := zqv z
  obtain ⟨f0, f1, f2, _⟩ := hf p.1 hb
  obtain ⟨o, e', d⟩ := ho p.1 hb
  rw [e] at e'; cases e'
  exact ⟨e, f0, f1, f2, d⟩
theorem Inv.unpinned {pins pl : List (Addr × Obj)} {σ : St} {H : Hp} {s : Shared} (I : Inv X (pins ++ pl) σ H s) : Inv X pins σ H s := I.pins_of fun p hp => I.pin p (List.mem_append_right _ (List.mem_append_left _ hp))
theorem zch {iter : Expr} {body : List Stmt} {wi : TI} {g : TG} {tb : TS} {pos : Pos} (hp : PassesOwn (model X.prog X.w) X.A X.env X.xe) (hc : X.calm = true) (hi : PI X tg iter wi) (hg : PG X tg g) (hb : PSs X body tb)
  (hs : ∀ x, foldedSetIterable iter X.env x = pure x := by intro _; rfl) : PS X (.For tg iter body [] pos) (zys wi g tb) := by
 intro pins s σ H D I h
 refine wpAny_For (thn (hi pins s σ H _ I h) fun v s1 h1 => thn h1 fun al s2 h2 => ?_) hs
 obtain ⟨it, fp, tn, J, H2, e, I2, T, aj, f2, W, ⟨m0, w0⟩, af⟩ := h2
 subst e
 have ac : ∀ {H' : Hp}, (∀ b ∈ fp, H' b = none) → ∀ b ∈ fp, zi5 X pins H' b := fun hn b hb => ⟨hn b hb, (f2 b hb).2⟩
 refine codeAny_forLoop_any (fun n s' => ∃ i σ' H', Inv X pins σ' H' s' ∧ tn i s'.heap ∧ (∀ b ∈ fp, H' b = none) ∧ W i n σ' H') ?_ m0 ⟨0, σ, H2, I2, aj, fun b hb => (f2 b hb).1, w0⟩
 rintro n s3 ⟨i, σ3, H3, I3, ah, ag, w3⟩
 rcases af i n σ3 H3 w3 with ⟨ad, qn⟩ | ⟨go, N, hN, step⟩
 ·refine wpAny_passesOwn hp (thn (T.done X rfl rfl rfl hc i pins s3 σ3 H3 X.xe I3 (ac ag) ah ad) fun r s4 ⟨hr, I4⟩ => ?_)
  subst hr
  exact wpAny_execs_nil ⟨σ3, H3, I4, qn⟩
 ·refine wpAny_passesOwn hp (thn (T.item X rfl rfl rfl hc i pins s3 σ3 H3 X.xe I3 (ac ag) ah go) fun r s4 ⟨u, hr, h4⟩ => ?_)
  subst hr
  refine wpAny_passesOwn hp (thn h4 fun _ s5 ⟨x, H5, I5, r5, y5, ae, ak⟩ => ?_)
  have ai := I5.pinned (ac ak) (T.obj _ _ ae)
  refine wpAny_passesOwn hp (thn (hg _ s5 σ3 H5 x u _ ai r5 (step x H5 y5)) fun _ s6 ⟨σ6, H6, I6, q6⟩ => ?_)
  refine wpAny_passesOwn hp (thn (hb _ s6 σ6 H6 _ I6 q6) fun f s7 q7 => ?_)
  have aa : ∀ {σ7 : St} {H7 : Hp}, Inv X (pins ++ zid fp s5.heap) σ7 H7 s7 → N σ7 H7 → ∃ m, m < n ∧ ∃ i σ' H', Inv X pins σ' H' s7 ∧ tn i s7.heap ∧ (∀ b ∈ fp, H' b = none) ∧ W i m σ' H' := fun {σ7 H7} I7 n7 => by
   obtain ⟨m', hm, w7⟩ := hN σ7 H7 n7
   refine ⟨m', hm, i + 1, σ7, H7, I7.unpinned, T.keep _ _ _ ae fun b hb o e => (I7.pin (b, o) (List.mem_append_right _ (List.mem_append_right _ (ze8 hb e)))).1, fun b hb => ?_, w7⟩
   obtain ⟨o, e, d⟩ := T.obj _ _ ae b hb
   exact (I7.pin (b, o) (List.mem_append_right _ (List.mem_append_right _ (ze8 hb e)))).2.1
  cases f with
  | next => obtain ⟨σ7, H7, I7, n7⟩ := q7; exact aa I7 n7
  | cont => obtain ⟨σ7, H7, I7, n7⟩ := q7; exact aa I7 n7
  | brk => obtain ⟨σ7, H7, I7, q7⟩ := q7; exact ⟨σ7, H7, I7.unpinned, q7⟩
  | ret v => obtain ⟨x7, σ7, H7, I7, r7, q7⟩ := q7; exact ⟨x7, σ7, H7, I7.unpinned, r7, q7⟩
end
theorem zcx {K : PySem.W.Frag} {a : Addr} {xs : List V} {g : TG} {tb : TS} {D : zgt} {σ : St} {H : Hp} (Pv : Nat → St → Hp → Prop) (h0 : Pv 0 σ H) (hl : ∀ i σ H, i ≤ xs.length → Pv i σ H → SqL K H a xs)
  (hs : ∀ i x σ H, xs[i]? = some x → Pv i σ H → g x σ H fun σ2 H2 => tb { D with nx := Pv (i + 1), ct := Pv (i + 1), bk := D.nx } σ2 H2) (hd : ∀ σ H, Pv xs.length σ H → D.nx σ H) :
  ∃ W : Nat → Nat → St → Hp → Prop, (∃ m, W 0 m σ H) ∧ ∀ i m σ H, W i m σ H →
   ((Itl K a).stop i H ∧ D.nx σ H) ∨ ((Itl K a).go i H ∧ ∃ N : St → Hp → Prop, (∀ σ' H', N σ' H' → ∃ m', m' < m ∧ W (i + 1) m' σ' H') ∧ ∀ x H', (Itl K a).yld i H x H' → g x σ H' fun σ2 H2 => tb { D with nx := N, ct := N, bk := D.nx } σ2 H2) := by
 refine ⟨fun i m σ H => m = xs.length - i ∧ i ≤ xs.length ∧ Pv i σ H, ⟨xs.length, by simp, Nat.zero_le _, h0⟩, ?_⟩
 rintro i m σ H ⟨rfl, hi, p⟩
 have q := hl i σ H hi p
 by_cases aa : i < xs.length
 ·refine .inr ⟨⟨xs, xs[i], q, by simp [aa]⟩, Pv (i + 1), fun σ' H' p' => ⟨xs.length - (i + 1), by omega, rfl, aa, p'⟩, fun x H' y => ?_⟩
  obtain ⟨e, y⟩ := y
  subst e
  exact hs i x σ _ (y xs q) p
 ·have e : i = xs.length := by omega
  subst e
  exact .inl ⟨⟨xs, q, Nat.le_refl _⟩, hd σ H p⟩
theorem zl3 {lo : Int} {n : Nat} {g : TG} {tb : TS} {D : zgt} {σ : St} {H : Hp} (Pv : Nat → St → Hp → Prop) (h0 : Pv 0 σ H)
  (hs : ∀ i σ H, i < n → Pv i σ H → g (.int (lo + i)) σ H fun σ2 H2 => tb { D with nx := Pv (i + 1), ct := Pv (i + 1), bk := D.nx } σ2 H2) (hd : ∀ σ H, Pv n σ H → D.nx σ H) :
  ∃ W : Nat → Nat → St → Hp → Prop, (∃ m, W 0 m σ H) ∧ ∀ i m σ H, W i m σ H →
   ((Itr lo n).stop i H ∧ D.nx σ H) ∨ ((Itr lo n).go i H ∧ ∃ N : St → Hp → Prop, (∀ σ' H', N σ' H' → ∃ m', m' < m ∧ W (i + 1) m' σ' H') ∧ ∀ x H', (Itr lo n).yld i H x H' → g x σ H' fun σ2 H2 => tb { D with nx := N, ct := N, bk := D.nx } σ2 H2) := by
 refine ⟨fun i m σ H => m = n - i ∧ i ≤ n ∧ Pv i σ H, ⟨n, by simp, Nat.zero_le _, h0⟩, ?_⟩
 rintro i m σ H ⟨rfl, hi, p⟩
 by_cases aa : i < n
 ·refine .inr ⟨aa, Pv (i + 1), fun σ' H' p' => ⟨n - (i + 1), by omega, rfl, aa, p'⟩, fun x H' y => ?_⟩
  obtain ⟨e, y⟩ := y
  subst e y
  exact hs i σ _ aa p
 ·have e : i = n := by omega
  subst e
  exact .inl ⟨Nat.le_refl _, hd σ H p⟩
abbrev R2 := V → V → Hp → VK → Prop
def OpR (X : Cx) (f : Value → Value → Sem Value) (r : R2) : Prop :=
 ∀ (pins : List (Addr × Obj)) (s : Shared) (σ : St) (H : Hp) (x y : V) (v u : Value) (Q : VK), Inv X pins σ H s → RelV x v → RelV y u → r x y H Q →
  wpAny (model X.prog X.w) X.A (f v u) (EP X pins σ Q) X.xe s
def UnR (X : Cx) (f : Value → Sem Value) (r : V → Hp → VK → Prop) : Prop :=
 ∀ (pins : List (Addr × Obj)) (s : Shared) (σ : St) (H : Hp) (x : V) (v : Value) (Q : VK), Inv X pins σ H s → RelV x v → r x H Q →
  wpAny (model X.prog X.w) X.A (f v) (EP X pins σ Q) X.xe s
def zd8 (X : Cx) (f : Value) (r : List V → Hp → VK → Prop) : Prop :=
 ∀ (pins : List (Addr × Obj)) (s : Shared) (σ : St) (H : Hp) (xs : List V) (us : List Value) (Q : VK), Inv X pins σ H s → Vals xs us → r xs H Q →
  wpAny (model X.prog X.w) X.A (call f us) (EP X pins σ Q) X.xe s
def tOp (r : R2) (ta tb : TE) : TE := fun σ H Q => ta σ H fun x H1 => tb σ H1 fun y H2 => r x y H2 Q
def tUn (r : V → Hp → VK → Prop) (ta : TE) : TE := fun σ H Q => ta σ H fun x H1 => r x H1 Q
def rI (C : Int → Int → Prop) (g : Int → Int → V) : R2 := fun x y H Q => ∃ i j, x = .int i ∧ y = .int j ∧ C i j ∧ Q (g i j) H
def rI0 (g : Int → Int → V) : R2 := fun x y H Q => ∃ i j, x = .int i ∧ y = .int j ∧ Q (g i j) H
def rU (g : Int → V) : V → Hp → VK → Prop := fun x H Q => ∃ i, x = .int i ∧ Q (g i) H
section
variable {X : Cx} {a b c : Expr} {ta tb tc : TE} {pos : Pos}
theorem zxa (ha : PE X a ta) (hb : PE X b tb) {pins : List (Addr × Obj)} {s : Shared} {σ : St} {H : Hp} {R : V → V → Hp → Prop} (I : Inv X pins σ H s)
  (h : ta σ H fun x H1 => tb σ H1 fun y H2 => R x y H2) {Q : Value → Shared → Prop} {f : Value → Value → Sem Value}
  (hf : ∀ v u s2 x y H2, Inv X pins σ H2 s2 → RelV x v → RelV y u → R x y H2 → wpAny (model X.prog X.w) X.A (f v u) Q X.xe s2) :
  wpAny (model X.prog X.w) X.A (eval a X.env) (fun v s₁ => wpAny (model X.prog X.w) X.A (eval b X.env) (fun u s₂ => wpAny (model X.prog X.w) X.A (f v u) Q X.xe s₂) X.xe s₁) X.xe s := by
 refine thn (ha pins s σ H _ I h) fun v s1 ⟨x, H1, I1, r1, q1⟩ => ?_
 refine thn (hb pins s1 σ H1 _ I1 q1) fun u s2 ⟨y, H2, I2, r2, q2⟩ => ?_
 exact hf v u s2 x y H2 I2 r1 r2 q2
theorem zax {op : Operator} {r : R2} (ho : OpR X (binaryOp op) r) (ha : PE X a ta) (hb : PE X b tb) : PE X (.BinOp a op b pos) (tOp r ta tb) := by
 intro pins s σ H Q I h
 exact wpAny_BinOp (zxa ha hb I h fun v u s2 x y H2 I2 rx ry q => ho pins s2 σ H2 x y v u Q I2 rx ry q)
theorem znu {op : UnaryOp} {r : V → Hp → VK → Prop} (ho : UnR X (unaryOp op) r) (ha : PE X a ta) : PE X (.UnaryOp op a pos) (tUn r ta) := by
 intro pins s σ H Q I h
 exact UnaryOp_ (thn (ha pins s σ H _ I h) fun v s1 ⟨x, H1, I1, r1, q1⟩ => ho pins s1 σ H1 x v Q I1 r1 q1)
theorem opI {f : Value → Value → Sem Value} {C : Int → Int → Prop} {g : Int → Int → Int}
  (rule : ∀ (i j : Int) (t u : Tok) (s : Shared) (Q : Value → Shared → Prop) (E : Value → Shared → Prop), C i j → Q (.int (g i j) s.toks) { s with toks := s.toks + 1 } → wpAny (model X.prog X.w) X.A (f (.int i t) (.int j u)) Q E s) :
  OpR X f (rI C fun i j => .int (g i j)) := by
 intro pins s σ H x y v u Q I rx ry h
 obtain ⟨i, j, rfl, rfl, hc, q⟩ := h
 obtain ⟨t, rfl⟩ := rx
 obtain ⟨t', rfl⟩ := ry
 exact rule i j t t' s _ _ hc ⟨.int (g i j), H, I.tok _, ⟨_, rfl⟩, q⟩
theorem zuj {f : Value → Value → Sem Value} {g : Int → Int → Int}
  (rule : ∀ (i j : Int) (t u : Tok) (s : Shared) (Q : Value → Shared → Prop) (E : Value → Shared → Prop), Q (.int (g i j) s.toks) { s with toks := s.toks + 1 } → wpAny (model X.prog X.w) X.A (f (.int i t) (.int j u)) Q E s) :
  OpR X f (rI0 fun i j => .int (g i j)) := by
 intro pins s σ H x y v u Q I rx ry h
 obtain ⟨i, j, rfl, rfl, q⟩ := h
 obtain ⟨t, rfl⟩ := rx
 obtain ⟨t', rfl⟩ := ry
 exact rule i j t t' s _ _ ⟨.int (g i j), H, I.tok _, ⟨_, rfl⟩, q⟩
theorem zuh {f : Value → Value → Sem Value} {g : Int → Int → Bool}
  (rule : ∀ (i j : Int) (t u : Tok) (s : Shared) (Q : Value → Shared → Prop) (E : Value → Shared → Prop), Q (.bool (g i j)) s → wpAny (model X.prog X.w) X.A (f (.int i t) (.int j u)) Q E s) :
  OpR X f (rI0 fun i j => .bl (g i j)) := by
 intro pins s σ H x y v u Q I rx ry h
 obtain ⟨i, j, rfl, rfl, q⟩ := h
 obtain ⟨t, rfl⟩ := rx
 obtain ⟨t', rfl⟩ := ry
 exact rule i j t t' s _ _ ⟨.bl (g i j), H, I, rfl, q⟩
def zy0 (i j : Int) : Prop := 0 < j ∧ j < 1073741824
def zya (i j : Int) : Prop := 0 ≤ j ∧ j ≤ 1000000 ∧ i.natAbs < 2 ^ 64
def CMul (i j : Int) : Prop := (-(2 ^ 64) < i ∧ i < 2 ^ 64) ∨ (-(2 ^ 64) < j ∧ j < 2 ^ 64)
theorem CMul.ok {i j : Int} (h : CMul i j) : IntMulOk i j := by
 rcases h with ⟨h1, h2⟩ | ⟨h1, h2⟩
 ·exact .of_left (intBits_le_64 h1 h2)
 ·exact .of_right (intBits_le_64 h1 h2)
theorem two_pow_nn (k : Nat) : (0 : Int) ≤ 2 ^ k := by
 rw [two_pow_cast]
 exact Int.natCast_nonneg _
theorem zbx : OpR X (binaryOp .Add) (rI0 fun i j => .int (i + j)) := zuj fun _ _ _ _ _ _ _ q => add_int q
theorem zfz : OpR X (binaryOp .Sub) (rI0 fun i j => .int (i - j)) := zuj fun _ _ _ _ _ _ _ q => sub_int q
theorem zet : OpR X (binaryOp .Mult) (rI CMul fun i j => .int (i * j)) := opI fun _ _ _ _ _ _ _ hc q => mul_int q hc.ok
theorem zqo : OpR X (binaryOp .FloorDiv) (rI zy0 fun i j => .int (i / j)) := opI fun i j _ _ _ _ _ hc q => by
 have h1 : (0 : Int) < j := hc.1
 have h2 : j < 1073741824 := hc.2
 exact floordiv_int (by omega) (by rw [Int.fdiv_eq_ediv_of_nonneg i (by omega)]; exact q) (.inl (PyProof.noPylong_small (by omega)))
theorem zf8 : OpR X (binaryOp .Mod) (rI (fun _ j => 0 < j) fun i j => .int (i % j)) := opI fun i j _ _ _ _ _ hc q => by
 have h1 : (0 : Int) < j := hc
 exact mod_int' (by omega) (by rw [Int.fmod_eq_emod_of_nonneg i (by omega)]; exact q)
theorem zo1 : OpR X (binaryOp .Pow) (rI zya fun i j => .int (i ^ j.toNat)) := opI fun _ _ _ _ _ _ _ hc q => pow_int_small hc.1 hc.2.1 hc.2.2 q
theorem zih : OpR X (binaryOp .LShift) (rI zya fun i j => .int (i * 2 ^ j.toNat)) := opI fun _ _ _ _ _ _ _ hc q => lshift_int_small hc.1 hc.2.1 hc.2.2 q
theorem zf0 : OpR X (binaryOp .RShift) (rI (fun _ j => 0 ≤ j) fun i j => .int (i / 2 ^ j.toNat)) := opI fun i j _ _ _ _ _ hc q =>
 rshift_int hc (by rw [Int.fdiv_eq_ediv_of_nonneg i (two_pow_nn _)]; exact q)
theorem zd3 : OpR X (binaryOp .BitAnd) (rI0 fun i j => .int (Builtin.bitAnd i j)) := zuj fun _ _ _ _ _ _ _ q => and_int q
theorem zno : OpR X (binaryOp .BitOr) (rI0 fun i j => .int (Builtin.bitOr i j)) := zuj fun _ _ _ _ _ _ _ q => or_int q
theorem unI {f : Value → Sem Value} {g : Int → Int}
  (rule : ∀ (i : Int) (t : Tok) (s : Shared) (Q : Value → Shared → Prop) (E : Value → Shared → Prop), Q (.int (g i) s.toks) { s with toks := s.toks + 1 } → wpAny (model X.prog X.w) X.A (f (.int i t)) Q E s) :
  UnR X f (rU fun i => .int (g i)) := by
 intro pins s σ H x v Q I rx h
 obtain ⟨i, rfl, q⟩ := h
 obtain ⟨t, rfl⟩ := rx
 exact rule i t s _ _ ⟨.int (g i), H, I.tok _, ⟨_, rfl⟩, q⟩
theorem zkn : UnR X (unaryOp .USub) (rU fun i => .int (-i)) := unI fun _ _ _ _ _ q => neg_int q
end
def zyd : V → V → Bool
 | .non, .non => true | .non, .int _ => true | .int _, .non => true | .non, .bl _ => true | .bl _, .non => true | .non, .str _ => true | .str _, .non => true
 | .int _, .int _ => true | .bl _, .bl _ => true | .str _, .str _ => true | .byt _, .byt _ => true
 | .int _, .str _ => true | .str _, .int _ => true | .bl _, .str _ => true | .str _, .bl _ => true
 | _, _ => false
def rEq : R2 := fun x y H Q => zyd x y = true ∧ Q (.bl (decide (x = y))) H
def rNe : R2 := fun x y H Q => zyd x y = true ∧ Q (.bl (!decide (x = y))) H
theorem zjg {i j : Int} : decide (V.int i = V.int j) = (i == j) := by
 rw [Bool.eq_iff_iff]
 simp
theorem zr9 {i j : Bool} : decide (V.bl i = V.bl j) = (i == j) := by
 rw [Bool.eq_iff_iff]
 simp
theorem zp1 {i j : Str} : decide (V.str i = V.str j) = (i == j) := by
 rw [Bool.eq_iff_iff]
 simp
theorem zqq {i j : Array UInt8} : decide (V.byt i = V.byt j) = (i.toList == j.toList) := by
 rw [Bool.eq_iff_iff]
 cases i
 cases j
 simp
section
variable {X : Cx} {a b c : Expr} {ta tb tc : TE} {pos : Pos}
theorem zba {pins : List (Addr × Obj)} {σ : St} {H : Hp} {s : Shared} {Q : VK} {k k' : Bool} (I : Inv X pins σ H s) (q : Q (.bl k) H) (e : k = k') : EP X pins σ Q (.bool k') s := by
 subst e
 exact ⟨.bl k, H, I, rfl, q⟩
theorem zbq : OpR X (compareOp .Eq) rEq := by
 intro pins s σ H x y v u Q I rx ry h
 obtain ⟨hs, q⟩ := h
 cases x with
 | non =>
  cases rx
  cases y with
  | non => cases ry; exact PySem.EqNone.eq_none_none (zba I q (by simp))
  | bl j => cases ry; exact PySem.EqNone.eq_none_bool (zba I q (by simp))
  | int j => obtain ⟨t', rfl⟩ := ry; exact PySem.EqNone.eq_none_int (zba I q (by simp))
  | str j => obtain ⟨t', rfl⟩ := ry; exact PySem.EqNone.eq_none_str (zba I q (by simp))
  | _ => exact absurd (show false = true from hs) Bool.false_ne_true
 | bl i =>
  cases rx
  cases y with
  | non => cases ry; exact PySem.EqNone.eq_bool_none (zba I q (by simp))
  | bl j => cases ry; exact eq_bool (zba I q zr9)
  | str j => obtain ⟨t', rfl⟩ := ry; exact PySem.EqMixed.eq_bool_str (zba I q (by simp))
  | _ => exact absurd (show false = true from hs) Bool.false_ne_true
 | int i =>
  obtain ⟨t, rfl⟩ := rx
  cases y with
  | non => cases ry; exact PySem.EqNone.eq_int_none (zba I q (by simp))
  | int j => obtain ⟨t', rfl⟩ := ry; exact eq_int (zba I q zjg)
  | str j => obtain ⟨t', rfl⟩ := ry; exact PySem.EqMixed.eq_int_str (zba I q (by simp))
  | _ => exact absurd (show false = true from hs) Bool.false_ne_true
 | str i =>
  obtain ⟨t, rfl⟩ := rx
  cases y with
  | non => cases ry; exact PySem.EqNone.eq_str_none (zba I q (by simp))
  | bl j => cases ry; exact PySem.EqMixed.eq_str_bool (zba I q (by simp))
  | int j => obtain ⟨t', rfl⟩ := ry; exact PySem.EqMixed.eq_str_int (zba I q (by simp))
  | str j => obtain ⟨t', rfl⟩ := ry; exact eq_str (zba I q zp1)
  | _ => exact absurd (show false = true from hs) Bool.false_ne_true
 | byt i =>
  obtain ⟨t, rfl⟩ := rx
  cases y with
  | byt j => obtain ⟨t', rfl⟩ := ry; exact PySem.W.eq_bytes (zba I q zqq)
  | _ => exact absurd (show false = true from hs) Bool.false_ne_true
 | _ => cases y <;> exact absurd (show false = true from hs) Bool.false_ne_true
theorem zgz : OpR X (compareOp .NotEq) rNe := by
 intro pins s σ H x y v u Q I rx ry h
 obtain ⟨hs, q⟩ := h
 cases x with
 | non =>
  cases rx
  cases y with
  | non => cases ry; exact PySem.EqNone.ne_none_none (zba I q (by simp))
  | bl j => cases ry; exact PySem.EqNone.ne_none_bool (zba I q (by simp))
  | int j => obtain ⟨t', rfl⟩ := ry; exact PySem.EqNone.ne_none_int (zba I q (by simp))
  | str j => obtain ⟨t', rfl⟩ := ry; exact PySem.EqNone.ne_none_str (zba I q (by simp))
  | _ => exact absurd (show false = true from hs) Bool.false_ne_true
 | bl i =>
  cases rx
  cases y with
  | non => cases ry; exact PySem.EqNone.ne_bool_none (zba I q (by simp))
  | bl j => cases ry; exact ne_bool (zba I q (congrArg not zr9))
  | str j => obtain ⟨t', rfl⟩ := ry; exact PySem.EqMixed.ne_bool_str (zba I q (by simp))
  | _ => exact absurd (show false = true from hs) Bool.false_ne_true
 | int i =>
  obtain ⟨t, rfl⟩ := rx
  cases y with
  | non => cases ry; exact PySem.EqNone.ne_int_none (zba I q (by simp))
  | int j => obtain ⟨t', rfl⟩ := ry; exact ne_int (zba I q (congrArg not zjg))
  | str j => obtain ⟨t', rfl⟩ := ry; exact PySem.EqMixed.ne_int_str (zba I q (by simp))
  | _ => exact absurd (show false = true from hs) Bool.false_ne_true
 | str i =>
  obtain ⟨t, rfl⟩ := rx
  cases y with
  | non => cases ry; exact PySem.EqNone.ne_str_none (zba I q (by simp))
  | bl j => cases ry; exact PySem.EqMixed.ne_str_bool (zba I q (by simp))
  | int j => obtain ⟨t', rfl⟩ := ry; exact PySem.EqMixed.ne_str_int (zba I q (by simp))
  | str j => obtain ⟨t', rfl⟩ := ry; exact ne_str (zba I q (congrArg not zp1))
  | _ => exact absurd (show false = true from hs) Bool.false_ne_true
 | byt i =>
  obtain ⟨t, rfl⟩ := rx
  cases y with
  | byt j => obtain ⟨t', rfl⟩ := ry; exact PySem.W.ne_bytes (zba I q (congrArg not zqq))
  | _ => exact absurd (show false = true from hs) Bool.false_ne_true
 | _ => cases y <;> exact absurd (show false = true from hs) Bool.false_ne_true
theorem zki : OpR X (compareOp .Lt) (rI0 fun i j => .bl (decide (i < j))) := zuh fun _ _ _ _ _ _ _ q => lt_int q
theorem zl9 : OpR X (compareOp .LtE) (rI0 fun i j => .bl (decide (i ≤ j))) := zuh fun _ _ _ _ _ _ _ q => le_int q
theorem ziq : OpR X (compareOp .Gt) (rI0 fun i j => .bl (decide (j < i))) := zuh fun _ _ _ _ _ _ _ q => gt_int q
theorem zye : OpR X (compareOp .GtE) (rI0 fun i j => .bl (decide (j ≤ i))) := zuh fun _ _ _ _ _ _ _ q => ge_int q
theorem znb : OpR X (compareOp .Is) (fun x y H Q => y = .non ∧ Q (.bl (decide (x = .non))) H) := by
 intro pins s σ H x y v u Q I rx ry h
 obtain ⟨rfl, q⟩ := h
 cases ry
 refine is_none_gen (zba I q ?_)
 cases x <;> first
  | (cases rx; rfl)
  | (obtain ⟨t, rfl⟩ := rx; rfl)
theorem zh4 : OpR X (compareOp .IsNot) (fun x y H Q => y = .non ∧ Q (.bl (!decide (x = .non))) H) := by
 intro pins s σ H x y v u Q I rx ry h
 obtain ⟨rfl, q⟩ := h
 cases ry
 refine isnot_none_gen (zba I q ?_)
 cases x <;> first
  | (cases rx; rfl)
  | (obtain ⟨t, rfl⟩ := rx; rfl)
theorem zaq (b : Expr) {op : CmpOp} (h : op ≠ .In := by decide) (h2 : op ≠ .NotIn := by decide) : behindInMarks op b = false := by
 have e1 : (op == CmpOp.In) = false := by cases op <;> first | rfl | exact absurd rfl h
 have e2 : (op == CmpOp.NotIn) = false := by cases op <;> first | rfl | exact absurd rfl h2
 cases b <;> simp [behindInMarks, e1, e2]
theorem zbc {op : CmpOp} {r : R2} (ho : OpR X (compareOp op) r) (ha : PE X a ta) (hb : PE X b tb) (hm : behindInMarks op b = false) : PE X (.Compare a [op] [b] pos) (tOp r ta tb) := by
 intro pins s σ H Q I h
 exact wpAny_Compare1 (zxa ha hb I h fun v u s2 x y H2 I2 rx ry q => ho pins s2 σ H2 x y v u Q I2 rx ry q) hm
def zv4 (t : TE) : TT := fun σ H Q => t σ H fun x H' => ∃ k, x = .bl k ∧ Q k H'
theorem zan {op : CmpOp} {r : R2} (ho : OpR X (compareOp op) r) (ha : PE X a ta) (hb : PE X b tb) (hm : behindInMarks op b = false) : PT X (.Compare a [op] [b] pos) (zv4 (tOp r ta tb)) := by
 intro pins s σ H Q I h
 refine wpAny_isTrue_Compare1 (thn (ha pins s σ H _ I h) fun v s1 ⟨x, H1, I1, r1, q1⟩ => thn (hb pins s1 σ H1 _ I1 q1) fun u s2 ⟨y, H2, I2, r2, q2⟩ =>
  thn (ho pins s2 σ H2 x y v u _ I2 r1 r2 q2) fun c s3 ⟨z, H3, I3, r3, k, e, q3⟩ => ?_) hm
 subst e
 cases r3
 exact wpAny_truthy_bool ⟨H3, I3, q3⟩
def zsp (r r' : R2) (ta tb tc : TE) : TE := fun σ H Q => ta σ H fun x H1 => tb σ H1 fun y H2 => r x y H2 fun z H3 => ∃ k, z = .bl k ∧
 (if k = true then tc σ H3 fun w' H4 => r' y w' H4 Q else Q (.bl false) H3)
theorem zsl {op op' : CmpOp} {r r' : R2} (ho : OpR X (compareOp op) r) (ho' : OpR X (compareOp op') r') (ha : PE X a ta) (hb : PE X b tb) (hc : PE X c tc)
  (hm : lastMarks [op, op'] [b, c] = false := by with_unfolding_all rfl) : PE X (.Compare a [op, op'] [b, c] pos) (zsp r r' ta tb tc) := by
 intro pins s σ H Q I h
 refine Compare_chain (thn (ha pins s σ H _ I h) fun v s1 ⟨x, H1, I1, r1, q1⟩ => chain_link (thn (hb pins s1 σ H1 _ I1 q1) fun u s2 ⟨y, H2, I2, r2, q2⟩ =>
  thn (ho pins s2 σ H2 x y v u _ I2 r1 r2 q2) fun d s3 ⟨z, H3, I3, r3, k, e, q3⟩ => ?_)) hm
 subst e
 cases r3
 refine wpAny_truthy_bool ?_
 cases k with
 | false => exact ite_ff ⟨.bl false, H3, I3, rfl, q3⟩
 | true => exact ite_tt (chain_last (thn (hc pins s3 σ H3 _ I3 q3) fun w' s4 ⟨z', H4, I4, r4, q4⟩ => ho' pins s4 σ H4 y z' u w' Q I4 r2 r4 q4))
theorem zth {op op' : CmpOp} {r r' : R2} (ho : OpR X (compareOp op) r) (ho' : OpR X (compareOp op') r') (ha : PE X a ta) (hb : PE X b tb) (hc : PE X c tc)
  (hm : lastMarks [op, op'] [b, c] = false := by with_unfolding_all rfl) : PT X (.Compare a [op, op'] [b, c] pos) (zv4 (zsp r r' ta tb tc)) := by
 intro pins s σ H Q I h
 refine isTrue_chain (thn (ha pins s σ H _ I h) fun v s1 ⟨x, H1, I1, r1, q1⟩ => test_link (thn (hb pins s1 σ H1 _ I1 q1) fun u s2 ⟨y, H2, I2, r2, q2⟩ =>
  thn (ho pins s2 σ H2 x y v u _ I2 r1 r2 q2) fun d s3 ⟨z, H3, I3, r3, k, e, q3⟩ => ?_)) hm
 subst e
 cases r3
 refine wpAny_truthy_bool ?_
 cases k with
 | false =>
  obtain ⟨k', e', q'⟩ := q3
  cases e'
  exact ite_ff ⟨H3, I3, q'⟩
 | true =>
  refine ite_tt (test_last (thn (hc pins s3 σ H3 _ I3 q3) fun w' s4 ⟨z', H4, I4, r4, q4⟩ => thn (ho' pins s4 σ H4 y z' u w' _ I4 r2 r4 q4) fun d' s5 ⟨z2, H5, I5, r5, k2, e2, q5⟩ => ?_))
  subst e2
  cases r5
  exact wpAny_truthy_bool ⟨H5, I5, q5⟩
theorem zkg : (sizeLine : Nat) < 2 ^ 63 := by rw [sizeLine_eq]; decide
theorem zgw {x : V} {us : List Value} (r : Vals [x] us) : ∃ u, us = [u] ∧ RelV x u := by
 cases r with
 | cons r1 r2 => cases r2; exact ⟨_, rfl, r1⟩
theorem zs1 {x y : V} {us : List Value} (r : Vals [x, y] us) : ∃ u w', us = [u, w'] ∧ RelV x u ∧ RelV y w' := by
 cases r with
 | cons r1 r2 =>
  cases r2 with
  | cons r3 r4 => cases r4; exact ⟨_, _, rfl, r1, r3⟩
theorem zia (hc : X.calm = true) : zd8 X (.builtin "max") (fun xs H Q => ∃ i j, xs = [.int i, .int j] ∧ Q (.int (if j > i then j else i)) H) := by
 intro pins s σ H xs us Q I r h
 obtain ⟨i, j, rfl, q⟩ := h
 obtain ⟨u, w', rfl, ⟨t, rfl⟩, ⟨t', rfl⟩⟩ := zs1 r
 refine max_two_ints (I.ok.hd hc) fun h' tk k => ⟨_, H, I.kept k, ?_, q⟩
 by_cases hj : j > i
 ·rw [if_pos hj, if_pos hj]; exact ⟨_, rfl⟩
 ·rw [if_neg hj, if_neg hj]; exact ⟨_, rfl⟩
theorem zlv : zd8 X (.type "int") (fun xs H Q => (∃ i, xs = [.int i] ∧ Q (.int i) H) ∨ ∃ k, xs = [.bl k] ∧ Q (.int (if k then 1 else 0)) H) := by
 intro pins s σ H xs us Q I r h
 rcases h with ⟨i, rfl, q⟩ | ⟨k, rfl, q⟩
 ·obtain ⟨u, rfl, t, rfl⟩ := zgw r
  exact call_int_int ⟨.int i, H, I, ⟨_, rfl⟩, q⟩
 ·obtain ⟨u, rfl, r1⟩ := zgw r
  cases r1
  exact call_int_bool ⟨.int (if k then 1 else 0), H, I.tok _, ⟨_, rfl⟩, q⟩
end
structure ObjM (h : Heap) (x dx C : Addr) (mA : Str → Option Value) : Prop where
 obj : h.get? x = some (PySem.W.instObj C dx)
 ns : h.Ns1 dx mA
 ne : dx ≠ x
theorem zrs {h : Heap} {dx : Addr} {mA : Str → Option Value} (n : h.Ns1 dx mA) : ∃ od, h.get? dx = some od ∧ ∀ name, PySem.W.lookIn name od = some (mA name) := by
 obtain ⟨o, es, ep, ho, hd, hk, _, hm⟩ := n
 refine ⟨o, ho, fun name => ?_⟩
 have e := hm name
 unfold nsFind findBy at e
 rw [← Array.find?_toList] at e
 unfold PySem.W.lookIn
 rw [hd]
 dsimp only
 split
 ·rename_i y q
  rw [q] at e
  exact congrArg some e
 ·rename_i q
  rw [q] at e
  have a : es.toList.any (·.refKey) = false := by
   rw [List.any_eq_false]
   intro y hy
   obtain ⟨z, t, aa⟩ := hk y (Array.mem_toList_iff.mp hy)
   simp [DictEntry.refKey, aa]
  have a' : ¬ es.toList.any (·.refKey) = true := by rw [a]; exact Bool.false_ne_true
  rw [if_neg a']
  exact congrArg some e
theorem ObjM.look {h : Heap} {x dx C : Addr} {mA : Str → Option Value} (I : ObjM h x dx C mA) : ∃ od, PySem.W.InstAt h x (PySem.W.instObj C dx) C (some od) ∧ ∀ name, PySem.W.lookIn name od = some (mA name) :=
 let ⟨od, ho, hl⟩ := zrs I.ns
 ⟨od, ⟨I.obj, rfl, rfl, ho⟩, hl⟩
section
variable {prog : Program} {w : World} {A : Around} {E : Value → Shared → Prop} {s : Shared} {K : PySem.W.Frag} {x dx C f : Addr} {mA : Str → Option Value} {name : Str} {v : Value}
theorem zu3 {expr : Bool} {Q : Value → Shared → Prop} (X : K.In s.heap) (I : ObjM s.heap x dx C mA) (hg : PySem.W.plainGet K C name = true) (hh : PySem.W.hasDictIn K C = true)
  (ha : PySem.W.findIn K (.ref C) name = some none) (hv : mA name = some v) (hv' : PySem.W.handedIn v = true) (h : Q v { s with toks := s.toks + 1 }) :
  wpAny (model prog w) A (getAttr (.ref x) name expr) Q E s := by
 obtain ⟨od, J, hl⟩ := I.look
 exact PySem.W.get_value X J (PySem.W.plainGet_of hg).1 (PySem.W.findObj_own hh ha rfl (by rw [hl, hv])) hv' h
theorem zty {pl : Sem Bool} {Q : Value × List Value → Shared → Prop} (X : K.In s.heap) (I : ObjM s.heap x dx C mA) (hg : PySem.W.plainGet K C name = true)
  (hf : PySem.W.findIn K (.ref C) name = some (some (.ref f))) (ht : PySem.W.isFn K (.ref f) = true) (hv : mA name = none) (h : Q (.ref f, [.ref x]) s) :
  wpAny (model prog w) A (getMethod (.ref x) name pl) Q E s := by
 obtain ⟨od, J, hl⟩ := I.look
 exact PySem.W.method_fn X J (PySem.W.plainGet_of hg).1 (PySem.W.plainGet_of hg).2 hf (beq_iff_eq.mp ht) (by show (PySem.W.lookIn name od).map (·.isSome) = some false; rw [hl, hv]; rfl) h
theorem zvr {ns : List Str} {Q : Unit → Shared → Prop} (X : K.In s.heap) (I : ObjM s.heap x dx C mA)
  (hs : PySem.W.findIn K (.ref C) "__setattr__" = some (some (.builtin "object.__setattr__"))) (hp : PySem.W.plainOver K C = true) (ht : PySem.W.takerIn K C name = some none) (hh : PySem.W.hasDictIn K C = true)
  (hw : PySem.Within mA ns) (hsz : ns.length ≤ sizeLine)
  (h : ∀ h', ObjM h' x dx C (fun y => if y = name then some v else mA y) → Heap.SameBut dx s.heap h' → Q () { s with heap := h', toks := s.toks + 2 }) :
  wpAny (model prog w) A (setAttr (.ref x) name v) Q E s := by
 obtain ⟨od, J, hl⟩ := I.look
 refine PySem.W.set_plain X J hs (PySem.W.osa_open (s := { s with toks := s.toks + 1 }) (r := none) X J hp ht fun b => ?_)
 obtain ⟨cd, hc, ad⟩ := PySem.W.any_some hh
 have hx : s.heap.get? x = some ⟨.ref C, some dx, .plain, #[]⟩ := I.obj
 refine wpAny_bind (wpAny_pure (wpAny_bind (wpAny_bind (wpAny_loadPart hx (wpAny_bind (PySem.W.Looks.here (s := { s with toks := s.toks + 1 }) (PySem.W.looks_clsIn X hc) ?_))))))
 rw [ad]
 refine wpAny_pure (a := some dx) (wpAny_bind (wpAny_pure (wpAny_bind ?_)))
 refine wpAny_nsSet1 (s := { s with toks := s.toks + 1 }) I.ns fun h' ac aa => ?_
 obtain ⟨oD, ah, ai, ae, ag, af⟩ := ac.count (PySem.Within.cons name v hw)
 refine wpAny_bind (wpAny_lookBehind ae (by rw [ag]; exact pastItsLine_dict (Nat.le_trans af (by rw [List.length_cons]; omega))) ?_)
 exact wpAny_pure (h _ ⟨(aa.2 _ (Ne.symm I.ne)).trans I.obj, ac, I.ne⟩ aa)
theorem zs7 {R : Result → Shared → Prop} {vs : List Value} {kw : List (Str × Value)} (X : K.In s.heap) (hm : PySem.W.makesIn K C = true)
  (hi : PySem.W.findIn K (.ref C) "__init__" = some (some (.ref f))) (hf : PySem.W.typeIn K (.ref f) = some (.type "function"))
  (h : codeAny (model prog w) (A.under (.builtin "type.__call__" ⟨.ref C :: vs, kw⟩)) (.call (.ref f) ⟨.ref (s.heap.objs.size + 1) :: vs, kw⟩) (PySem.W.InitBack (s.heap.objs.size + 1) R)
   { s with heap := (s.heap.push PySem.W.emptyDict).push (PySem.W.instObj C s.heap.objs.size) }) :
  codeAny (model prog w) A (.call (.ref C) ⟨vs, kw⟩) R s := by
 obtain ⟨hh, g, d, t, os⟩ := s
 exact PySem.W.make_core (PySem.W.makes_of X hm) (PySem.W.looks_findIn X hi) (fun aa => PySem.W.bind_fn X aa hf) (.inl rfl) h
end
def zgs (f : Str) (v : V) : List (Str × V) → List (Str × V)
 | [] => [(f, v)]
 | (g, x) :: r => if g = f then (g, v) :: r else (g, x) :: zgs f v r
theorem zi2 (f g : Str) (v : V) : ∀ fs : List (Str × V), (zgs f v fs).lookup g = if g = f then some v else fs.lookup g
 | [] => by
  show List.lookup g [(f, v)] = _
  by_cases h : g = f
  ·have hb : (g == f) = true := beq_iff_eq.mpr h
   simp only [List.lookup, hb, if_pos h]
  ·have hb : (g == f) = false := beq_eq_false_iff_ne.mpr h
   simp only [List.lookup, hb, if_neg h]
 | (k, x) :: r => by
  have ih := zi2 f g v r
  rw [show zgs f v ((k, x) :: r) = (if k = f then (k, v) :: r else (k, x) :: zgs f v r) from rfl]
  by_cases hk : k = f
  ·rw [if_pos hk]
   by_cases h : g = k
   ·have hb : (g == k) = true := beq_iff_eq.mpr h
    simp only [List.lookup, hb, if_pos (h.trans hk)]
   ·have hb : (g == k) = false := beq_eq_false_iff_ne.mpr h
    simp only [List.lookup, hb, if_neg (fun e : g = f => h (e.trans hk.symm))]
  ·rw [if_neg hk]
   by_cases h : g = k
   ·have hb : (g == k) = true := beq_iff_eq.mpr h
    simp only [List.lookup, hb, if_neg (fun e : g = f => hk (h.symm.trans e))]
   ·have hb : (g == k) = false := beq_eq_false_iff_ne.mpr h
    simp only [List.lookup, hb]
    exact ih
theorem zio (f : Str) (v : V) : ∀ fs : List (Str × V), f ∈ (zgs f v fs).map (·.1) ∧ ∀ g, g ∈ fs.map (·.1) → g ∈ (zgs f v fs).map (·.1)
 | [] => ⟨by simp [zgs], fun g h => by simp at h⟩
 | (k, x) :: r => by
  obtain ⟨i1, i2⟩ := zio f v r
  rw [show zgs f v ((k, x) :: r) = (if k = f then (k, v) :: r else (k, x) :: zgs f v r) from rfl]
  by_cases hk : k = f
  ·rw [if_pos hk]
   subst hk
   exact ⟨by simp, fun g h => by simpa using h⟩
  ·rw [if_neg hk]
   refine ⟨?_, fun g h => ?_⟩
   ·rw [List.map_cons]
    exact List.mem_cons_of_mem _ i1
   ·rw [List.map_cons] at h ⊢
    rcases List.mem_cons.mp h with e | e
    ·exact List.mem_cons.mpr (.inl e)
    ·exact List.mem_cons_of_mem _ (i2 g e)
theorem zir (f : Str) (v : V) : ∀ fs : List (Str × V), (zgs f v fs).length ≤ fs.length + 1
 | [] => by simp [zgs]
 | (k, x) :: r => by
  have ih := zir f v r
  rw [show zgs f v ((k, x) :: r) = (if k = f then (k, v) :: r else (k, x) :: zgs f v r) from rfl]
  by_cases hk : k = f
  ·rw [if_pos hk, List.length_cons, List.length_cons]; omega
  ·rw [if_neg hk, List.length_cons, List.length_cons]; omega
theorem RelO.some_of {v : V} {o : Option Value} (r : RelO (some v) o) : ∃ u, o = some u ∧ RelV v u := by
 cases o with
 | none => exact (show False from r).elim
 | some u => exact ⟨u, rfl, r⟩
theorem RelO.none_of {o : Option Value} (r : RelO none o) : o = none := by
 cases o with
 | none => rfl
 | some u => exact (show False from r).elim
theorem zrt {v : V} {u : Value} (r : RelV v u) : PySem.W.handedIn u = true := by
 cases v with
 | non => cases (show u = Value.none from r); rfl
 | bl b => cases (show u = Value.bool b from r); rfl
 | int i => obtain ⟨t, e⟩ := (show ∃ t, u = Value.int i t from r); cases e; rfl
 | str x => obtain ⟨t, e⟩ := (show ∃ t, u = Value.str x t from r); cases e; rfl
 | byt b => obtain ⟨t, e⟩ := (show ∃ t, u = Value.bytes b t from r); cases e; rfl
 | flt b => obtain ⟨t, e⟩ := (show ∃ t, u = Value.float b t from r); cases e; rfl
 | ref a => cases (show u = Value.ref a from r); rfl
 | ty n => cases (show u = Value.type n from r); rfl
section
variable {P : Program} {w : World} {H H' : Hp} {h h' : Heap} {a C dx : Addr} {fs fs' : List (Str × V)}
theorem zjf (hok : HOk P w H h) (e : H a = some (.ins C dx fs)) : ∃ mA, ObjM h a dx C mA ∧ (∀ f, RelO (fs.lookup f) (mA f)) ∧ PySem.Within mA (fs.map (·.1)) ∧ fs.length ≤ 1000 ∧ H dx = some (.own a) := by
 obtain ⟨d, z, ne, ob, mA, n, r, q⟩ := (show ObjOk P w H h a (.ins C dx fs) from hok a _ e)
 exact ⟨mA, ⟨ob, n, ne⟩, r, q, z, d⟩
end
structure Cls (K : PySem.W.Frag) (C : Addr) : Prop where
 pg : PySem.W.plainGet K C Str.empty = true
 hd : PySem.W.hasDictIn K C = true
 po : PySem.W.plainOver K C = true
 sa : PySem.W.findIn K (.ref C) "__setattr__" = some (some (.builtin "object.__setattr__"))
theorem Cls.get {K : PySem.W.Frag} {C : Addr} (c : Cls K C) (f : Str) : PySem.W.plainGet K C f = true := c.pg
def NoAttr (K : PySem.W.Frag) (C : Addr) (f : Str) : Prop := PySem.W.findIn K (.ref C) f = some none
theorem NoAttr.taker {K : PySem.W.Frag} {C : Addr} {f : Str} (n : NoAttr K C f) : PySem.W.takerIn K C f = some none := by
 unfold PySem.W.takerIn
 rw [show PySem.W.findIn K (.ref C) f = some none from n]
 rfl
structure zoj (K : PySem.W.Frag) (C : Addr) (m : Str) (f : Addr) : Prop where
 at_ : PySem.W.findIn K (.ref C) m = some (some (.ref f))
 fn : PySem.W.isFn K (.ref f) = true
 kp : PySem.W.keepIn K (.ref f) = true
section
variable {X : Cx} {pins : List (Addr × Obj)} {σ : St} {H : Hp} {s : Shared} {a C dx : Addr} {fs : List (Str × V)} {f : Str} {v : V} {A : Around} {E : Value → Shared → Prop}
theorem zpk {b : Bool} {Q : Value → Shared → Prop} (I : Inv X pins σ H s) (e : H a = some (.ins C dx fs)) (c : Cls X.K C) (n : NoAttr X.K C f) (l : fs.lookup f = some v)
  (h : ∀ u s', Inv X pins σ H s' → RelV v u → Q u s') : wpAny (model X.prog X.w) A (getAttr (.ref a) f b) Q E s := by
 obtain ⟨mA, O, r, _, _, _⟩ := zjf I.hok e
 obtain ⟨u, hu, ru⟩ := RelO.some_of (v := v) (o := mA f) (by rw [← l]; exact r f)
 exact zu3 I.kIn O (c.get f) c.hd n hu (zrt ru) (h u _ (I.tok _) ru)
theorem zkw {m : Str} {g : Addr} {pl : Sem Bool} {Q : Value × List Value → Shared → Prop} (I : Inv X pins σ H s) (e : H a = some (.ins C dx fs)) (c : Cls X.K C) (k : zoj X.K C m g) (l : fs.lookup m = none)
  (h : Q (.ref g, [.ref a]) s) : wpAny (model X.prog X.w) A (getMethod (.ref a) m pl) Q E s := by
 obtain ⟨mA, O, r, _, _, _⟩ := zjf I.hok e
 have hn : mA m = none := RelO.none_of (by rw [← l]; exact r m)
 exact zty I.kIn O (c.get m) k.at_ k.fn hn h
theorem zpg {y : V} {u : Value} {Q : Unit → Shared → Prop} (I : Inv X pins σ H s) (e : H a = some (.ins C dx fs)) (c : Cls X.K C) (n : NoAttr X.K C f) (hl : fs.length < 1000) (ry : RelV y u)
  (h : ∀ s', Inv X pins σ (upd H a (.ins C dx (zgs f y fs))) s' → Q () s') : wpAny (model X.prog X.w) A (setAttr (.ref a) f u) Q E s := by
 obtain ⟨mA, O, r, wi, _, ho⟩ := zjf I.hok e
 have hz : (fs.map (·.1)).length ≤ sizeLine := by rw [List.length_map, sizeLine_eq]; omega
 refine zvr I.kIn O c.sa c.po n.taker c.hd wi hz fun h' O' sb => h _ ?_
 have hd : ∃ o, h'.get? dx = some o := let ⟨o, _, _, e', _⟩ := O'.ns; ⟨o, e'⟩
 refine I.write (x := a) (e := dx) (by rw [e]; exact True.intro) (.inr ho) (fun b q hb z => (sb.2 b hb).trans z) hd ?_
 refine ⟨by rw [zak O.ne]; exact ho, ?_, O.ne, O'.obj, _, O'.ns, fun g => ?_, fun g hg => ?_⟩
 ·have := zir f y fs; omega
 ·show RelO ((zgs f y fs).lookup g) (if g = f then some u else mA g)
  rw [zi2]
  by_cases q : g = f
  ·rw [if_pos q, if_pos q]; exact ry
  ·rw [if_neg q, if_neg q]; exact r g
 ·by_cases q : g = f
  ·rw [q]; exact (zio f y fs).1
  ·refine (zio f y fs).2 g (wi g fun z => hg ?_)
   show (if g = f then some u else mA g) = none
   rw [if_neg q]; exact z
theorem Inv.made (I : Inv X pins σ H s) : Inv X pins σ (upd (upd H s.heap.objs.size (.own (s.heap.objs.size + 1))) (s.heap.objs.size + 1) (.ins C s.heap.objs.size []))
  { s with heap := (s.heap.push PySem.W.emptyDict).push (PySem.W.instObj C s.heap.objs.size) } := by
 have e1 : (s.heap.push PySem.W.emptyDict).get? s.heap.objs.size = some PySem.W.emptyDict := Heap.get?_push_size s.heap rfl
 have e2 : ((s.heap.push PySem.W.emptyDict).push (PySem.W.instObj C s.heap.objs.size)).get? (s.heap.objs.size + 1) = some (PySem.W.instObj C s.heap.objs.size) := by
  have := Heap.get?_push_size (s.heap.push PySem.W.emptyDict) (o := PySem.W.instObj C s.heap.objs.size) rfl
  rwa [Heap.size_push] at this
 have e3 : (s.heap.push PySem.W.emptyDict).Ns s.heap.objs.size (fun _ => none) := ⟨PySem.W.emptyDict, #[], _, e1, rfl, (fun e he => absurd he (by simp)), fun _ => rfl⟩
 have I1 := I.laid (a := s.heap.objs.size) (o := .own (s.heap.objs.size + 1)) (h' := s.heap.push PySem.W.emptyDict) (t' := s.toks) (fun b u q => Heap.get?_push_of_some _ q) (Nat.le_refl _) ⟨_, e1⟩
 refine I1.laid (a := s.heap.objs.size + 1) (o := .ins C s.heap.objs.size []) (t' := s.toks) (fun b u q => Heap.get?_push_of_some _ q) (Nat.le_of_eq (Heap.size_push _ _)) ?_
 have ne : s.heap.objs.size ≠ s.heap.objs.size + 1 := Nat.ne_of_lt (Nat.lt_succ_self _)
 refine ⟨by rw [zak ne, zac], Nat.zero_le _, ne, e2, fun _ => none, (Heap.Ns1.of_empty e3).at fun o q => Heap.get?_push_of_some _ q, fun _ => True.intro, fun y hy => absurd rfl hy⟩
theorem zu5 {prog : Program} {w : World} {env : Env} {e : Expr} {f : Str} {pos : Pos} {s : Shared} {Q : Value → Shared → Prop} (hb : attributeBase e f env (eval e env) = eval e env)
  (h : wpAny (model prog w) A (eval e env) (fun o s₁ => wpAny (model prog w) A (getAttr o f true) Q E s₁) E s) : wpAny (model prog w) A (eval (.Attribute e f pos) env) Q E s :=
 Attribute_any_ h (by rw [arm_eval_Attribute, hb])
end
def zxi (K : PySem.W.Frag) (ta : TE) (f : Str) : TE := fun σ H Q => ta σ H fun x H1 => ∃ a C dx fs v, x = .ref a ∧ H1 a = some (.ins C dx fs) ∧ Cls K C ∧ NoAttr K C f ∧ fs.lookup f = some v ∧ Q v H1
def zyj (K : PySem.W.Frag) (ta tv : TE) (f : Str) : TS := fun D σ H => tv σ H fun y H1 => ta σ H1 fun x H2 => ∃ a C dx fs, x = .ref a ∧ H2 a = some (.ins C dx fs) ∧ Cls K C ∧ NoAttr K C f ∧ fs.length < 1000 ∧
 D.nx σ (upd H2 a (.ins C dx (zgs f y fs)))
section
variable {X : Cx} {o e value : Expr} {f : Str} {pos pos' tpos : Pos} {ta tv : TE}
theorem zbl (he : PE X e ta) (hb : attributeBase e f X.env (eval e X.env) = eval e X.env) : PE X (.Attribute e f pos) (zxi X.K ta f) := by
 intro pins s σ H Q I h
 refine zu5 hb (thn (he pins s σ H _ I h) fun u s1 ⟨x, H1, I1, rx, a, C, dx, fs, v, ex, ea, c, n, l, q⟩ => ?_)
 subst ex
 obtain rfl : u = Value.ref a := rx
 exact zpk I1 ea c n l fun u' s2 I2 ru => ⟨v, H1, I2, ru, q⟩
theorem zpj (ha : PE X o ta) (hv : PE X value tv) (hs : swapsWith value (some (.Attribute o f pos')) pos.line X.env = pure false) : PS X (.Assign [.Attribute o f pos'] value pos) (zyj X.K ta tv f) := by
 intro pins s σ H D I h
 refine plainObj_wpAny_Assign_Attribute (thn (hv pins s σ H _ I h) fun u s1 ⟨y, H1, I1, ry, q⟩ => thn (ha pins s1 σ H1 _ I1 q) fun ov s2 ⟨x, H2, I2, rx, a, C, dx, fs, ex, ea, c, n, l, q2⟩ => ?_) hs
 subst ex
 obtain rfl : ov = Value.ref a := rx
 exact zpg I2 ea c n l ry fun s3 I3 => ⟨σ, _, I3, q2⟩
end
section
variable {X : Cx} {pins : List (Addr × Obj)} {σ : St} {H : Hp} {s : Shared} {A : Around} {E : Value → Shared → Prop} {Q : Value → Shared → Prop} {c : Value} {b : Bool}
inductive TyOf (K : PySem.W.Frag) (H : Hp) : V → Value → Prop where
 | non : TyOf K H .non (.type "NoneType")
 | bl (x : Bool) : TyOf K H (.bl x) (.type "bool")
 | int (i : Int) : TyOf K H (.int i) (.type "int")
 | str (x : Str) : TyOf K H (.str x) (.type "str")
 | flt (x : UInt64) : TyOf K H (.flt x) (.type "float")
 | lst {a : Addr} {xs : List V} (e : H a = some (.lst xs)) : TyOf K H (.ref a) (.type "list")
 | frz {a : Addr} {o : Obj} {xs : List V} (e : H a = some (.frz o (.lst xs))) : TyOf K H (.ref a) (.type "list")
 | tup {a : Addr} {xs : List V} (e : H a = some (.tup xs)) : TyOf K H (.ref a) (.type "tuple")
 | dK {a : Addr} {kvs : List (Key × V)} (e : H a = some (.dK kvs)) : TyOf K H (.ref a) (.type "dict")
 | dT {a : Addr} {kvs : List (List Key × V)} (e : H a = some (.dT kvs)) : TyOf K H (.ref a) (.type "dict")
 | ins {a C dx : Addr} {fs : List (Str × V)} (e : H a = some (.ins C dx fs)) (cl : Cls K C) (ha : PySem.W.findIn K (.ref C) "__class__" = some (some (.builtin "object.__class__")))
   (hn : PySem.W.specialIn K (.builtin "object.__class__") "__get__" = some (some (.builtin "getset_descriptor.__get__"))) (htk : PySem.W.takesIn K (.builtin "object.__class__") = some true)
   (hm : PySem.W.mroIn K C (.type "object") = some true) : TyOf K H (.ref a) (.ref C)
theorem zqu {x : V} {u t : Value} (I : Inv X pins σ H s) (rx : RelV x u) (ty : TyOf X.K H x t) (e : PySem.W.kitOne X.K t c = some b) (h : ∀ tk, Q (.bool b) { s with toks := tk }) :
  wpAny (model X.prog X.w) A (call (.builtin "isinstance") [u, c]) Q E s := by
 cases ty with
 | non => cases (show u = Value.none from rx); exact PySem.W.kia_one PySem.W.kitx_none I.kIn True.intro e (fun z => nomatch z) h
 | bl y => cases (show u = Value.bool y from rx); exact PySem.W.kia_one PySem.W.kitx_bool I.kIn True.intro e (fun z => nomatch z) h
 | int i => obtain ⟨t, q⟩ := (show ∃ t, u = Value.int i t from rx); cases q; exact PySem.W.kia_one PySem.W.kitx_int I.kIn True.intro e (fun z => nomatch z) h
 | str y => obtain ⟨t, q⟩ := (show ∃ t, u = Value.str y t from rx); cases q; exact PySem.W.kia_one PySem.W.kitx_str I.kIn True.intro e (fun z => nomatch z) h
 | flt y => obtain ⟨t, q⟩ := (show ∃ t, u = Value.float y t from rx); cases q; exact PySem.W.kia_one PySem.W.kitx_float I.kIn True.intro e (fun z => nomatch z) h
 | @lst a xs ea =>
  cases (show u = Value.ref a from rx)
  obtain ⟨_, _, n, _, h1⟩ := (show ObjOk X.prog X.w H s.heap a (.lst xs) from I.hok a _ ea)
  exact PySem.W.kia_one PySem.W.kitx_list I.kIn ⟨_, h1, rfl⟩ e (fun z => nomatch z) h
 | @frz a ob xs ea =>
  cases (show u = Value.ref a from rx)
  obtain ⟨_, _, _, n, _, h1⟩ := (show ObjOk X.prog X.w H s.heap a (.frz ob (.lst xs)) from I.hok a _ ea)
  exact PySem.W.kia_one PySem.W.kitx_list I.kIn ⟨_, h1, rfl⟩ e (fun z => nomatch z) h
 | @tup a xs ea =>
  cases (show u = Value.ref a from rx)
  obtain ⟨_, _, _, p⟩ := (show ObjOk X.prog X.w H s.heap a (.tup xs) from I.hok a _ ea)
  obtain ⟨o, h1, h2, _⟩ := p
  exact PySem.W.kia_one PySem.W.kitx_tuple I.kIn ⟨o, h1, h2⟩ e (fun z => nomatch z) h
 | @dK a kvs ea =>
  cases (show u = Value.ref a from rx)
  obtain ⟨_, _, vs, _, p⟩ := (show ObjOk X.prog X.w H s.heap a (.dK kvs) from I.hok a _ ea)
  obtain ⟨o, es, ep, h1, h2, _⟩ := p
  exact PySem.W.kia_one PySem.W.kitx_dict I.kIn ⟨o, h1, h2.1⟩ e (fun z => nomatch z) h
 | @dT a kvs ea =>
  cases (show u = Value.ref a from rx)
  obtain ⟨_, _, xs, _, o, es, ep, h1, h2, _⟩ := (show ObjOk X.prog X.w H s.heap a (.dT kvs) from I.hok a _ ea)
  exact PySem.W.kia_one PySem.W.kitx_dict I.kIn ⟨o, h1, h2.1⟩ e (fun z => nomatch z) h
 | @ins a C dx fs ea cl ha hn htk hm =>
  cases (show u = Value.ref a from rx)
  obtain ⟨mA, O, _⟩ := zjf I.hok ea
  obtain ⟨od, J, _⟩ := O.look
  exact PySem.W.kia_one (PySem.W.kitx_own (cl.get _) cl.hd ha hn htk hm) I.kIn J e (fun z => nomatch z) h
end
structure Room (k : Nat) (A : Around) : Prop where
 hd : A.handled = none
 dp : A.depth + 3 * k + 5 < recursionLimit
 un : A.units + 16 * k + 200 < cLine
theorem Room.mono {j k : Nat} {A : Around} (r : Room k A) (h : j ≤ k) : Room j A := ⟨r.hd, by have := r.dp; omega, by have := r.un; omega⟩
theorem Room.deeper {k : Nat} {A : Around} (r : Room (k + 1) A) (env : Env) : Room k (A.deeper env) :=
 ⟨r.hd, by have := r.dp; show A.depth + 1 + 3 * k + 5 < _; omega, by have := r.un; show A.units + 3 + 16 * k + 200 < _; omega⟩
theorem zpl {A : Around} {C : Addr} {us : List Value} {kw : List (Str × Value)} : (A.under (.builtin "type.__call__" ⟨.ref C :: us, kw⟩)).depth = A.depth + 1 := by
 first | rfl | simp [Around.under, Code.weight, Code.isCreation, Code.isGuard, Code.isCaller, Code.frames, Code.isFrame, guardIds]
theorem zpo {A : Around} {C : Addr} {us : List Value} {kw : List (Str × Value)} : (A.under (.builtin "type.__call__" ⟨.ref C :: us, kw⟩)).units = A.units + 1 := by
 first | rfl | simp [Around.under, Code.cUnits, Code.frames, Code.isFrame]
theorem Room.make {k : Nat} {A : Around} (r : Room (k + 1) A) (C : Addr) (us : List Value) (kw : List (Str × Value)) : Room k (A.under (.builtin "type.__call__" ⟨.ref C :: us, kw⟩)) :=
 ⟨r.hd, by have := r.dp; rw [zpl]; omega, by have := r.un; rw [zpo]; omega⟩
theorem Room.depth {k : Nat} {A : Around} (r : Room k A) : A.depth < recursionLimit := by have := r.dp; omega
theorem Room.units {k : Nat} {A : Around} (r : Room k A) : A.units + 64 < cLine := by have := r.un; omega
def zxs : TA := fun _ H Q => Q [] H
def zyc (ta : TE) (tr : TA) : TA := fun σ H Q => ta σ H fun x H1 => tr σ H1 fun xs H2 => Q (x :: xs) H2
section
variable {X : Cx} {e : Expr} {es : List Expr} {te : TE} {t : TA} {pos : Pos}
theorem zab : PA X [] zxs := fun _ _ _ _ H Q I h => Calls.spliced_nil ⟨[], H, I, .nil, h⟩
theorem zaa (ha : PE X e te) (hr : PA X es t) (hs : starEach (e :: es) X.env = (false, eval e X.env) :: starEach es X.env := by rfl) : PA X (e :: es) (zyc te t) := by
 intro pos pins s σ H Q I h
 rw [hs]
 show wpAny _ _ (spliced ((false, eval e X.env) :: backTo pos (starEach es X.env))) _ _ s
 refine Calls.spliced_cons (thn (ha pins s σ H _ I h) fun u s1 ⟨x, H1, I1, r1, q1⟩ => ?_)
 exact thn (hr pos pins s1 σ H1 _ I1 q1) fun us s2 ⟨xs, H2, I2, r2, q2⟩ => ⟨x :: xs, H2, I2, .cons r1 r2, q2⟩
def zyy (t : TA) : TE := fun σ H Q => t σ H fun xs H1 => xs.length ≤ sizeLine ∧ ∀ p, H1 p = none → Q (.ref p) (upd H1 p (.tup xs))
def zyi (t : TA) : TE := fun σ H Q => t σ H fun xs H1 => xs.length ≤ sizeLine ∧ ∀ p, H1 p = none → Q (.ref p) (upd H1 p (.lst xs))
theorem zbb {x1} (h : PA X es t) : PE X (.Tuple es x1 pos) (zyy t) := by
 intro pins s σ H Q I hq
 refine wpAny_Tuple_spliced (thn (h pos pins s σ H _ I hq) fun us s1 ⟨xs, H1, I1, r, z, q⟩ => ⟨by rw [← r.length]; exact z, ?_⟩)
 have hf : H1 s1.heap.objs.size = none := I1.hok.fresh (Nat.le_refl _)
 refine ⟨.ref s1.heap.objs.size, upd H1 s1.heap.objs.size (.tup xs), I1.laid (t' := s1.toks) (fun b u e => Heap.get?_push_of_some _ e) (Nat.le_refl _) ?_, rfl, q _ hf⟩
 exact ⟨z, us, r, ⟨_, Heap.get?_push_size _ rfl, rfl, _, rfl⟩⟩
theorem za8 (h : PA X es t) : PE X (.List es pos) (zyi t) := by
 intro pins s σ H Q I hq
 refine wpAny_List_spliced (thn (h pos pins s σ H _ I hq) fun us s1 ⟨xs, H1, I1, r, z, q⟩ => ⟨by rw [← r.length]; exact z, ?_⟩)
 have hf : H1 s1.heap.objs.size = none := I1.hok.fresh (Nat.le_refl _)
 refine ⟨.ref s1.heap.objs.size, upd H1 s1.heap.objs.size (.lst xs), I1.laid (t' := s1.toks) (fun b u e => Heap.get?_push_of_some _ e) (Nat.le_refl _) ?_, rfl, q _ hf⟩
 exact ⟨z, us, 0, r, Heap.get?_push_size _ rfl⟩
end
abbrev Sp := List V → Hp → VK → XK → Prop
abbrev CXT := List Env → Hp → Shared → XK → Value → Shared → Prop
structure Env0 (P : Program) (w : World) (K : PySem.W.Frag) (mg : Str → Option Value) (base : Heap) (A : Around) (outer : List Env) (s : Shared) (H : Hp) : Prop where
 frames : A.frames = some outer
 mod : Mod K mg base
 bs : ∀ b o, base.get? b = some o → s.heap.get? b = some o ∧ H b = none
 bsz : base.objs.size ≤ s.heap.objs.size
 funs : s.heap.FunFrames base outer
 frf : ∀ b ∈ frs outer, H b = none
 hok : HOk P w H s.heap
 bare : AllBare s.gens
def CE (outer : List Env) (P : Program) (w : World) (H : Hp) (s : Shared) (Q : VK) (u : Value) (s' : Shared) : Prop :=
 ∃ v H', s'.os = s.os ∧ AllBare s'.gens ∧ Un (frs outer) [] H H' s.heap s'.heap ∧ HOk P w H' s'.heap ∧ RelV v u ∧ Q v H'
def CR (CX : CXT) (outer : List Env) (P : Program) (w : World) (H : Hp) (s : Shared) (Q : VK) (E : XK) (r : Result) (s' : Shared) : Prop :=
 match r with
 | .ok (.ret u) => CE outer P w H s Q u s'
 | .ok _ => False
 | .error e => CX outer H s E e s'
structure FnOk (P : Program) (w : World) (K : PySem.W.Frag) (mg : Str → Option Value) (base : Heap) (CX : CXT) (k : Nat) (f : Addr) (fd : FuncData) (ps : List Str) (sp : Sp) : Prop where
 len : ∀ vs H Q E, sp vs H Q E → vs.length = ps.length
 run : ∀ (A : Around) (outer : List Env) (s : Shared) (H : Hp) (args : Args) (us : List Value) (vs : List V) (Q : VK) (E : XK), Room k A → Env0 P w K mg base A outer s H → BindsTo s fd args (ps.zip us) → Vals vs us → sp vs H Q E →
  codeAny (model P w) A (.call (.ref f) args) (CR CX outer P w H s Q E) s
theorem FnOk.imp {P : Program} {w : World} {K : PySem.W.Frag} {mg : Str → Option Value} {base : Heap} {CX : CXT} {k : Nat} {f : Addr} {fd : FuncData} {ps : List Str} {sp sp' : Sp} (F : FnOk P w K mg base CX k f fd ps sp)
  (h : ∀ vs H Q E, sp' vs H Q E → sp vs H Q E) : FnOk P w K mg base CX k f fd ps sp' :=
 ⟨fun vs H Q E q => F.len vs H Q E (h _ _ _ _ q), fun A outer s H args us vs Q E hr he hb hv hs => F.run A outer s H args us vs Q E hr he hb hv (h _ _ _ _ hs)⟩
theorem Env0.make {P : Program} {w : World} {K : PySem.W.Frag} {mg : Str → Option Value} {base : Heap} {A : Around} {outer : List Env} {s : Shared} {H : Hp} (e : Env0 P w K mg base A outer s H) (C : Addr) (us : List Value) (kw : List (Str × Value)) :
  Env0 P w K mg base (A.under (.builtin "type.__call__" ⟨.ref C :: us, kw⟩)) outer s H := ⟨by first | exact e.frames | (simpa [Around.under, Code.envs, Code.isFrame, pushEnvs] using e.frames), e.mod, e.bs, e.bsz, e.funs, e.frf, e.hok, e.bare⟩
section
variable {X : Cx} {pins : List (Addr × Obj)} {σ : St} {H : Hp} {s s' : Shared}
theorem Inv.env0 (I : Inv X pins σ H s) : Env0 X.prog X.w X.K X.mg X.base X.A X.stack s H :=
 ⟨I.ok.frames, I.ok.mod, I.bs, Nat.le_trans I.ok.bsz I.sz, I.stack, I.stkFree, I.hok, I.bare⟩
theorem Inv.after {Q : VK} {u : Value} (I : Inv X pins σ H s) (h : CE X.stack X.prog X.w H s Q u s') : EP X pins σ Q u s' := by
 obtain ⟨v, H', os, bare, un, aa, r, q⟩ := h
 obtain ⟨hh, g, d, t, ac⟩ := s'
 obtain rfl : ac = s.os := os
 exact ⟨v, H', I.call (h' := hh) (g' := g) (d' := d) (t' := t) (ch := []) un aa bare (fun b z => absurd z (by simp)), r, q⟩
end
def zv5 (sp : Sp) (dvs : List V) (E : XK) (t : TA) : TE := fun σ H Q => t σ H fun vs H1 => sp (vs ++ dvs) H1 Q E
def zvu (C : Addr) (m : Str) (sp : Sp) (dvs : List V) (E : XK) (ta : TE) (t : TA) : TE := fun σ H Q => ta σ H fun x H1 => ∃ a dx fs, x = .ref a ∧ H1 a = some (.ins C dx fs) ∧ fs.lookup m = none ∧
 t σ H1 fun vs H2 => sp (x :: (vs ++ dvs)) H2 Q E
def zxo (C : Addr) (sp : Sp) (dvs : List V) (E : XK) (t : TA) : TE := fun σ H Q => t σ H fun vs H1 => ∀ x dx, H1 x = none → H1 dx = none → dx ≠ x →
 sp (.ref x :: (vs ++ dvs)) (upd (upd H1 dx (.own x)) x (.ins C dx [])) (fun v H2 => v = .non ∧ Q (.ref x) H2) E
def Binds (K : PySem.W.Frag) (fd : FuncData) (ps : List Str) (ds : List Value) : Prop :=
 ∀ (s : Shared) (us : List Value), K.In s.heap → (us ++ ds).length = ps.length → BindsTo s fd ⟨us, []⟩ (ps.zip (us ++ ds))
theorem Binds.all {K : PySem.W.Frag} {fd : FuncData} {ps : List Str} (h : ∀ us : List Value, us.length = ps.length → bindArgs fd ⟨us, []⟩ = pure (ps.zip us)) : Binds K fd ps [] := fun s us _ hl => by
 rw [List.append_nil] at hl ⊢
 exact .of_eq (h us hl)
def zer (CX : CXT) (X : Cx) (E : XK) : Prop := ∀ (pins : List (Addr × Obj)) (σ : St) (H : Hp) (s : Shared) (e : Value) (s' : Shared), Inv X pins σ H s → CX X.stack H s E e s' → X.xe e s'
section
variable {X : Cx} {CX : CXT} {k : Nat} {f C : Addr} {fd : FuncData} {ps : List Str} {sp : Sp} {dvs : List V} {ds : List Value} {E : XK} {x m : Str} {p pos apos : Pos} {e o : Expr} {es : List Expr} {ta : TE} {t : TA}
theorem zkc {pins : List (Addr × Obj)} {σ : St} {H : Hp} {s : Shared} {Q : VK} {us : List Value} {vs : List V} (F : FnOk X.prog X.w X.K X.mg X.base CX k f fd ps sp) (hr : Room k X.A) (hb : Binds X.K fd ps ds) (hd : Vals dvs ds) (hx : zer CX X E)
  (I : Inv X pins σ H s) (r : Vals vs us) (h : sp (vs ++ dvs) H Q E) : wpAny (model X.prog X.w) X.A (call (.ref f) us) (EP X pins σ Q) X.xe s := by
 have r2 : Vals (vs ++ dvs) (us ++ ds) := r.append hd
 have hl : (us ++ ds).length = ps.length := by rw [← r2.length]; exact F.len _ _ _ _ h
 refine wpAny_call (codeAny_mono (F.run X.A X.stack s H ⟨us, []⟩ (us ++ ds) (vs ++ dvs) Q E hr I.env0 (hb s us I.kIn hl) r2 h) fun r s' hq => ?_)
 cases r with
 | error e => exact hx pins σ H s e s' I hq
 | ok fl =>
  cases fl with
  | ret u => exact I.after hq
  | next => exact False.elim hq
  | brk => exact False.elim hq
  | cont => exact False.elim hq
theorem zqa (F : FnOk X.prog X.w X.K X.mg X.base CX k f fd ps sp) (hr : Room k X.A) (hg : Gl X x) (hm : X.mg x = some (.ref f)) (hk : PySem.W.keepIn X.K (.ref f) = true) (hb : Binds X.K fd ps ds) (hd : Vals dvs ds) (hx : zer CX X E)
  (ha : PA X (e :: es) t) (hdb : (x == ("__debug__" : Str)) = false := by decide) (he : starEach (e :: es) X.env = (false, eval e X.env) :: starEach es X.env := by rfl) (hpl : (backTo pos (starEach es X.env)).any (·.1) = false := by rfl) :
  PE X (.Call (.Name x p) (e :: es) [] pos) (zv5 sp dvs E t) := by
 intro pins s σ H Q I h
 refine wpAny_Call_Name_kw (ze9 I hg hm ?_ hdb)
 refine PySem.W.callWith_K (h₀ := X.base) I.ok.mod.kin hk (thn (ha pos pins s σ H _ I h) fun us s1 ⟨vs, H1, I1, r, q⟩ => ⟨I1.kIn, ?_⟩) he hpl
 exact zkc F hr hb hd hx I1 r q
theorem zdb {pl : Sem Bool} (he : PE X o ta) (c : Cls X.K C) (hm : zoj X.K C m f) (F : FnOk X.prog X.w X.K X.mg X.base CX k f fd ps sp) (hr : Room k X.A) (hb : Binds X.K fd ps ds) (hd : Vals dvs ds) (hx : zer CX X E) (ha : PA X (e :: es) t)
  (hst : starEach (e :: es) X.env = (false, eval e X.env) :: starEach es X.env := by rfl) (hpl : (backTo pos (starEach es X.env)).any (·.1) = false := by rfl)
  (ht : eval (.Call (.Attribute o m apos) (e :: es) [] pos) X.env = (do
   let ov ← eval o X.env
   standAt apos.atName
   let (f, first) ← holding [ov] (getMethod ov m pl)
   callWith pos f first (backTo pos (starEach (e :: es) X.env)) (backToKw pos (keywordEach [] X.env))) := by rfl) :
  PE X (.Call (.Attribute o m apos) (e :: es) [] pos) (zvu C m sp dvs E ta t) := by
 intro pins s σ H Q I h
 refine PySem.W.methodCall_KW (pl := pl) (thn (he pins s σ H _ I h) fun u s1 ⟨x, H1, I1, rx, a, dx, fs, ex, ea, l, q⟩ => ?_) ht
 subst ex
 obtain rfl : u = Value.ref a := rx
 refine zkw I1 ea c hm l ?_
 refine PySem.W.callWith_K (first := [.ref a]) (h₀ := X.base) I.ok.mod.kin hm.kp (thn (ha pos pins s1 σ H1 _ I1 q) fun us s2 ⟨vs, H2, I2, r, q2⟩ => ⟨I2.kIn, ?_⟩) hst hpl
 exact zkc (us := .ref a :: us) (vs := .ref a :: vs) F hr hb hd hx I2 (.cons rfl r) q2
theorem zkb {pl : Sem Bool} (he : PE X o ta) (c : Cls X.K C) (hm : zoj X.K C m f) (F : FnOk X.prog X.w X.K X.mg X.base CX k f fd ps sp) (hr : Room k X.A) (hb : Binds X.K fd ps ds) (hd : Vals dvs ds) (hx : zer CX X E)
  (ht : eval (.Call (.Attribute o m apos) [] [] pos) X.env = (do
   let ov ← eval o X.env
   standAt apos.atName
   let (f, first) ← holding [ov] (getMethod ov m pl)
   callWith pos f first (backTo pos (starEach [] X.env)) (backToKw pos (keywordEach [] X.env))) := by rfl) :
  PE X (.Call (.Attribute o m apos) [] [] pos) (zvu C m sp dvs E ta zxs) := by
 intro pins s σ H Q I h
 refine PySem.W.methodCall_KW (pl := pl) (thn (he pins s σ H _ I h) fun u s1 ⟨x, H1, I1, rx, a, dx, fs, ex, ea, l, q⟩ => ?_) ht
 subst ex
 obtain rfl : u = Value.ref a := rx
 refine zkw I1 ea c hm l ?_
 exact PySem.W.callWith_K0 (first := [.ref a]) I1.kIn hm.kp (zkc (us := [.ref a]) (vs := [.ref a]) F hr hb hd hx I1 (.cons rfl .nil) q)
structure Mk (K : PySem.W.Frag) (C f : Addr) : Prop where
 makes : PySem.W.makesIn K C = true
 init : PySem.W.findIn K (.ref C) "__init__" = some (some (.ref f))
 fn : PySem.W.isFn K (.ref f) = true
 kp : PySem.W.keepIn K (.ref C) = true
theorem zs0 {pins : List (Addr × Obj)} {σ : St} {H : Hp} {s : Shared} {Q : VK} {us : List Value} {vs : List V} (M : Mk X.K C f) (F : FnOk X.prog X.w X.K X.mg X.base CX k f fd ps sp) (hr : Room (k + 1) X.A) (hb : Binds X.K fd ps ds) (hd : Vals dvs ds)
  (hx : zer CX X E) (I : Inv X pins σ H s) (r : Vals vs us)
  (h : ∀ x dx, H x = none → H dx = none → dx ≠ x → sp (.ref x :: (vs ++ dvs)) (upd (upd H dx (.own x)) x (.ins C dx [])) (fun v H2 => v = .non ∧ Q (.ref x) H2) E) :
  wpAny (model X.prog X.w) X.A (call (.ref C) us) (EP X pins σ Q) X.xe s := by
 have hq := h (s.heap.objs.size + 1) s.heap.objs.size (I.hok.fresh (Nat.le_succ _)) (I.hok.fresh (Nat.le_refl _)) (Nat.ne_of_lt (Nat.lt_succ_self _))
 have I2 := Inv.made (C := C) I
 have r2 : Vals (V.ref (s.heap.objs.size + 1) :: (vs ++ dvs)) (Value.ref (s.heap.objs.size + 1) :: (us ++ ds)) := .cons rfl (r.append hd)
 have hl : (Value.ref (s.heap.objs.size + 1) :: us ++ ds).length = ps.length := by
  have e := r2.length
  rw [F.len _ _ _ _ hq] at e
  exact e.symm
 refine wpAny_call (zs7 (f := f) I.kIn M.makes M.init (beq_iff_eq.mp M.fn) (codeAny_mono (F.run _ X.stack _ _ ⟨Value.ref (s.heap.objs.size + 1) :: us, []⟩ (Value.ref (s.heap.objs.size + 1) :: (us ++ ds)) _ _ E (hr.make C us [])
  (I2.env0.make C us []) (hb _ (Value.ref (s.heap.objs.size + 1) :: us) I2.kIn hl) r2 hq) fun r s' aa => ?_))
 cases r with
 | error e => exact hx pins σ _ _ e s' I2 aa
 | ok fl =>
  cases fl with
  | ret u =>
   obtain ⟨v, H', I3, rv, ev, q3⟩ := I2.after aa
   subst ev
   exact ⟨rv, ⟨V.ref (s.heap.objs.size + 1), H', I3, rfl, q3⟩⟩
  | next => exact False.elim aa
  | brk => exact False.elim aa
  | cont => exact False.elim aa
theorem zvq (M : Mk X.K C f) (F : FnOk X.prog X.w X.K X.mg X.base CX k f fd ps sp) (hr : Room (k + 1) X.A) (hg : Gl X x) (hm : X.mg x = some (.ref C)) (hb : Binds X.K fd ps ds) (hd : Vals dvs ds) (hx : zer CX X E)
  (ha : PA X (e :: es) t) (hdb : (x == ("__debug__" : Str)) = false := by decide) (he : starEach (e :: es) X.env = (false, eval e X.env) :: starEach es X.env := by rfl) (hpl : (backTo pos (starEach es X.env)).any (·.1) = false := by rfl) :
  PE X (.Call (.Name x p) (e :: es) [] pos) (zxo C sp dvs E t) := by
 intro pins s σ H Q I h
 refine wpAny_Call_Name_kw (ze9 I hg hm ?_ hdb)
 refine PySem.W.callWith_K (h₀ := X.base) I.ok.mod.kin M.kp (thn (ha pos pins s σ H _ I h) fun us s1 ⟨vs, H1, I1, r, q⟩ => ⟨I1.kIn, ?_⟩) he hpl
 exact zs0 M F hr hb hd hx I1 r q
end
section
variable {X : Cx} {CX : CXT} {k : Nat} {f C : Addr} {fd : FuncData} {ps ks : List Str} {sp : Sp} {E : XK} {x m : Str} {p pos apos kpos : Pos} {e o : Expr} {es : List Expr} {kws : List Keyword} {te ta : TE} {t tk : TA} {nm : Option Str}
variable {g : List Value → List Value → List Value} {gV : List V → List V → List V}
end
structure zay (N P : List Str) (sc : Scope) : Prop where
 kind : sc.kind = .function
 co : sc.isCoroutine = false
 gen : sc.isGenerator = false
 nd : N.Nodup
 pre : N.take P.length = P
 par : ∀ x ∈ P, sc.names.lookup x = some .local ∨ sc.names.lookup x = some .cell
 nofree : ∀ y ∈ sc.names, y.2 ≠ .free
theorem zl7 {kindOf : Str → Option NameKind} {x : Str} : ∀ {binds : List (Str × Value)} {m : Str → Option Value}, (∀ v, (x, v) ∉ binds) → bindL kindOf binds m x = m x
 | [], _, _ => rfl
 | (n, v) :: r, m, h => by
  unfold bindL
  rw [zl7 fun w hw => h w (List.mem_cons_of_mem _ hw)]
  split
  ·have : x ≠ n := by rintro rfl; exact h v List.mem_cons_self
   simp [this]
  ·rfl
theorem zme {kindOf : Str → Option NameKind} {x : Str} : ∀ {binds : List (Str × Value)} {m : Str → Option Value}, (∀ v, (x, v) ∉ binds) → bindC kindOf binds m x = m x
 | [], _, _ => rfl
 | (n, v) :: r, m, h => by
  unfold bindC
  rw [zme fun w hw => h w (List.mem_cons_of_mem _ hw)]
  split
  ·rfl
  ·have : x ≠ n := by rintro rfl; exact h v List.mem_cons_self
   simp [this]
theorem zlu {kindOf : Str → Option NameKind} {x : Str} {v : Value} : ∀ {P : List Str} {vs : List Value} {i : Nat} {m : Str → Option Value}, P.Nodup → P[i]? = some x → vs[i]? = some v → kindOf x = some .local →
  bindL kindOf (P.zip vs) m x = some v
 | [], _, _, _, _, h, _, _ => by simp at h
 | _ :: _, [], _, _, _, _, h, _ => by simp at h
 | p :: P, w :: vs, 0, m, nd, h1, h2, hk => by
  simp at h1 h2; subst h1; subst h2
  show bindL kindOf ((p, w) :: P.zip vs) m p = _
  unfold bindL
  rw [zl7 fun v hv => (List.nodup_cons.mp nd).1 (List.of_mem_zip hv).1, if_pos hk]
  simp
 | p :: P, w :: vs, i + 1, m, nd, h1, h2, hk => by
  show bindL kindOf ((p, w) :: P.zip vs) m x = _
  unfold bindL
  exact zlu (i := i) (List.nodup_cons.mp nd).2 (by simpa using h1) (by simpa using h2) hk
theorem zlw {kindOf : Str → Option NameKind} {x : Str} {v : Value} : ∀ {P : List Str} {vs : List Value} {i : Nat} {m : Str → Option Value}, P.Nodup → P[i]? = some x → vs[i]? = some v → kindOf x ≠ some .local →
  bindC kindOf (P.zip vs) m x = some v
 | [], _, _, _, _, h, _, _ => by simp at h
 | _ :: _, [], _, _, _, _, h, _ => by simp at h
 | p :: P, w :: vs, 0, m, nd, h1, h2, hk => by
  simp at h1 h2; subst h1; subst h2
  show bindC kindOf ((p, w) :: P.zip vs) m p = _
  unfold bindC
  rw [zme fun v hv => (List.nodup_cons.mp nd).1 (List.of_mem_zip hv).1, if_neg hk]
  simp
 | p :: P, w :: vs, i + 1, m, nd, h1, h2, hk => by
  show bindC kindOf ((p, w) :: P.zip vs) m x = _
  unfold bindC
  exact zlw (i := i) (List.nodup_cons.mp nd).2 (by simpa using h1) (by simpa using h2) hk
def zg4 (N : List Str) (vs : List V) : St := vs.map some ++ List.replicate (N.length - vs.length) none
def zb3 (CX : CXT) (P : Program) (w : World) (K : PySem.W.Frag) (mg : Str → Option Value) (base : Heap) (N : List Str) (qual : Str) (scope : Scope) (f : Addr) (cd : Value) (A : Around) (outer : List Env) (s : Shared) (H : Hp) (E : XK) : Cx where
 prog := P
 w := w
 K := K
 mg := mg
 base := base
 A := A.deeper (envOfC qual scope s.heap.objs.size f cd)
 N := N
 s₀ := s
 H₀ := H
 env := envOfC qual scope s.heap.objs.size f cd
 outer := outer
 stack := envOfC qual scope s.heap.objs.size f cd :: outer
 ex := []
 calm := true
 fn := fun _ => true
 pn := []
 xe := fun e s' => wpAny (model P w) (A.deeper (envOfC qual scope s.heap.objs.size f cd)) (leaving (envOfC qual scope s.heap.objs.size f cd) e) (fun _ s'' => CX outer H s E e s'') (fun e' s'' => CX outer H s E e' s'') s'
theorem zoc {sc : Scope} {n : Nat} {x : Str} (h : sc.names.lookup x = some .cell) : ∃ c, (cellsFrom n sc.names []).lookup x = some c := by
 have q := PySem.W.cellsFrom_some sc.names n [] (.inl h)
 exact Option.isSome_iff_exists.mp q
theorem zq4 {CX : CXT} {P : Program} {w : World} {K : PySem.W.Frag} {mg : Str → Option Value} {base : Heap} {N ps : List Str} {qual : Str} {scope : Scope} {f : Addr} {cd : Value} {A : Around} {outer : List Env} {s s1 : Shared} {H : Hp} {E : XK} {us : List Value} {vs : List V}
  (S : zay N ps scope) (hd : A.handled = none) (e0 : Env0 P w K mg base A outer s H) (hl : vs.length = ps.length) (r : Vals vs us)
  (x : InCallC s s.heap.objs.size (bindL (envOfC qual scope s.heap.objs.size f cd).kindOf (ps.zip us) fun _ => none) (cellsFrom (s.heap.objs.size + 1) scope.names []) (bindC (envOfC qual scope s.heap.objs.size f cd).kindOf (ps.zip us) fun _ => none) s1) :
  Inv (zb3 CX P w K mg base N qual scope f cd A outer s H E) [] (zg4 N vs) H s1 := by
 have ad : ps.length ≤ N.length := by have := congrArg List.length S.pre; rw [List.length_take] at this; omega
 obtain ⟨h1, tk, rfl, hk⟩ := x.done
 have aa : ∀ b : Addr, b ∉ (zb3 CX P w K mg base N qual scope f cd A outer s H E).ex := fun b z => absurd (show b ∈ ([] : List Addr) from z) (by simp)
 refine ⟨⟨e0.mod, S.kind, rfl, rfl, Nat.le_refl _, fun y z c h1 h2 => ?_, fun y hy => ?_, fun y c _ h => ?_, fun _ => hd, Around.frames_deeper e0.frames, .inr ⟨rfl, rfl⟩, fun b z => absurd z (aa b), e0.bs, e0.bsz, fun b _ _ => aa b, fun b z => absurd z (aa b), e0.funs, e0.frf⟩,
  rfl, e0.bare, Un.kept hk, ⟨_, x.toInCall.ns, fun i y v h1 h2 h3 => ?_⟩, fun y c h => ⟨_, x.cell y c h⟩, e0.hok.fresh (Nat.le_refl _), fun y c h => ?_, fun p hp => absurd (show p ∈ ([] : List (Addr × Obj)) from hp) (by simp), e0.hok.kept hk, ?_⟩
 ·exact name_of_addr x.apart (PySem.mem_of_lookup h1) (PySem.mem_of_lookup h2)
 ·have hy : scope.names.lookup y = some .cell ∨ scope.names.lookup y = some .free := hy
  rcases hy with hy | hy
  ·exact zoc hy
  ·exact absurd rfl (S.nofree _ (PySem.mem_of_lookup hy))
 ·exact Nat.le_of_lt (x.above y c (PySem.mem_of_lookup h))
 ·have hi : i < vs.length := by
   unfold zg4 at h2
   by_cases hi : i < vs.length
   ·exact hi
   ·rw [List.getElem?_append_right (by simpa using hi)] at h2
    rw [List.getElem?_replicate] at h2
    split at h2 <;> cases h2
  have ha : vs[i]? = some v := by
   unfold zg4 at h2
   rw [List.getElem?_append_left (by simpa using hi), List.getElem?_map] at h2
   cases e : vs[i]? with
   | none => rw [e] at h2; cases h2
   | some a => rw [e] at h2; cases h2; rfl
  obtain ⟨u, hu, rv⟩ := r.get ha
  have hp : ps[i]? = some y := by
   rw [← S.pre, List.getElem?_take_of_lt (by omega)]; exact h1
  have ac : ps.Nodup := by rw [← S.pre]; exact S.nd.sublist (List.take_sublist _ _)
  refine ⟨u, rv, ?_⟩
  rcases S.par y (List.mem_of_getElem? hp) with k | k
  ·exact .inl ⟨k, zlu ac hp hu k⟩
  ·obtain ⟨c, e⟩ := zoc (n := s.heap.objs.size + 1) k
   refine .inr ⟨.inl k, c, e, ?_⟩
   have q := x.cell y c e
   rw [zlw ac hp hu (by show scope.names.lookup y ≠ _; rw [k]; decide)] at q
   exact q
 ·exact e0.hok.fresh (Nat.le_of_lt (x.above y c (PySem.mem_of_lookup h)))
 ·unfold zg4
  show _ = N.length
  rw [List.length_append, List.length_map, List.length_replicate]
  omega
theorem zsx {CX : CXT} {P : Program} {w : World} {K : PySem.W.Frag} {mg : Str → Option Value} {base : Heap} {k : Nat} {f : Addr} {name qual : Str} {params : Arguments} {body : List Stmt} {scope : Scope} {dV kV doc pm cdv ct oc : Value} {an od : Option Addr}
  {osl : Array (Option Value)} {N ps : List Str} {sp : Sp} (lk : K.lookup f = some ⟨oc, od, .func (PySem.W.fnOf name qual params body scope dV kV doc pm an cdv ct), osl⟩) (hcd : PySem.W.codeIn K cdv qual = true) (S : zay N ps scope)
  (len : ∀ vs H Q E, sp vs H Q E → vs.length = ps.length)
  (hbody : ∀ (A : Around) (outer : List Env) (s : Shared) (H : Hp) (vs : List V) (Q : VK) (E : XK), Room k (A.deeper (envOfC qual scope s.heap.objs.size f cdv)) → sp vs H Q E →
   ∃ t, PSs (zb3 CX P w K mg base N qual scope f cdv A outer s H E) body t ∧ t { nx := fun _ H' => Q .non H', rt := Q } (zg4 N vs) H) :
  FnOk P w K mg base CX (k + 1) f (PySem.W.fnOf name qual params body scope dV kV doc pm an cdv ct) ps sp := by
 refine ⟨len, fun A outer s H args us vs Q E hr e0 hb r ad => ?_⟩
 have hl := len _ _ _ _ ad
 have KX : K.In s.heap := e0.mod.kin.keeps fun b o e => (e0.bs b o e).1
 have ae : s.heap.NoLimit := e0.mod.nolimit.keeps fun b o e => (e0.bs b o e).1
 have aa : ∀ y ∈ ps.zip us, scope.names.lookup y.1 = some .local ∨ (scope.names.lookup y.1 = some .cell ∧ ((cellsFrom (s.heap.objs.size + 1) scope.names []).lookup y.1).isSome = true) := fun ⟨n, v⟩ hy => by
  rcases S.par n (List.of_mem_zip hy).1 with q | q
  ·exact .inl q
  ·exact .inr ⟨q, PySem.W.cellsFrom_some _ _ _ (.inl q)⟩
 refine codeAny_call_function hr.depth (KX _ _ lk) rfl S.co S.gen rfl (PySem.W.codeRec_of KX hcd) (hb _ _ _ _ ?_)
 refine wpAny_newFunctionEnv_cells S.kind aa fun env he s1 x => ?_
 subst he
 refine ⟨ae.keeps x.toInCall.keep, codeAny_func ?_⟩
 obtain ⟨t, ht, hq⟩ := hbody A outer s H vs Q E (hr.deeper _) ad
 have I : Inv (zb3 CX P w K mg base N qual scope f cdv A outer s H E) [] (zg4 N vs) H s1 := zq4 S hr.hd e0 hl r x
 refine wpAny_mono (ht [] s1 (zg4 N vs) H _ I hq) (fun fl s' hs => ?_) fun e s' hs => hs
 have ac : ∀ {σ' : St} {H' : Hp} {v : V} {u : Value}, Inv (zb3 CX P w K mg base N qual scope f cdv A outer s H E) [] σ' H' s' → RelV v u → Q v H' → CE outer P w H s Q u s' :=
  fun {σ' H' v u} J rv q => ⟨v, H', J.os, J.bare, J.base, J.hok, rv, q⟩
 cases fl with
 | ret u =>
  obtain ⟨v, σ', H', J, rv, q⟩ := hs
  exact ac J rv q
 | next =>
  obtain ⟨σ', H', J, q⟩ := hs
  exact ac (v := V.non) (u := Value.none) J rfl q
 | brk =>
  obtain ⟨_, _, _, q⟩ := hs
  exact False.elim q
 | cont =>
  obtain ⟨_, _, _, q⟩ := hs
  exact False.elim q
section
variable {X : Cx} {x : Str} {p pos : Pos} {e : Expr} {es : List Expr} {t : TA} {id T : String} {r : List V → Hp → VK → Prop}
def tCB (r : List V → Hp → VK → Prop) (t : TA) : TE := fun σ H Q => t σ H fun vs H1 => r vs H1 Q
theorem zaz (hc : zd8 X (.builtin id) r) (hg : Gl X x) (hm : X.mg x = none) (hv : bootBuiltins x = some (.builtin id)) (ha : PA X (e :: es) t) (hn : x ≠ "__name__" := by decide) (hdb : (x == ("__debug__" : Str)) = false := by decide)
  (he : starEach (e :: es) X.env = (false, eval e X.env) :: starEach es X.env := by rfl) (hpl : (backTo pos (starEach es X.env)).any (·.1) = false := by rfl) : PE X (.Call (.Name x p) (e :: es) [] pos) (tCB r t) := by
 intro pins s σ H Q I h
 refine wpAny_Call_Name_kw (zh7 I hg hm hv ?_ hn hdb)
 exact PyProof.Rows.callWith_builtin1 (thn (ha pos pins s σ H _ I h) fun us s1 ⟨vs, H1, I1, r1, q1⟩ => hc pins s1 σ H1 vs us Q I1 r1 q1) he hpl
theorem zbv (hc : zd8 X (.type T) r) (hg : Gl X x) (hm : X.mg x = none) (hv : bootBuiltins x = some (.type T)) (ha : PA X (e :: es) t) (hn : x ≠ "__name__" := by decide) (hdb : (x == ("__debug__" : Str)) = false := by decide)
  (he : starEach (e :: es) X.env = (false, eval e X.env) :: starEach es X.env := by rfl) (hpl : (backTo pos (starEach es X.env)).any (·.1) = false := by rfl) : PE X (.Call (.Name x p) (e :: es) [] pos) (tCB r t) := by
 intro pins s σ H Q I h
 refine wpAny_Call_Name_kw (zh7 I hg hm hv ?_ hn hdb)
 exact PyProof.Rows.callWith_type1 (thn (ha pos pins s σ H _ I h) fun us s1 ⟨vs, H1, I1, r1, q1⟩ => hc pins s1 σ H1 vs us Q I1 r1 q1) he hpl
end
end L2
namespace HT
open PySem PyProof.Rows
section
open PySem.SeqAt
open PySem.AutoSeq1 (wpAny_loadPart')
open PySem.MeetsSeq PySem.MeetsSeq2 PySem.MeetsSeq3
end
end HT
namespace L2
open PySem PySem.Spec PyProof.Rows
theorem zec {ns : List Int} : ∀ {us : List Value}, Vals (ns.map V.int) us → IntsAre us ns := by
 induction ns with
 | nil => intro us r; rw [List.map_nil] at r; cases r; exact .nil
 | cons n ns ih =>
  intro us r
  rw [List.map_cons] at r
  cases r with
  | cons r1 r2 =>
   obtain ⟨t, e⟩ := r1
   subst e
   exact .cons n t (ih r2)
def ixN (n : Nat) (i : Int) : Option Nat := if 0 ≤ i then (if i < n then some i.toNat else none) else if -(n : Int) ≤ i then some (i + n).toNat else none
def atI {α : Type} (xs : List α) (i : Int) : Option α := (ixN xs.length i).bind fun j => xs[j]?
theorem zqn {n : Nat} {i : Int} {j : Nat} (h : ixN n i = some j) : seqIndex? i n = some j ∧ j < n ∧ -(n : Int) ≤ i ∧ i < n := by
 unfold ixN at h
 by_cases h0 : 0 ≤ i
 ·rw [if_pos h0] at h
  by_cases h1 : i < n
  ·rw [if_pos h1] at h
   have e : i.toNat = j := Option.some.inj h
   exact ⟨by rw [seqIndex_of h0 h1, e], by omega, by omega, h1⟩
  ·rw [if_neg h1] at h; cases h
 ·rw [if_neg h0] at h
  by_cases h1 : -(n : Int) ≤ i
  ·rw [if_pos h1] at h
   have e : (i + n).toNat = j := Option.some.inj h
   exact ⟨by rw [seqIndex_neg (by omega) h1, e], by omega, h1, by omega⟩
  ·rw [if_neg h1] at h; cases h
theorem zp9 {α : Type} {xs : List α} {i : Int} {v : α} (h : atI xs i = some v) : ∃ j, seqIndex? i xs.length = some j ∧ xs[j]? = some v ∧ j < xs.length ∧ -(xs.length : Int) ≤ i ∧ i < xs.length := by
 unfold atI at h
 cases e : ixN xs.length i with
 | none => rw [e] at h; cases h
 | some j =>
  rw [e] at h
  obtain ⟨h1, h2, h3, h4⟩ := zqn e
  exact ⟨j, h1, h, h2, h3, h4⟩
theorem zdx {α : Type} {xs : List α} {j : Nat} {v : α} (h : xs[j]? = some v) : atI xs (j : Int) = some v := by
 have hj : j < xs.length := (List.getElem?_eq_some_iff.mp h).1
 have e : ixN xs.length (j : Int) = some j := by
  unfold ixN
  rw [if_pos (by omega), if_pos (by omega)]; simp
 unfold atI; rw [e]; exact h
def zu2 (b : Expr) : Prop := ∀ o i, subscripted b false o i = operate [o, i] (getItem o i)
def IxR (X : Cx) (r : R2) : Prop :=
 ∀ (value slice : Expr) (pins : List (Addr × Obj)) (s : Shared) (σ : St) (H : Hp) (x y : V) (v u : Value) (Q : VK), Inv X pins σ H s → RelV x v → RelV y u → r x y H Q →
  subscripted slice false v u = operate [v, u] (getItem v u) → wpAny (model X.prog X.w) X.A (subscriptTail value slice v u) (EP X pins σ Q) X.xe s
def MtR (X : Cx) (id : String) (r : V → List V → Hp → VK → Prop) : Prop :=
 ∀ (pins : List (Addr × Obj)) (s : Shared) (σ : St) (H : Hp) (x : V) (xs : List V) (v : Value) (us : List Value) (Q : VK), Inv X pins σ H s → RelV x v → Vals xs us → r x xs H Q →
  wpAny (model X.prog X.w) X.A (call (.builtin id) (v :: us)) (EP X pins σ Q) X.xe s
section
variable {X : Cx} {a b : Expr} {ta tb : TE} {pos : Pos}
theorem zat {r : R2} (hr : IxR X r) (ha : PE X a ta) (hb : PE X b tb) (hs : zu2 b) : PE X (.Subscript a b pos) (tOp r ta tb) := by
 intro pins s σ H Q I h
 exact Subscript_ (zxa ha hb I h fun v u s2 x y H2 I2 rx ry q => hr a b pins s2 σ H2 x y v u Q I2 rx ry q (hs _ _))
def zx9 (K : PySem.W.Frag) : R2 := fun x y H Q => ∃ p xs i v, x = .ref p ∧ y = .int i ∧ SqL K H p xs ∧ atI xs i = some v ∧ Q v H
def zyf (K : PySem.W.Frag) : R2 := fun x y H Q => ∃ p xs i v, x = .ref p ∧ y = .int i ∧ SqT K H p xs ∧ atI xs i = some v ∧ Q v H
theorem zuu : IxR X (zx9 X.K) := by
 intro value ac pins s σ H x y v u Q I rx ry h hs
 obtain ⟨p, xs, i, z, rfl, rfl, hq, he, q⟩ := h
 cases rx
 obtain ⟨t, rfl⟩ := ry
 obtain ⟨ae, r, pl, hz⟩ := I.list hq
 obtain ⟨j, h1, h2, h3, h4, h5⟩ := zp9 he
 obtain ⟨w, ew, ad⟩ := r.get h2
 have hl := r.length
 have hn := zkg
 have aa : EP X pins σ Q w s := ⟨z, H, I, ad, q⟩
 by_cases h0 : 0 ≤ i
 ·have hj : i.toNat = j := by
   rw [seqIndex_of h0 h5] at h1
   exact Option.some.inj h1
  exact item_listR pl.isList h0 (by omega) (by rw [hj]; simpa using ew) aa hs
 ·have hj : (i + (ae.toArray.size : Int)).toNat = j := by
   rw [seqIndex_neg (by omega) h4] at h1
   rw [List.size_toArray, ← hl]
   exact Option.some.inj h1
  exact subscriptTail_builtinR (x := w) pl.isList.typeIs slot_list_getitem.lookup
   (wpAny_getItem_list_neg (Q := fun r s' => r = w ∧ EP X pins σ Q r s') pl.isList (by omega) (by rw [List.size_toArray] <;> omega) (by omega) (by rw [hj]; simpa using ew) ⟨rfl, aa⟩) hs
theorem zww : IxR X (zyf X.K) := by
 intro value aa pins s σ H x y v u Q I rx ry h hs
 obtain ⟨p, xs, i, z, rfl, rfl, hq, he, q⟩ := h
 cases rx
 obtain ⟨t, rfl⟩ := ry
 obtain ⟨ae, r, pl, hz⟩ := I.tuple hq
 obtain ⟨j, h1, h2, h3, h4, h5⟩ := zp9 he
 obtain ⟨w, ew, ac⟩ := r.get h2
 have hl := r.length
 have hn := zkg
 have ad : EP X pins σ Q w s := ⟨z, H, I, ac, q⟩
 exact subscriptTail_builtinR (x := w) pl.typeIs slot_tuple_getitem.lookup
  (getItem_tuple (j := j) (Q := fun r s' => r = w ∧ EP X pins σ Q r s') pl (by omega) (by omega) (by rw [List.size_toArray, ← hl]; exact h1) (by simpa using ew) ⟨rfl, ad⟩) hs
theorem zpe (its : List Value) (n j : Nat) (u : Value) : Obj.mapSeq (·.setIfInBounds j u) { cls := .type "list", data := .seq its.toArray n } = { cls := .type "list", data := .seq (its.set j u).toArray n } := by
 simp [Obj.mapSeq]
theorem Inv.lst {pins : List (Addr × Obj)} {σ : St} {H : Hp} {s : Shared} {p : Addr} {xs : List V} (I : Inv X pins σ H s) (h : H p = some (.lst xs)) :
  ∃ (its : List Value) (n : Nat), Vals xs its ∧ s.heap.get? p = some { cls := .type "list", data := .seq its.toArray n } ∧ xs.length ≤ sizeLine := by
 obtain ⟨z, its, n, r, e⟩ := I.hok p _ h
 exact ⟨its, n, r, e, z⟩
theorem Inv.lstUpd {pins : List (Addr × Obj)} {σ : St} {H : Hp} {s : Shared} {p : Addr} {xs ys : List V} {its its' : List Value} {n n' : Nat} {f : Obj → Obj} (I : Inv X pins σ H s) (h : H p = some (.lst xs))
  (ho : s.heap.get? p = some { cls := .type "list", data := .seq its.toArray n }) (hf : f { cls := .type "list", data := .seq its.toArray n } = { cls := .type "list", data := .seq its'.toArray n' }) (r : Vals ys its') (hz : ys.length ≤ sizeLine) (t : Nat) :
  Inv X pins σ (upd H p (.lst ys)) { s with heap := s.heap.update p f, toks := t } := by
 have e : (s.heap.update p f).get? p = some { cls := .type "list", data := .seq its'.toArray n' } := by
  rw [Heap.get?_update_self f ho (by rw [hf] <;> rfl), hf]
 refine I.write (x := p) (e := p) (by rw [h]; trivial) (.inl rfl) (fun b u hb q => (Heap.get?_update_other _ _ (Ne.symm hb)).trans q) ⟨_, e⟩ ?_
 exact ⟨hz, its', n', r, e⟩
def zxq : V → V → V → Hp → (Hp → Prop) → Prop := fun o i v H Q => ∃ p xs k j, o = .ref p ∧ i = .int k ∧ H p = some (.lst xs) ∧ ixN xs.length k = some j ∧ Q (upd H p (.lst (xs.set j v)))
theorem zof : zx7 X zxq := by
 intro pins s σ H o i v ov iv u Q I ro ri rv h
 obtain ⟨p, xs, k, j, rfl, rfl, hp, hj, q⟩ := h
 cases ro
 obtain ⟨t, rfl⟩ := ri
 obtain ⟨aa, n, r, ho, hz⟩ := I.lst hp
 obtain ⟨h1, h2, h3, h4⟩ := zqn hj
 have hl := r.length
 have hn := zkg
 have I' : Inv X pins σ (upd H p (.lst (xs.set j v))) { s with heap := s.heap.update p (Obj.mapSeq (·.setIfInBounds j u)) } :=
  I.lstUpd hp ho (zpe aa n j u) (r.set rv j) (by rw [List.length_set]; exact hz) s.toks
 by_cases h0 : 0 ≤ k
 ·have hk : k.toNat = j := by
   rw [seqIndex_of h0 h4] at h1
   exact Option.some.inj h1
  exact PySem.W.ki_setAt ho h0 (by omega) (by rw [List.size_toArray, ← hl]; exact h4) (by rw [hk]; exact ⟨_, I', q⟩)
 ·have hk : (k + (aa.toArray.size : Int)).toNat = j := by
   rw [seqIndex_neg (by omega) h3] at h1
   rw [List.size_toArray, ← hl]
   exact Option.some.inj h1
  exact PySem.W.ki_setBack ho (by omega) (by rw [List.size_toArray, ← hl]; exact h3) (by omega) (by rw [hk]; exact ⟨_, I', q⟩)
def zh1 : V → Bool
 | .non => true
 | .bl _ => true
 | .int _ => true
 | .str _ => true
 | _ => false
def eqV : V → V → Bool
 | .non, .non => true
 | .bl a, .bl b => a == b
 | .bl a, .int b => (if a then 1 else 0) == b
 | .int a, .bl b => a == (if b then 1 else 0)
 | .int a, .int b => a == b
 | .str a, .str b => a == b
 | _, _ => false
theorem zwk {A : Around} {s : Shared} {y x : V} {u v : Value} (ry : RelV y u) (rx : RelV x v) (fy : zh1 y = true) (fx : zh1 x = true) : SeqAt.EqAt A s u v (eqV y x) := by
 cases y with
 | non =>
  cases ry
  cases x with
  | non => cases rx; exact SeqAt.EqAt.same _
  | bl b => cases rx; exact SeqAt.EqAt.none_bool b
  | int b => obtain ⟨t, rfl⟩ := rx; exact SeqAt.EqAt.none_int b t
  | str b => obtain ⟨t, rfl⟩ := rx; exact SeqAt.EqAt.none_str b t
  | _ => exact absurd (show false = true from fx) Bool.false_ne_true
 | bl a =>
  cases ry
  cases x with
  | non => cases rx; exact SeqAt.EqAt.bool_none a
  | bl b => cases rx; exact SeqAt.EqAt.bool_bool a b
  | int b => obtain ⟨t, rfl⟩ := rx; exact SeqAt.EqAt.bool_int a b t
  | str b => obtain ⟨t, rfl⟩ := rx; exact SeqAt.EqAt.bool_str a b t
  | _ => exact absurd (show false = true from fx) Bool.false_ne_true
 | int a =>
  obtain ⟨t', rfl⟩ := ry
  cases x with
  | non => cases rx; exact SeqAt.EqAt.int_none a t'
  | bl b => cases rx; exact SeqAt.EqAt.int_bool a t' b
  | int b => obtain ⟨t, rfl⟩ := rx; exact SeqAt.EqAt.int_int a t' b t
  | str b => obtain ⟨t, rfl⟩ := rx; exact SeqAt.EqAt.int_str a t' b t
  | _ => exact absurd (show false = true from fx) Bool.false_ne_true
 | str a =>
  obtain ⟨t', rfl⟩ := ry
  cases x with
  | non => cases rx; exact SeqAt.EqAt.str_none a t'
  | bl b => cases rx; exact SeqAt.EqAt.str_bool a t' b
  | int b => obtain ⟨t, rfl⟩ := rx; exact SeqAt.EqAt.str_int a t' b t
  | str b => obtain ⟨t, rfl⟩ := rx; exact SeqAt.EqAt.str_str a t' b t
  | _ => exact absurd (show false = true from fx) Bool.false_ne_true
 | _ => exact absurd (show false = true from fy) Bool.false_ne_true
def eqU (x : V) (u : Value) : Bool := match u with
 | .none => eqV .non x
 | .bool b => eqV (.bl b) x
 | .int i _ => eqV (.int i) x
 | .str z _ => eqV (.str z) x
 | _ => false
theorem ztj {x y : V} {u : Value} (r : RelV y u) (f : zh1 y = true) : eqU x u = eqV y x := by
 cases y with
 | non => cases r; rfl
 | bl b => cases r; rfl
 | int i => obtain ⟨t, rfl⟩ := r; rfl
 | str z => obtain ⟨t, rfl⟩ := r; rfl
 | _ => exact absurd (show false = true from f) Bool.false_ne_true
theorem zhr {x : V} : ∀ {xs : List V} {us : List Value}, Vals xs us → xs.all zh1 = true → us.any (eqU x) = xs.any fun y => eqV y x
 | _, _, .nil, _ => rfl
 | y :: xs, u :: us, .cons r t, f => by
  rw [List.all_cons, Bool.and_eq_true] at f
  rw [List.any_cons, List.any_cons, ztj r f.1, zhr t f.2]
theorem zgh {A : Around} {s : Shared} {x : V} {v : Value} (rx : RelV x v) (fx : zh1 x = true) : ∀ {xs : List V} {us : List Value}, Vals xs us → xs.all zh1 = true → ∀ u ∈ us, SeqAt.EqAt A s u v (eqU x u)
 | _, _, .nil, _ => fun u hu => by cases hu
 | y :: xs, u :: us, .cons r t, f => fun u' hu => by
  rw [List.all_cons, Bool.and_eq_true] at f
  rcases List.mem_cons.mp hu with rfl | hu
  ·rw [ztj r f.1]; exact zwk r rx f.1 fx
  ·exact zgh rx fx t f.2 u' hu
def inV (x : V) (xs : List V) : Bool := xs.any fun y => eqV y x
def rIn (K : PySem.W.Frag) (neg : Bool) : R2 := fun x y H Q => ∃ p xs, y = .ref p ∧ (SqL K H p xs ∨ SqT K H p xs) ∧ zh1 x = true ∧ xs.all zh1 = true ∧ Q (.bl (if neg then !inV x xs else inV x xs)) H
theorem zq2 : OpR X (compareOp .In) (rIn X.K false) := by
 intro pins s σ H x y v u Q I rx ry h
 obtain ⟨p, xs, rfl, hq, fx, fs, q⟩ := h
 cases ry
 rcases hq with hq | hq
 ·obtain ⟨aa, r, pl, hz⟩ := I.list hq
  refine SeqAt.in_listAt (eqU x) pl.isList (fun w hw => zgh rx fx r fs w (by simpa using hw)) ⟨.bl _, H, I, rfl, ?_⟩
  rw [show aa.toArray.any (eqU x) = aa.any (eqU x) by simp, zhr r fs]
  exact q
 ·obtain ⟨aa, r, pl, hz⟩ := I.tuple hq
  refine SeqAt.in_tupleAt (eqU x) pl (fun w hw => zgh rx fx r fs w (by simpa using hw)) ⟨.bl _, H, I, rfl, ?_⟩
  rw [show aa.toArray.any (eqU x) = aa.any (eqU x) by simp, zhr r fs]
  exact q
theorem zby : OpR X (compareOp .NotIn) (rIn X.K true) := by
 intro pins s σ H x y v u Q I rx ry h
 obtain ⟨p, xs, rfl, hq, fx, fs, q⟩ := h
 cases ry
 rcases hq with hq | hq
 ·obtain ⟨aa, r, pl, hz⟩ := I.list hq
  refine SeqAt.notIn_listAt (eqU x) pl.isList (fun w hw => zgh rx fx r fs w (by simpa using hw)) ⟨.bl _, H, I, rfl, ?_⟩
  rw [show aa.toArray.any (eqU x) = aa.any (eqU x) by simp, zhr r fs]
  exact q
 ·obtain ⟨aa, r, pl, hz⟩ := I.tuple hq
  refine SeqAt.notIn_tupleAt (eqU x) pl (fun w hw => zgh rx fx r fs w (by simpa using hw)) ⟨.bl _, H, I, rfl, ?_⟩
  rw [show aa.toArray.any (eqU x) = aa.any (eqU x) by simp, zhr r fs]
  exact q
theorem zm5 : zd8 X (.builtin "len") (fun xs H Q => ∃ p ys, xs = [.ref p] ∧ (SqL X.K H p ys ∨ SqT X.K H p ys) ∧ Q (.int ys.length) H) := by
 intro pins s σ H xs us Q I r h
 obtain ⟨p, ys, rfl, hq, q⟩ := h
 obtain ⟨u, rfl, rx⟩ := zgw r
 cases rx
 have hn := zkg
 rcases hq with hq | hq
 ·obtain ⟨ac, r', pl, hz⟩ := I.list hq
  have aa := r'.length
  exact Calls.call_len_list pl.isList (by simp only [List.size_toArray] <;> omega) ⟨.int ys.length, H, I.tok _, ⟨s.toks + 1, by rw [List.size_toArray, aa]⟩, q⟩
 ·obtain ⟨ac, r', pl, hz⟩ := I.tuple hq
  have aa := r'.length
  exact len_tuple pl (by simp only [List.size_toArray] <;> omega) ⟨.int ys.length, H, I.tok _, ⟨s.toks + 1, by rw [List.size_toArray, aa]⟩, q⟩
theorem zfi : zd8 X (.type "list") (fun xs H Q => ∃ p ys, xs = [.ref p] ∧ (SqL X.K H p ys ∨ SqT X.K H p ys) ∧ ∀ l, H l = none → Q (.ref l) (upd H l (.lst ys))) := by
 intro pins s σ H xs us Q I r h
 obtain ⟨p, ys, rfl, hq, q⟩ := h
 obtain ⟨u, rfl, rx⟩ := zgw r
 cases rx
 have ad : ∀ (aa : List Value), Vals ys aa → ys.length ≤ sizeLine → ∀ (h' : Heap) (c' : Nat), (∀ b o', s.heap.get? b = some o' → h'.get? b = some o') →
   h'.get? s.heap.objs.size = some { cls := .type "list", dict := none, data := .seq aa.toArray c', slots := #[] } → EP X pins σ Q (.ref s.heap.objs.size) { s with heap := h' } := fun aa r' hz h' c' kp e =>
  ⟨.ref s.heap.objs.size, _, I.laid (t' := s.toks) kp (Nat.le_refl _) (show ObjOk X.prog X.w _ h' _ (.lst ys) from ⟨hz, aa, c', r', e⟩), rfl, q _ (I.hok.fresh (Nat.le_refl _))⟩
 rcases hq with hq | hq
 ·obtain ⟨aa, r', pl, hz⟩ := I.list hq
  have ac := r'.length
  obtain ⟨o, ho, hc, n, hd⟩ := pl.isList
  exact call_list_seq p (.inl rfl) ho hc hd (fun h' c' kp e => ad aa r' hz h' c' kp e) (by simp only [List.size_toArray] <;> omega)
 ·obtain ⟨aa, r', pl, hz⟩ := I.tuple hq
  have ac := r'.length
  obtain ⟨o, ho, hc, n, hd⟩ := pl
  exact call_list_seq p (.inr rfl) ho hc hd (fun h' c' kp e => ad aa r' hz h' c' kp e) (by simp only [List.size_toArray] <;> omega)
theorem zc9 : zd8 X (.type "tuple") (fun xs H Q => ∃ p ys, xs = [.ref p] ∧ ((SqL X.K H p ys ∧ ∀ l, H l = none → Q (.ref l) (upd H l (.tup ys))) ∨ (SqT X.K H p ys ∧ Q (.ref p) H))) := by
 intro pins s σ H xs us Q I r h
 obtain ⟨p, ys, rfl, h⟩ := h
 obtain ⟨u, rfl, rx⟩ := zgw r
 cases rx
 rcases h with ⟨hq, q⟩ | ⟨hq, q⟩
 ·obtain ⟨aa, r', pl, hz⟩ := I.list hq
  have ac := r'.length
  refine call_tuple_list pl.isList (fun h' kp => ?_) (by simp only [List.size_toArray] <;> omega)
  have I1 : Inv X pins σ H { s with heap := h' } := I.kept (t' := s.toks) kp
  have I2 : Inv X pins σ (upd H h'.objs.size (.tup ys)) { s with heap := h'.push { cls := .type "tuple", data := .seq aa.toArray } } :=
   I1.laid (t' := s.toks) (fun b o e => Heap.get?_push_of_some _ e) (Nat.le_refl _) (show ObjOk X.prog X.w _ _ _ (.tup ys) from ⟨hz, aa, r', IsTup.new _ _⟩)
  exact ⟨.ref h'.objs.size, _, I2, rfl, q _ (I1.hok.fresh (Nat.le_refl _))⟩
 ·obtain ⟨aa, r', pl, hz⟩ := I.tuple hq
  exact call_tuple_same pl ⟨.ref p, H, I, rfl, q⟩
def tyV (K : PySem.W.Frag) (T : String) (x : V) (H : Hp) : Prop := match x with
 | .str _ => T = "str"
 | .int _ => T = "int"
 | .ref p => (T = "list" ∧ ∃ xs, SqL K H p xs) ∨ (T = "tuple" ∧ ∃ o, K.lookup p = some o ∧ o.cls = .type "tuple" ∧ o.dict = none) ∨
   (T = "dict" ∧ ((∃ kvs, H p = some (.dK kvs)) ∨ ∃ kvs, H p = some (.dT kvs))) ∨ (T = "set" ∧ ∃ S n, H p = some (.set S n))
 | _ => False
theorem zwt {pins : List (Addr × Obj)} {σ : St} {H : Hp} {s : Shared} {T : String} {x : V} {v : Value} (I : Inv X pins σ H s) (r : RelV x v) (ty : tyV X.K T x H) :
  s.TypeIs v T ∧ ∀ a, v = .ref a → ∃ ob, s.heap.get? a = some ob ∧ ob.dict = none := by
 cases x with
 | str z =>
  obtain ⟨t, rfl⟩ := r
  cases (show T = "str" from ty)
  exact ⟨typeIs_str s z t, fun _ e => nomatch e⟩
 | int i =>
  obtain ⟨t, rfl⟩ := r
  cases (show T = "int" from ty)
  exact ⟨typeIs_int s i t, fun _ e => nomatch e⟩
 | ref p =>
  cases r
  rcases ty with ⟨rfl, xs, hq⟩ | ⟨rfl, o, hk, hc, hd⟩ | ⟨rfl, hk⟩ | ⟨rfl, S, n, hk⟩
  ·obtain ⟨aa, _, pl, _⟩ := I.list hq
   refine ⟨pl.isList.typeIs, fun a e => ?_⟩
   cases e
   obtain ⟨o, n, e, c, hd, _⟩ := pl
   exact ⟨o, e, hd⟩
  ·refine ⟨⟨o, I.kIn p o hk, hc⟩, fun a e => ?_⟩
   cases e
   exact ⟨o, I.kIn _ o hk, hd⟩
  ·have z : ∃ o, s.heap.get? p = some o ∧ o.ExactDict := by
    rcases hk with ⟨kvs, hk⟩ | ⟨kvs, hk⟩
    ·obtain ⟨_, _, _, _, o, _, _, e, ex, _⟩ := I.hok p _ hk
     exact ⟨o, e, ex⟩
    ·obtain ⟨_, _, _, _, o, _, _, e, ex, _⟩ := I.hok p _ hk
     exact ⟨o, e, ex⟩
   obtain ⟨o, e, ex⟩ := z
   refine ⟨⟨o, e, ex.1⟩, fun a e2 => ?_⟩
   cases e2
   exact ⟨o, e, ex.2.1⟩
  ·obtain ⟨o, _, _, _, e, ex, _⟩ := I.hok p _ hk
   refine ⟨⟨o, e, ex.1⟩, fun a e2 => ?_⟩
   cases e2
   exact ⟨o, e, ex.2.1⟩
 | _ => exact False.elim ty
def tBM (K : PySem.W.Frag) (T : String) (r : V → List V → Hp → VK → Prop) (to : TE) (t : TA) : TE := fun σ H Q => to σ H fun x H1 => tyV K T x H1 ∧ t σ H1 fun xs H2 => r x xs H2 Q
variable {o e : Expr} {es : List Expr} {to : TE} {t : TA} {name : Str} {apos cpos : Pos} {T id : String} {r : V → List V → Hp → VK → Prop}
theorem zxw (pa : PlainAttrs T) (slot : Slot T name id) (hty : typeOf (.builtin id) = pure (.type "method_descriptor")) (hm : MtR X id r) (ho : PE X o to) (ha : PA X (e :: es) t)
  (hbase : attributeBase o name X.env (eval o X.env) = eval o X.env := by rfl)
  (hfew : ((backTo cpos (starEach (e :: es) X.env)).all (fun x => !x.1) && (backToKw cpos (keywordEach [] X.env)).all (fun x => x.1.isSome)
   && decide ((e :: es).length + ([] : List Keyword).length + (if ([] : List Keyword).isEmpty then 0 else 1) < 30)) = true := by rfl)
  (hline : (apos.endLine == cpos.line) = true := by rfl) (hs : starEach (e :: es) X.env = (false, eval e X.env) :: starEach es X.env := by rfl) (hplain : (backTo cpos (starEach es X.env)).any (·.1) = false := by rfl) :
  PE X (.Call (.Attribute o name apos) (e :: es) [] cpos) (tBM X.K T r to t) := by
 intro pins s σ H Q I h
 refine wpAny_Call_method_late hbase hfew hline rfl (thn (ho pins s σ H _ I h) fun v s1 ⟨x, H1, I1, r1, ty, q1⟩ => ?_)
 obtain ⟨h1, h2⟩ := zwt I1 r1 ty
 refine ⟨T, id, pa, slot, hty, h1, h2, ?_⟩
 have hA := ha cpos pins s1 σ H1 _ I1 q1
 rw [hs] at hA ⊢
 refine Calls.callWith_builtin (by show (false || (backTo cpos (starEach es X.env)).any (·.1)) = false; rw [hplain] <;> rfl) (Calls.evalArgs_plain ?_)
 exact thn hA fun us s2 ⟨vs, H2, I2, r2, q2⟩ => hm pins s2 σ H2 x vs v us Q I2 r1 r2 q2
end
def MtM (X : Cx) (id : String) (r : V → List V → Hp → VK → Prop) : Prop :=
 ∀ (pins : List (Addr × Obj)) (s : Shared) (σ : St) (H : Hp) (x : V) (xs : List V) (v : Value) (us : List Value) (Q : VK), Inv X pins σ H s → RelV x v → Vals xs us → r x xs H Q →
  wpAny (model X.prog X.w) X.A (call (.builtin id) (v :: us)) (EP X pins σ Q) X.xe s
theorem Vals.one : ∀ {x : V} {us : List Value}, Vals [x] us → ∃ u, us = [u] ∧ RelV x u
 | _, _, .cons r .nil => ⟨_, rfl, r⟩
section
variable {X : Cx} {pins : List (Addr × Obj)} {σ : St} {H : Hp} {s : Shared} {l b : Addr} {xs ys zs : List V}
theorem Inv.lset {its its' : List Value} {n : Nat} {f : Array Value → Array Value} {t' : Nat} (I : Inv X pins σ H s) (hH : H l = some (.lst xs))
  (e : s.heap.get? l = some { cls := .type "list", data := .seq its.toArray n }) (hf : f its.toArray = its'.toArray) (hv : Vals ys its') (hz : ys.length ≤ sizeLine) :
  Inv X pins σ (upd H l (.lst ys)) { s with heap := s.heap.update l (Obj.mapSeq f), toks := t' } := by
 have q := PySem.IsL.update e f
 rw [hf] at q
 refine I.write (x := l) (e := l) (by rw [hH]; exact trivial) (.inl rfl) (fun b' u hb hu => (Heap.get?_update_other s.heap (Obj.mapSeq f) (Ne.symm hb)).trans hu) ⟨_, q⟩ ?_
 exact ⟨hz, its', _, hv, q⟩
theorem Inv.lnew {its : List Value} {t' : Nat} (I : Inv X pins σ H s) (hv : Vals ys its) (hz : ys.length ≤ sizeLine) :
  Inv X pins σ (upd H s.heap.objs.size (.lst ys)) { s with heap := s.heap.push { cls := .type "list", data := .seq its.toArray }, toks := t' } :=
 I.laid (fun _ _ q => Heap.get?_push_of_some _ q) (Nat.le_refl _) ⟨hz, its, 0, hv, Heap.get?_push_size _ rfl⟩
theorem Inv.fresh (I : Inv X pins σ H s) : H s.heap.objs.size = none := I.hok.fresh (Nat.le_refl _)
theorem Inv.lstM (I : Inv X pins σ H s) (hH : H l = some (.lst xs)) : xs.length ≤ sizeLine ∧ ∃ (its : List Value) (n : Nat), Vals xs its ∧ xs.length = its.length ∧ s.heap.get? l = some { cls := .type "list", data := .seq its.toArray n } := by
 obtain ⟨z, its, n, r, e⟩ := I.hok l _ hH
 exact ⟨z, its, n, r, r.length, e⟩
theorem zt8 {n : Nat} (h : n ≤ sizeLine) : Builtin.List.listTooLong n = false := by
 unfold Builtin.List.listTooLong
 exact decide_eq_false (by omega)
end
section
variable {X : Cx}
def zu8 : V → List V → Hp → VK → Prop := fun x vs H Q => ∃ l xs y, x = .ref l ∧ vs = [y] ∧ H l = some (.lst xs) ∧ xs.length < sizeLine ∧ Q .non (upd H l (.lst (xs ++ [y])))
theorem zcr : MtM X "list.append" zu8 := by
 intro pins s σ H x vs v us Q I rx rv h
 obtain ⟨l, xs, y, rfl, rfl, hH, hz, q⟩ := h
 cases rx
 obtain ⟨u, rfl, ru⟩ := rv.one
 obtain ⟨z, aa, n, r, hl, e⟩ := I.lstM hH
 refine call_meets F.slot_list_append ⟨_, e, rfl⟩ F.entry_list_append (F.args_list_append_2 _ _) (PySem.list_append l aa.toArray n u (by rw [List.size_toArray]; omega)) ⟨e, ?_⟩
 refine ⟨.non, _, I.lset (its' := aa ++ [u]) hH e (by simp) (r.append (.cons ru .nil)) ?_, rfl, q⟩
 rw [List.length_append, List.length_singleton]
 omega
def zvd : V → List V → Hp → VK → Prop := fun x vs H Q => ∃ l b xs zs, x = .ref l ∧ vs = [.ref b] ∧ H l = some (.lst xs) ∧ H b = some (.lst zs) ∧ xs.length + zs.length ≤ sizeLine ∧ Q .non (upd H l (.lst (xs ++ zs)))
theorem zrz : MtM X "list.extend" zvd := by
 intro pins s σ H x vs v us Q I rx rv h
 obtain ⟨l, b, xs, zs, rfl, rfl, hH, hB, hz, q⟩ := h
 cases rx
 obtain ⟨u, rfl, ru⟩ := rv.one
 cases ru
 obtain ⟨z, ad, n, r, hl, e⟩ := I.lstM hH
 obtain ⟨z2, aa, n2, r2, ae, e2⟩ := I.lstM hB
 have hsz : ad.toArray.size + aa.toArray.size ≤ sizeLine := by rw [List.size_toArray, List.size_toArray]; omega
 have ac : ¬ (!ad.toArray.isEmpty && Builtin.List.listTooLong (ad.toArray.size + aa.toArray.size)) = true := by
  rw [zt8 hsz, Bool.and_false]
  exact Bool.false_ne_true
 refine call_meets F.slot_list_extend ⟨_, e, rfl⟩ F.entry_list_extend (F.args_list_extend_2 _ _)
  (AutoSeq1.list_extend_list_list_0 l ad.toArray n b aa.toArray n2 ac (by rw [List.size_toArray]; omega) (by omega)) ⟨e, e2, ?_⟩
 refine ⟨.non, _, I.lset (its' := ad ++ aa) hH e (by simp) (r.append r2) ?_, rfl, q⟩
 rw [List.length_append]
 omega
def zy2 : R2 := fun x y H Q => ∃ l b xs zs, x = .ref l ∧ y = .ref b ∧ H l = some (.lst xs) ∧ H b = some (.lst zs) ∧ xs.length + zs.length ≤ sizeLine ∧ ∀ p, H p = none → Q (.ref p) (upd H p (.lst (xs ++ zs)))
theorem zea : OpR X (binaryOp .Add) zy2 := by
 intro pins s σ H x y v u Q I rx ry h
 obtain ⟨l, b, xs, zs, rfl, rfl, hH, hB, hz, q⟩ := h
 cases rx
 cases ry
 obtain ⟨z, ac, n, r, hl, e⟩ := I.lstM hH
 obtain ⟨z2, aa, n2, r2, ad, e2⟩ := I.lstM hB
 refine PySem.P.add_list e e2 ?_ (by rw [List.size_toArray, List.size_toArray]; omega)
 have ea : ac.toArray ++ aa.toArray = (ac ++ aa).toArray := by simp
 rw [ea]
 exact ⟨.ref _, _, I.lnew (t' := s.toks) (r.append r2) (by rw [List.length_append]; omega), rfl, q _ I.fresh⟩
end
section
variable {prog : Program} {w : World} {A : Around} {E : Value → Shared → Prop} {s : Shared}
set_option maxRecDepth 100000 in
end
end L2
namespace Att
open PySem PySem.W PySem.Calls PyProof.Rows
theorem zja {P : Params} {h : Heap} : ∀ (ns : List Int) (vs : List Value), WellAll P h vs (ns.map WData.int) → IntsAre vs ns := by
 intro ns
 induction ns with
 | nil =>
  intro vs w
  rw [List.map_nil] at w
  cases w
  exact .nil
 | cons n ns ih =>
  intro vs w
  rw [List.map_cons] at w
  cases w with
  | cons a b =>
   cases a
   exact .cons _ _ (ih _ b)
theorem zq7 {l : OpenLaw} {n : Nat} (hn : l.most = some n) {P : Params} {h : Heap} {args : List WData} {vals : List Value}
  (hpre : l.row.toRowW.claim.pre args = true) (hwl : WellAll P h vals args) :
  ∃ a vs ns, vals = [Value.ref a] ∧ args = [WData.list (ns.map WData.int)] ∧ h.get? a = some { cls := .type "list", data := .seq vs.toArray } ∧ IntsAre vs ns ∧ ns.length ≤ n := by
 have ac : WShape.hasAll [] args [.list .int] = true := (pre_splitW hpre).1
 have hc : l.pre.holds [] { args := args } = true := (pre_splitW hpre).2
 obtain ⟨d, r, rfl, h1, h2⟩ := hasAllW_cons ac
 obtain rfl := hasAllW_nil h2
 obtain ⟨xs, rfl, h3⟩ := hasW_list h1
 obtain ⟨ns, rfl⟩ := items_int h3
 have aa : ns.length ≤ n := by
  unfold OpenLaw.pre at hc
  have h4 : (WTm.not (.lt (.lit (.int (n : Int))) (.len (.arg 0)))).holds [] { args := [.list (ns.map .int)] } = true := by
   have h4 := (holds_andW hc).1
   rw [hn] at h4
   exact h4
  have h5 := condW_of h4 (w_not (w_lt w_lit (w_len_list (w_arg rfl))))
  rw [List.length_map] at h5
  refine Nat.le_of_not_lt fun q => ?_
  have q' : (n : Int) < ((ns.length : Nat) : Int) := by omega
  first
   | (rw [decide_eq_true q'] at h5; exact absurd h5 (by decide))
   | (simp at h5; omega)
 cases hwl with
 | cons w1 w2 =>
  cases w2
  cases w1 with
  | list ho hall => exact ⟨_, _, ns, rfl, rfl, ho, zja ns _ hall, aa⟩
theorem zqt (l : OpenLaw) (args : List WData) : l.row.toRowW.claim.post args (.bool true) args = true :=
 postW_of (r := l.row.toRowW) (X := (true == true))
  (show WShape.has [] (.bool true) .bool = true by first | rfl | decide | simp [WShape.has, WShape.arms, WShape.armsAll])
  (show (WTm.eq .res (.lit (.bool true))).value [] { args := args, res := some (.bool true), after := args } = some (.bool (true == true)) from w_eq_bool (w_res rfl) w_lit) rfl
theorem attach_call {l : OpenLaw} {n : Nat} {q : Program} {loose : List Str} {XP : (Str → Option Value) → Heap → Prop} {YP : World → Heap → Prop} {d : DefRec}
  (hn : l.most = some n) (hdf : d.params.defaults = [])
  (call : ∀ (w : World) (s₀ s₁ : Shared) (mg mb : Str → Option Value) (fa : Addr) (o : Obj) (pm cd doc : Value) (a : Addr) (vs : List Value) (ns : List Int),
   Ground q loose [] XP w s₀ mg mb s₁.heap → YP w s₁.heap →
   s₁.heap.get? fa = some o → o.data = .func (docDef d.name d.params d.body d.scope pm cd doc) → s₁.heap.CodeRec cd d.name → mg d.name = some (.ref fa) →
   s₁.heap.get? a = some { cls := .type "list", data := .seq vs.toArray } → IntsAre vs ns → ns.length ≤ n → s₁.gens = #[] →
   codeAny (model l.prog w) callerA (.call (.ref fa) ⟨[.ref a], []⟩) (fun r s' => r = .ok (.ret (.bool true)) ∧ OldK s₁.heap s'.heap ∧ s'.os = s₁.os ∧ AllBare s'.gens) s₁) :
  WalkO q loose XP YP l.row.toRowW d [] (fun f vs => PySem.call f vs) := by
 intro w s₀ s₁ mg mb G Y fa o pm cd doc dV kV ho hd aj hD ah hg args ag as ad af ak ai al
 obtain rfl : dV = .none := Dflts.none hD hdf
 obtain rfl : kV = .none := Dflts.noKw hD
 obtain ⟨a, vs, ns, rfl, rfl, ac, aa, ae⟩ := zq7 hn ad ai
 refine enter_call (codeAny_mono (call w s₀ s₁ mg mb fa o pm cd doc a vs ns G Y ho (fd_plain hd) aj ah ac aa ae hg) fun r s' hq => ?_)
 obtain ⟨rfl, h2, h3, h4⟩ := hq
 exact ⟨.inl ⟨.bool true, .bool true, [], rfl, fun _ => rfl, .bool true, zqt l _, fun _ => ⟨List.Pairwise.nil, fun _ hm => (nomatch hm)⟩⟩, h2, h3, h4⟩
end Att
namespace L2
open PySem PySem.Spec PyProof.Rows
theorem zls : ∀ {vs : List Value} {ns : List Int}, IntsAre vs ns → Vals (ns.map V.int) vs
 | _, _, .nil => .nil
 | _, _, .cons n t h => .cons ⟨t, rfl⟩ (zls h)
def zdq (s : Stmt) : Arguments := match s with
 | .FunctionDef _ a _ _ _ _ _ _ _ _ => a
 | _ => { posonlyargs := [], args := [], vararg := none, kwonlyargs := [], kw_defaults := [], kwarg := none, defaults := [] }
def za2 (s : Stmt) : List Stmt := match s with
 | .FunctionDef _ _ b _ _ _ _ _ _ _ => b
 | _ => []
def zah (s : Stmt) : Scope := match s with
 | .FunctionDef _ _ _ _ _ _ sc _ _ _ => sc
 | _ => { kind := .function, names := [], isGenerator := false, isCoroutine := false }
abbrev CX0 : CXT := fun _ _ _ _ _ _ => False
abbrev E0 : XK := fun _ _ _ => False
theorem zg3 {X : Cx} : zer CX0 X E0 := fun _ _ _ _ _ _ _ h => h.elim
structure Fun (K : PySem.W.Frag) (x qual : Str) (st : Stmt) (f : Addr) (fd : FuncData) : Prop where
 ex : ∃ (oc : Value) (od : Option Addr) (kV doc pm : Value) (an : Option Addr) (cdv ct : Value) (osl : Array (Option Value)),
  fd = PySem.W.fnOf x qual (zdq st) (za2 st) (zah st) .none kV doc pm an cdv ct ∧ K.lookup f = some ⟨oc, od, .func fd, osl⟩ ∧ PySem.W.codeIn K cdv qual = true
 kp : PySem.W.keepIn K (.ref f) = true
section
variable {P : Program} {w : World} {K : PySem.W.Frag} {mg : Str → Option Value} {base : Heap}
theorem Fun.ok {x qual : Str} {st : Stmt} {f : Addr} {fd : FuncData} {N ps : List Str} {k : Nat} {sp : Sp} (F : Fun K x qual st f fd) (S : zay N ps (zah st)) (len : ∀ vs H Q E, sp vs H Q E → vs.length = ps.length)
  (hbody : ∀ (cdv : Value) (A : Around) (outer : List Env) (s : Shared) (H : Hp) (vs : List V) (Q : VK) (E : XK), Room k (A.deeper (envOfC qual (zah st) s.heap.objs.size f cdv)) → sp vs H Q E →
   ∃ t, PSs (zb3 CX0 P w K mg base N qual (zah st) f cdv A outer s H E).nox (za2 st) t ∧ t { nx := fun _ H' => Q .non H', rt := Q } (zg4 N vs) H) : FnOk P w K mg base CX0 (k + 1) f fd ps sp := by
 obtain ⟨oc, od, kV, doc, pm, an, cdv, ct, osl, rfl, lk, aa⟩ := F.ex
 refine zsx lk aa S len fun A outer s H vs Q E hr ac => ?_
 obtain ⟨t, h, q⟩ := hbody cdv A outer s H vs Q E hr ac
 exact ⟨t, h.nox, q⟩
theorem Fun.binds {x qual : Str} {st : Stmt} {f : Addr} {fd : FuncData} {ps : List Str} (F : Fun K x qual st f fd)
  (h : ∀ (kV doc pm : Value) (an : Option Addr) (cdv ct : Value) (us : List Value), us.length = ps.length → bindArgs (PySem.W.fnOf x qual (zdq st) (za2 st) (zah st) .none kV doc pm an cdv ct) ⟨us, []⟩ = pure (ps.zip us)) : Binds K fd ps [] := by
 obtain ⟨oc, od, kV, doc, pm, an, cdv, ct, osl, rfl, lk, aa⟩ := F.ex
 exact .all (h kV doc pm an cdv ct)
theorem ztf {x qual : Str} {st : Stmt} {f : Addr} {oc : Value} {od an : Option Addr} {osl : Array (Option Value)} {kV doc pm cdv ct : Value} (l : K.lookup f = some ⟨oc, od, .func (PySem.W.fnOf x qual (zdq st) (za2 st) (zah st) .none kV doc pm an cdv ct), osl⟩)
  (c : PySem.W.codeIn K cdv qual = true) (k : PySem.W.keepIn K (.ref f) = true) : Fun K x qual st f (PySem.W.fnOf x qual (zdq st) (za2 st) (zah st) .none kV doc pm an cdv ct) := ⟨⟨oc, od, kV, doc, pm, an, cdv, ct, osl, rfl, l, c⟩, k⟩
end
theorem zbd {n : Nat} (h : n ≤ 1000) : n < sizeLine := Nat.lt_of_le_of_lt h (by decide)
section
variable {X : Cx}
theorem pv (i : Nat) {x : Str} {pos : Pos} (hN : X.N[i]? = some x := by rfl) (hv : Vis X.env.scope x := by first | exact Or.inl rfl | exact Or.inr (Or.inl rfl) | exact Or.inr (Or.inr rfl)) (hd : (x == ("__debug__" : Str)) = false := by decide)
  (hcd : (x == ("__classdict__" : Str)) = false := by decide) : PE X (.Name x pos) (zxg i) := zoz hN hv hd hcd
end
theorem zd1 {A B : Prop} (h : B) : if false = true then A else B := by
 rw [if_neg Bool.false_ne_true]
 exact h
theorem zll {A B : Prop} (h : A) : if true = true then A else B := by
 rw [if_pos rfl]
 exact h
theorem zci {c A B : Prop} [Decidable c] (h1 : c → A) (h2 : ¬ c → B) : if c then A else B := by
 by_cases h : c
 ·rw [if_pos h]
  exact h1 h
 ·rw [if_neg h]
  exact h2 h
theorem zcq {c A B : Prop} [Decidable c] (hc : c) (h : B) : if (!decide c) = true then A else B := by
 rw [decide_eq_true hc]
 exact zd1 h
def zfq (c : Addr) : Heap → Prop := fun h => ∃ (o : Obj) (vs : Array Value) (q : Str) (t : Nat), h.get? c = some o ∧ o.data = .fields vs ∧ vs[1]? = some (.str q t)
def zcp (H : Hp) (P : Addr) : Prop := ∃ ps : Array Value, H P = some (.tbl ps) ∧ TriplesOk ps.toList ∧ ∀ pos : Pos, codeAmong pos ps.toList = none ∨ ∃ c : Addr, codeAmong pos ps.toList = some (.ref c) ∧ H c = some (.ext (zfq c))
def Kp (H H' : Hp) (b : Addr) : HO → Prop
 | .tbl _ => (∃ ps, H' b = some (.tbl ps)) ∧ (zcp H b → zcp H' b)
 | o => H' b = some o
def Same (H H' : Hp) : Prop := ∀ b o, H b = some o → Kp H H' b o
theorem Kp.of {H H' : Hp} {b : Addr} {o : HO} (h : H b = some o) (e : H' b = some o) (hc : ∀ c, H c = some (.ext (zfq c)) → H' c = some (.ext (zfq c))) : Kp H H' b o := by
 cases o
 case tbl ps =>
  refine ⟨⟨ps, e⟩, fun ⟨qs, hq, tr, hp⟩ => ?_⟩
  rw [h] at hq
  cases hq
  exact ⟨_, e, tr, fun pos => (hp pos).imp id fun ⟨c, z1, z2⟩ => ⟨c, z1, hc c z2⟩⟩
 all_goals exact e
theorem zmo {H H' : Hp} (h : ∀ b o, H b = some o → H' b = some o) : Same H H' := fun b o e => Kp.of e (h b o e) fun c z => h c _ z
theorem Same.refl (H : Hp) : Same H H := zmo fun _ _ h => h
theorem Same.trans {H H1 H2 : Hp} (a : Same H H1) (b : Same H1 H2) : Same H H2 := fun c o h => by
 have z := a c o h
 cases o
 case tbl ps =>
  obtain ⟨⟨qs, hq⟩, k⟩ := z
  obtain ⟨q2, k2⟩ := b c _ hq
  exact ⟨q2, fun t => k2 (k t)⟩
 all_goals exact b c _ z
theorem Kp.some {H H' : Hp} {b : Addr} {o : HO} (k : Kp H H' b o) : ∃ u, H' b = some u := by
 cases o
 case tbl ps => exact ⟨_, k.1.choose_spec⟩
 all_goals exact ⟨_, k⟩
theorem Same.free {H H' : Hp} (e : Same H H') {l : Addr} (h : H' l = Option.none) : H l = Option.none := by
 cases q : H l with
 | none => rfl
 | some o =>
  obtain ⟨u, z⟩ := (e l o q).some
  rw [z] at h
  cases h
theorem Same.tab {H H' : Hp} {P : Addr} (e : Same H H') (t : zcp H P) : zcp H' P := by
 obtain ⟨ps, h, _⟩ := id t
 exact (e _ _ h).2 t
theorem zj0 {pos pos' : Pos} {c : Value} (l : List Value) (h : TriplesOk l) : codeAmong pos (l ++ [rawInt pos'.line, rawInt pos'.col, c]) = codeAmong pos l ∨ codeAmong pos (l ++ [rawInt pos'.line, rawInt pos'.col, c]) = some c := by
 fun_induction TriplesOk l with
 | case1 =>
  by_cases hc : ((pos'.line : Int) == (pos.line : Int) && (pos'.col : Int) == (pos.col : Int)) = true
  ·exact .inr (by simp only [List.nil_append, codeAmong, rawInt]; rw [if_pos hc])
  ·exact .inl (by simp only [List.nil_append, codeAmong, rawInt]; rw [if_neg hc])
 | case2 a t b u x rest ih =>
  simp only [List.cons_append, codeAmong]
  split
  ·exact .inl rfl
  ·exact ih h
 | case3 => exact h.elim
theorem zlx {α β : Type} (g : α → β → β) {f : α → β → Sem (ForInStep β)} : ∀ (l : List α) (b : β), (∀ x ∈ l, ∀ c, f x c = pure (ForInStep.yield (g x c))) →
  forIn l b f = (pure (l.foldl (fun c x => g x c) b) : Sem β)
 | [], b, _ => by simp only [List.forIn_nil, List.foldl_nil]
 | x :: r, b, h => by
  rw [List.forIn_cons, h x List.mem_cons_self b, pure_bind]
  exact zlx g r (g x b) fun y hy c => h y (List.mem_cons_of_mem _ hy) c
def zfh (sc : Scope) (env : Env) : List (Str × Addr) :=
 sc.names.foldl (fun cs y => if (y.2 == NameKind.free) = true then (y.1, (env.cells.lookup y.1).getD 0) :: cs else cs) []
theorem zql {sc : Scope} {env : Env} (h : ∀ y ∈ sc.names, y.2 = .free → ∃ c, env.cells.lookup y.1 = some c) : closureFor sc env = pure (zfh sc env) := by
 simp only [closureFor]
 rw [zlx (fun (y : Str × NameKind) (cs : List (Str × Addr)) => if (y.2 == NameKind.free) = true then (y.1, (env.cells.lookup y.1).getD 0) :: cs else cs) sc.names [] (fun y hy c => by
  obtain ⟨n, k⟩ := y
  by_cases hk : k = .free
  ·obtain ⟨a, ha⟩ := h _ hy hk
   subst hk
   simp only [cellOf, ha, beq_self_eq_true, if_true, pure_bind, Option.getD_some]
  ·have z : (k == NameKind.free) = false := by simpa using hk
   simp only [z, Bool.false_eq_true, if_false])]
 rfl
theorem zmf {α β : Type} {P : β → Prop} {g : α → List β → List β} : ∀ (l : List α) (b : List β), (∀ p ∈ b, P p) → (∀ x ∈ l, ∀ c, (∀ p ∈ c, P p) → ∀ p ∈ g x c, P p) → ∀ p ∈ l.foldl (fun c x => g x c) b, P p
 | [], b, hb, _ => hb
 | x :: r, b, hb, h => zmf r (g x b) (h x List.mem_cons_self b hb) fun y hy => h y (List.mem_cons_of_mem _ hy)
theorem zse {sc : Scope} {env : Env} (h : ∀ y ∈ sc.names, y.2 = .free → ∃ c, env.cells.lookup y.1 = some c) : ∀ p ∈ zfh sc env, env.cells.lookup p.1 = some p.2 := by
 refine zmf (P := fun p : Str × Addr => env.cells.lookup p.1 = some p.2) sc.names [] (fun _ z => nomatch z) fun y hy c hc p hp => ?_
 by_cases hk : y.2 = .free
 ·have z : (y.2 == NameKind.free) = true := by simpa using hk
  rw [if_pos z] at hp
  rcases List.mem_cons.mp hp with e | hp
  ·obtain ⟨a, ha⟩ := h y hy hk
   rw [e]
   show env.cells.lookup y.1 = some ((env.cells.lookup y.1).getD 0)
   rw [ha]
   rfl
  ·exact hc p hp
 ·have z : ¬ (y.2 == NameKind.free) = true := by simpa using hk
  rw [if_neg z] at hp
  exact hc p hp
theorem zkk {α β : Type} {q : β} {g : α → List β → List β} (hg : ∀ x c, q ∈ c → q ∈ g x c) : ∀ (l : List α) (b : List β), q ∈ b → q ∈ l.foldl (fun c x => g x c) b
 | [], _, hb => hb
 | x :: r, b, hb => zkk hg r (g x b) (hg x b hb)
theorem zsa {sc : Scope} {env : Env} {x : Str} {c : Addr} (hx : (x, NameKind.free) ∈ sc.names) (hc : env.cells.lookup x = some c) : (x, c) ∈ zfh sc env := by
 have kp : ∀ (y : Str × NameKind) (cs : List (Str × Addr)), (x, c) ∈ cs → (x, c) ∈ (if (y.2 == NameKind.free) = true then (y.1, (env.cells.lookup y.1).getD 0) :: cs else cs) := fun y cs h => by
  by_cases z : (y.2 == NameKind.free) = true
  ·rw [if_pos z]
   exact List.mem_cons_of_mem _ h
  ·rw [if_neg z]
   exact h
 unfold zfh
 obtain ⟨l1, l2, e⟩ := List.append_of_mem hx
 rw [e, List.foldl_append, List.foldl_cons]
 refine zkk (g := fun (y : Str × NameKind) (cs : List (Str × Addr)) => if (y.2 == NameKind.free) = true then (y.1, (env.cells.lookup y.1).getD 0) :: cs else cs) kp l2 _ ?_
 rw [if_pos (by simp)]
 rw [hc]
 exact List.mem_cons_self
theorem zgd {β : Type} {x : Str} {b : β} : ∀ {l : List (Str × β)}, (x, b) ∈ l → ∃ c, l.lookup x = some c
 | [], h => nomatch h
 | (y, d) :: r, h => by
  by_cases e : x = y
  ·subst e
   exact ⟨d, by rw [List.lookup_cons_self]⟩
  ·have z : (x == y) = false := by simpa using e
   rcases List.mem_cons.mp h with q | q
   ·cases q
    exact absurd rfl e
   ·obtain ⟨c, hc⟩ := zgd q
    exact ⟨c, by rw [List.lookup_cons, z]; exact hc⟩
theorem zbm {sc : Scope} {env : Env} (h : ∀ y ∈ sc.names, y.2 = .free → ∃ c, env.cells.lookup y.1 = some c) {x : Str} {c : Addr} (e : (zfh sc env).lookup x = some c) : env.cells.lookup x = some c :=
 zse h _ (PySem.mem_of_lookup e)
theorem zgr {sc : Scope} {env : Env} (h : ∀ y ∈ sc.names, y.2 = .free → ∃ c, env.cells.lookup y.1 = some c) {x : Str} {c : Addr} (hx : (x, NameKind.free) ∈ sc.names) (hc : env.cells.lookup x = some c) : (zfh sc env).lookup x = some c := by
 obtain ⟨d, hd⟩ := zgd (zsa hx hc)
 have := zbm h hd
 rw [hc] at this
 cases this
 exact hd
def zpp (sc sc0 : Scope) : Scope :=
 { sc with names := sc.names.map fun (n, k) => if (k == .free && sc0.kind == .function && sc0.names.lookup n == some .cell) then (n, .cell) else (n, k) }
def zq9 (sc0 sc : Scope) (XN N' : List Str) (n : Nat) (kp : List Nat) : Bool :=
 decide (sc.kind = .function) && sc.names.all (fun y => decide (y.2 ≠ .cell)) && sc.names.all (fun y => decide (y.2 = .local → sc.names.lookup y.1 = some .local)) &&
 sc.names.all (fun y => decide (y.2 = .free → sc0.names.lookup y.1 = some .cell)) && decide (N'.length = n + kp.length) &&
 (List.range kp.length).all (fun i => match N'[n + i]?, kp[i]? with
  | some x, some j => decide (XN[j]? = some x ∧ (x, NameKind.free) ∈ sc.names ∧ ((zpp sc sc0).names.lookup x = some .cell ∨ (zpp sc sc0).names.lookup x = some .free))
  | _, _ => false)
theorem zj1 {sc0 sc : Scope} {XN N' : List Str} {n : Nat} {kp : List Nat} (h : zq9 sc0 sc XN N' n kp = true) :
  sc.kind = .function ∧ (∀ y ∈ sc.names, y.2 ≠ .cell) ∧ (∀ y ∈ sc.names, y.2 = .local → sc.names.lookup y.1 = some .local) ∧ (∀ y ∈ sc.names, y.2 = .free → sc0.names.lookup y.1 = some .cell) ∧ N'.length = n + kp.length ∧
  ∀ (i : Nat) (x : Str), N'[n + i]? = some x → ∃ j, kp[i]? = some j ∧ XN[j]? = some x ∧ (x, NameKind.free) ∈ sc.names ∧ ((zpp sc sc0).names.lookup x = some .cell ∨ (zpp sc sc0).names.lookup x = some .free) := by
 unfold zq9 at h
 simp only [Bool.and_eq_true, List.all_eq_true, decide_eq_true_eq] at h
 obtain ⟨⟨⟨⟨⟨h1, h2⟩, h3⟩, h4⟩, h5⟩, h6⟩ := h
 refine ⟨h1, h2, h3, h4, h5, fun i x hx => ?_⟩
 have hi : i < kp.length := by
  have := (List.getElem?_eq_some_iff.mp hx).1
  omega
 have q := h6 i (List.mem_range.mpr hi)
 rw [hx, List.getElem?_eq_getElem hi] at q
 exact ⟨kp[i], List.getElem?_eq_getElem hi, of_decide_eq_true q⟩
abbrev NoX : Value → Shared → Prop := fun _ _ => False
def blk (X : Cx) (N' : List Str) (sc : Scope) (C : Addr) (fp : List Addr) (pins : List (Addr × Obj)) (s : Shared) (H : Hp) : Cx :=
 { X with N := N', s₀ := s, H₀ := H, env := compEnvC sc (zfh sc X.env) C X.env, outer := X.stack, stack := X.stack, ex := fp, fn := fun _ => false, pn := X.pn ++ pins, xe := NoX }
abbrev zv2 (cs : List Expr) (env : Env) : Sem Bool := forIn cs true fun c r => if r = true then do let ok ← isTrue c env (eval c env); pure (ForInStep.yield ok) else pure (ForInStep.yield r)
def PTs (X : Cx) (cs : List Expr) (t : TT) : Prop :=
 ∀ (pins : List (Addr × Obj)) (s : Shared) (σ : St) (H : Hp) (Q : Bool → Hp → Prop), Inv X pins σ H s → t σ H Q → wpAny (model X.prog X.w) X.A (zv2 cs X.env) (TP X pins σ Q) X.xe s
def zyt : TT := fun _ H Q => Q true H
theorem zfe {X : Cx} : PTs X [] zyt := fun _ _ _ H _ I h => wpAny_tests_nil ⟨H, I, h⟩
theorem zcl {X : Cx} {c : Expr} {t : TT} (hc : PT X c t) : PTs X [c] t := fun pins s σ H Q I h => wpAny_tests_one (hc pins s σ H Q I h)
theorem zuz {prog : Program} {w : World} {A : Around} {R : Result → Shared → Prop} {elt tg iter : Expr} {cs : List Expr} {sc : Scope} {pos : Pos} {it acc : Value} {env : Env} (J : Nat → Shared → Prop)
  (turn : ∀ n s, J n s → wpAny (model prog w) A (pyNext it) (fun r s1 => match r with
   | none => R (.ok .next) s1
   | some v => wpAny (model prog w) A (letOwnedTupleGo tg it v) (fun _ s2 => wpAny (model prog w) A (assign tg env v) (fun _ s3 => wpAny (model prog w) A (zv2 cs env) (fun ok s4 =>
     if ok = true then wpAny (model prog w) A (eval elt env) (fun x s5 => wpAny (model prog w) A (call (.builtin "list.append") [acc, x]) (fun _ s6 => ∃ m, m < n ∧ J m s6) NoX s5) NoX s4
     else ∃ m, m < n ∧ J m s4) NoX s3) NoX s2) NoX s1) NoX s)
  (n : Nat) (s : Shared) (h : J n s) : codeAny (model prog w) A (.compLoop (.ListComp elt [⟨tg, iter, cs, 0⟩] sc pos) 0 it acc env) R s := by
 refine codeAny_loop rfl J (fun n s hJ => ?_) n h
 show wpAny _ A ((compTurn (.ListComp elt [⟨tg, iter, cs, 0⟩] sc pos) 0 it acc env).onRaise (fun x => do noteFrame x env; theTreesLotGoes x)) _ _ s
 refine wpAny_noted ?_
 rw [compTurn_list]
 have no : ∀ {E : Value → Shared → Prop} (e : Value) (z : Shared), NoX e z → E e z := fun _ _ f => f.elim
 refine wpAny_bind (wpAny_standAt (wpAny_bind (wpAny_mono (turn n s hJ) (fun r s1 h1 => ?_) no)))
 cases r with
 | none => exact wpAny_pure h1
 | some v =>
  refine wpAny_bind (wpAny_mono h1 (fun _ s2 h2 => ?_) no)
  refine wpAny_bind (wpAny_mono h2 (fun _ s3 h3 => ?_) no)
  refine wpAny_bind (wpAny_mono h3 (fun ok s4 h4 => ?_) no)
  cases ok with
  | false => exact wpAny_pure ⟨rfl, h4⟩
  | true =>
   exact wpAny_bind (wpAny_bind (wpAny_mono h4 (fun x s5 h5 => wpAny_bind (wpAny_mono h5 (fun _ s6 h6 => wpAny_pure (wpAny_pure ⟨rfl, h6⟩)) no)) no))
def zpt (J : It) (g : TG) (tc : TT) (te : TE) (σ0 : St) (H1 : Hp) (Q : VK) : Prop := ∃ W : Nat → Nat → List V → St → Hp → Prop,
  (∃ m, W 0 m [] σ0 H1) ∧ ∀ i m ys σ' H', W i m ys σ' H' → ys.length ≤ sizeLine ∧
    ((J.stop i H' ∧ ∀ p, H' p = none → Q (.ref p) (upd H' p (.lst ys))) ∨
     (J.go i H' ∧ ∃ N : List V → St → Hp → Prop, (∀ ys' σ2 H2, N ys' σ2 H2 → ∃ m', m' < m ∧ W (i + 1) m' ys' σ2 H2) ∧ ∀ x H2, J.yld i H' x H2 → g x σ' H2 fun σ3 H3 => tc σ3 H3 fun b H4 =>
       if b = true then te σ3 H4 fun v H5 => N (ys ++ [v]) σ3 H5 else N ys σ3 H4))
def tLc (n : Nat) (kp : List Nat) (wi : TI) (g : TG) (tc : TT) (te : TE) : TE := fun σ H Q => wi σ H fun J H1 => zpt J g tc te (List.replicate n none ++ kp.map fun j => (σ[j]?).join) H1 Q
theorem zuc {lo : Int} {k : Nat} {σ0 : St} {H : Hp} {g : TG} {tc : TT} {te : TE} {Q : VK} (Pv : Nat → List V → St → Hp → Prop) (h0 : Pv 0 [] σ0 H) (hz : ∀ i ys σ H, i ≤ k → Pv i ys σ H → ys.length ≤ sizeLine)
  (hs : ∀ i ys σ H, i < k → Pv i ys σ H → g (.int (lo + i)) σ H fun σ3 H3 => tc σ3 H3 fun b H4 => if b = true then te σ3 H4 fun v H5 => Pv (i + 1) (ys ++ [v]) σ3 H5 else Pv (i + 1) ys σ3 H4)
  (hd : ∀ ys σ H, Pv k ys σ H → ∀ p, H p = none → Q (.ref p) (upd H p (.lst ys))) :
  zpt (Itr lo k) g tc te σ0 H Q := by
 refine ⟨fun i m ys σ H => m = k - i ∧ i ≤ k ∧ Pv i ys σ H, ⟨k, by simp, Nat.zero_le _, h0⟩, ?_⟩
 rintro i m ys σ H ⟨rfl, hi, p⟩
 refine ⟨hz i ys σ H hi p, ?_⟩
 by_cases aa : i < k
 ·refine .inr ⟨aa, Pv (i + 1), fun ys' σ' H' p' => ⟨k - (i + 1), by omega, rfl, aa, p'⟩, fun x H' y => ?_⟩
  obtain ⟨e1, e2⟩ := y
  subst e1
  subst e2
  exact hs i ys σ _ aa p
 ·have e : i = k := by omega
  subst e
  exact .inl ⟨Nat.le_refl _, hd ys σ H p⟩
theorem zcc {K : PySem.W.Frag} {a : Addr} {xs : List V} {σ0 : St} {H : Hp} {g : TG} {tc : TT} {te : TE} {Q : VK} (Pv : Nat → List V → St → Hp → Prop) (h0 : Pv 0 [] σ0 H) (hz : ∀ i ys σ H, i ≤ xs.length → Pv i ys σ H → ys.length ≤ sizeLine)
  (hl : ∀ i ys σ H, i ≤ xs.length → Pv i ys σ H → SqL K H a xs)
  (hs : ∀ i x ys σ H, xs[i]? = some x → Pv i ys σ H → g x σ H fun σ3 H3 => tc σ3 H3 fun b H4 => if b = true then te σ3 H4 fun v H5 => Pv (i + 1) (ys ++ [v]) σ3 H5 else Pv (i + 1) ys σ3 H4)
  (hd : ∀ ys σ H, Pv xs.length ys σ H → ∀ p, H p = none → Q (.ref p) (upd H p (.lst ys))) :
  zpt (Itl K a) g tc te σ0 H Q := by
 refine ⟨fun i m ys σ H => m = xs.length - i ∧ i ≤ xs.length ∧ Pv i ys σ H, ⟨xs.length, by simp, Nat.zero_le _, h0⟩, ?_⟩
 rintro i m ys σ H ⟨rfl, hi, p⟩
 refine ⟨hz i ys σ H hi p, ?_⟩
 have q := hl i ys σ H hi p
 by_cases aa : i < xs.length
 ·refine .inr ⟨⟨xs, xs[i], q, by simp [aa]⟩, Pv (i + 1), fun ys' σ' H' p' => ⟨xs.length - (i + 1), by omega, rfl, aa, p'⟩, fun x H' y => ?_⟩
  obtain ⟨e, y⟩ := y
  subst e
  exact hs i x ys σ _ (y xs q) p
 ·have e : i = xs.length := by omega
  subst e
  exact .inl ⟨⟨xs, q, Nat.le_refl _⟩, hd ys σ H p⟩
theorem znf {K : PySem.W.Frag} {a : Addr} {xs : List V} {σ0 : St} {H : Hp} {g : TG} {tc : TT} {te : TE} {Q : VK} (Pv : Nat → List V → St → Hp → Prop) (h0 : Pv 0 [] σ0 H) (hz : ∀ i ys σ H, i ≤ xs.length → Pv i ys σ H → ys.length ≤ sizeLine)
  (hl : ∀ i ys σ H, i ≤ xs.length → Pv i ys σ H → SqT K H a xs)
  (hs : ∀ i x ys σ H, xs[i]? = some x → Pv i ys σ H → g x σ H fun σ3 H3 => tc σ3 H3 fun b H4 => if b = true then te σ3 H4 fun v H5 => Pv (i + 1) (ys ++ [v]) σ3 H5 else Pv (i + 1) ys σ3 H4)
  (hd : ∀ ys σ H, Pv xs.length ys σ H → ∀ p, H p = none → Q (.ref p) (upd H p (.lst ys))) :
  zpt (Itt K a) g tc te σ0 H Q := by
 refine ⟨fun i m ys σ H => m = xs.length - i ∧ i ≤ xs.length ∧ Pv i ys σ H, ⟨xs.length, by simp, Nat.zero_le _, h0⟩, ?_⟩
 rintro i m ys σ H ⟨rfl, hi, p⟩
 refine ⟨hz i ys σ H hi p, ?_⟩
 have q := hl i ys σ H hi p
 by_cases aa : i < xs.length
 ·refine .inr ⟨⟨xs, xs[i], q, by simp [aa]⟩, Pv (i + 1), fun ys' σ' H' p' => ⟨xs.length - (i + 1), by omega, rfl, aa, p'⟩, fun x H' y => ?_⟩
  obtain ⟨e, y⟩ := y
  subst e
  exact hs i x ys σ _ (y xs q) p
 ·have e : i = xs.length := by omega
  subst e
  exact .inl ⟨⟨xs, q, Nat.le_refl _⟩, hd ys σ H p⟩
section
variable {X : Cx} {tg iter elt : Expr} {cs : List Expr} {sc sc0 : Scope} {pos : Pos} {wi : TI} {g : TG} {tc : TT} {te : TE} {XN N' : List Str} {n : Nat} {kp : List Nat}
theorem zwl {pins : List (Addr × Obj)} {σ : St} {H : Hp} {s : Shared} {fp : List Addr} {C : Addr} (I : Inv X pins σ H s) (hk : sc.kind = .function) (hcell : ∀ y ∈ sc.names, y.2 ≠ .cell)
  (hfr : ∀ y ∈ sc.names, y.2 = .free → ∃ c, X.env.cells.lookup y.1 = some c) (hf : ∀ b ∈ fp, zi5 X pins H b) (hl : ∀ b ∈ fp, b < s.heap.objs.size) (hC : s.heap.objs.size ≤ C) : (blk X N' sc C fp pins s H).Ok where
 mod := I.ok.mod
 kind := hk
 glob := I.ok.glob
 blt := I.ok.blt
 above := hC
 inj := fun x y c h1 h2 => I.ok.inj x y c (zbm hfr h1) (zbm hfr h2)
 has := fun x hx => by
  have q : ∃ k, (x, k) ∈ sc.names ∧ k = .free := by
   have ac : (zpp sc X.env.scope).names.lookup x = some .cell ∨ (zpp sc X.env.scope).names.lookup x = some .free := hx
   have go : ∀ k, (zpp sc X.env.scope).names.lookup x = some k → (k = .cell ∨ k = .free) → (x, NameKind.free) ∈ sc.names := fun k e aa => by
    have hm := PySem.mem_of_lookup e
    obtain ⟨⟨y, ky⟩, hy, ey⟩ := List.mem_map.mp hm
    dsimp only at ey
    split at ey
    ·rename_i hc
     cases ey
     have z : ky = .free := by
      simp only [Bool.and_eq_true] at hc
      simpa using hc.1.1
     subst z
     exact hy
    ·cases ey
     rcases aa with z | z
     ·exact absurd z (hcell _ hy)
     ·subst z
      exact hy
   rcases ac with e | e
   ·exact ⟨_, go _ e (.inl rfl), rfl⟩
   ·exact ⟨_, go _ e (.inr rfl), rfl⟩
  obtain ⟨k, hm, rfl⟩ := q
  obtain ⟨c, hc⟩ := hfr _ hm rfl
  exact ⟨c, zgr hfr hm hc⟩
 cab := fun x c h => absurd h (by simp [blk])
 hd := I.ok.hd
 frames := I.ok.frames
 stk := .inl rfl
 exf := fun b hb => ⟨Nat.ne_of_lt (Nat.lt_of_lt_of_le (hl b hb) hC), fun x c e => (hf b hb).2.2.2.2.1 x c (zbm hfr e)⟩
 bs := I.bs
 bsz := Nat.le_trans I.ok.bsz I.sz
 noex := fun b o e hb => by
  rcases (hf b hb).2.2.2.1 with z | z
  ·exact I.ok.noex b o e z
  ·exact absurd (Nat.lt_of_lt_of_le (Heap.lt_size e) (Nat.le_trans I.ok.bsz z)) (Nat.lt_irrefl _)
 exfs := fun b hb z => by
  rcases List.mem_cons.mp (I.stkSub b z) with q | q
  ·exact (hf b hb).2.1 q
  ·exact (hf b hb).2.2.1 q
 funs := I.stack
 frf := I.stkFree
end
section
variable {X : Cx} {tg iter elt : Expr} {cs : List Expr} {sc sc0 : Scope} {pos : Pos} {wi : TI} {g : TG} {tc : TT} {te : TE} {XN N' : List Str} {n : Nat} {kp : List Nat}
theorem zr0 {pins : List (Addr × Obj)} {σ : St} {H : Hp} {s : Shared} {fp : List Addr} {C : Addr} {h1 : Heap} {tk : Nat} {m : Str → Option Value} (I : Inv X pins σ H s) (h0 : X.env.scope = sc0) (hN : X.N = XN) (ok : zq9 sc0 sc XN N' n kp = true)
  (hf : ∀ b ∈ fp, zi5 X pins H b) (hl : ∀ b ∈ fp, b < s.heap.objs.size) (hC : s.heap.objs.size ≤ C) (old : ∀ b o, s.heap.get? b = some o → h1.get? b = some o) (ns : h1.Ns C m) :
  Inv (blk X N' sc C fp pins s H) [] (List.replicate n none ++ kp.map fun j => (σ[j]?).join) H { s with heap := h1, toks := tk } := by
 obtain ⟨o1, o2, o3, o4, o5, o6⟩ := zj1 ok
 subst h0
 subst hN
 have aa : ∀ y ∈ sc.names, y.2 = .free → ∃ c, X.env.cells.lookup y.1 = some c := fun y hy e => I.ok.has y.1 (.inl (o4 y hy e))
 have ac : ∀ b, b < s.heap.objs.size → b ≠ C := fun b hb => Nat.ne_of_lt (Nat.lt_of_lt_of_le hb hC)
 refine ⟨zwl I o1 o2 aa hf hl hC, rfl, I.bare, Un.kept old, ⟨m, ns, fun i x v e1 e2 e3 => ?_⟩, fun x c e => ?_, I.hok.fresh hC, fun x c e => ?_, fun p hp => ?_, I.hok.kept old, ?_⟩
 ·have hi : n ≤ i := by
   by_cases z : n ≤ i
   ·exact z
   ·rw [List.getElem?_append_left (by rw [List.length_replicate]; omega), List.getElem?_replicate] at e2
    split at e2 <;> cases e2
  obtain ⟨j, rfl⟩ : ∃ j, i = n + j := ⟨i - n, by omega⟩
  obtain ⟨q, hq, hx, hm, af⟩ := o6 j x e1
  rw [List.getElem?_append_right (by rw [List.length_replicate]; omega), List.length_replicate, Nat.add_sub_cancel_left, List.getElem?_map, hq] at e2
  have e4 : (σ[q]?).join = some v := Option.some.inj e2
  have ag : σ[q]? = some (some v) := by
   cases z : σ[q]? with
   | none => rw [z] at e4; cases e4
   | some w => rw [z] at e4; cases e4; rfl
  obtain ⟨c, hc⟩ := aa _ hm rfl
  have kx : X.env.kindOf x = some .cell := o4 _ hm rfl
  obtain ⟨m', ai, ah⟩ := I.loc
  obtain ⟨u, r, lk⟩ := ah q x v hx ag (.inr (.inl kx))
  refine ⟨u, r, .inr ⟨af, c, zgr aa hm hc, ?_⟩⟩
  rcases lk with ⟨k, _⟩ | ⟨_, c', ad, hv⟩
  ·rw [kx] at k
   cases k
  ·rw [hc] at ad
   cases ad
   exact hv.keeps old
 ·obtain ⟨v, hv⟩ := I.cell x c (zbm aa e)
  exact ⟨v, hv.keeps old⟩
 ·exact I.freeC x c (zbm aa e)
 ·have ae : p ∈ X.pn ++ pins := by
   have : p ∈ (X.pn ++ pins) ++ ([] : List (Addr × Obj)) := hp
   rw [List.append_nil] at this
   exact this
  obtain ⟨q1, q2, q3, q4, q5⟩ := I.pin p ae
  refine ⟨old _ _ q1, q2, ac _ (Heap.lt_size q1), fun z => ?_, q5⟩
  rcases List.mem_cons.mp (I.stkSub _ z) with r | r
  ·exact q3 r
  ·exact q4 r
 ·show (List.replicate n none ++ kp.map fun j => (σ[j]?).join).length = N'.length
  rw [List.length_append, List.length_replicate, List.length_map, o5]
theorem ztt {pins : List (Addr × Obj)} {s : Shared} {σ : St} {H : Hp} {Q : VK} {use : Option (Value → Sem Unit)} {Qf : Value → Shared → Prop} (hc : X.calm = true) (hi : PI X tg iter wi) (h0 : X.env.scope = sc0) (hN : X.N = XN) (ok : zq9 sc0 sc XN N' n kp = true)
  (hg : ∀ C fp pins s H, PG (blk X N' sc C fp pins s H) tg g) (ht : ∀ C fp pins s H, PTs (blk X N' sc C fp pins s H) cs tc) (he : ∀ C fp pins s H, PE (blk X N' sc C fp pins s H) elt te) (hs : ∀ x, foldedSetIterable iter X.env x = pure x)
  (I : Inv X pins σ H s) (h : tLc n kp wi g tc te σ H Q)
  (fin : ∀ D C ys H' s', Inv X pins σ (upd H' D (.lst ys)) s' → (∃ m, s'.heap.Ns C m) → zi5 X pins (upd H' D (.lst ys)) C → Q (.ref D) (upd H' D (.lst ys)) → compPost (model X.prog X.w) X.A X.xe use Qf (.ref D) C (.ok .next) s') {pos' : Pos} :
  wpAny (model X.prog X.w) X.A (comprehension (.ListComp elt [⟨tg, iter, cs, 0⟩] sc pos) sc X.env pos' (newList []) false (firstIter [⟨tg, iter, cs, 0⟩] X.env) use) Qf X.xe s := by
 obtain ⟨o1, o2, o3, o4, o5, o6⟩ := zj1 ok
 have av : ∀ y ∈ sc.names, y.2 = .free → ∃ c, X.env.cells.lookup y.1 = some c := fun y hy e => I.ok.has y.1 (.inl (by rw [Env.kindOf, h0]; exact o4 y hy e))
 refine wpAny_comprehension_free (use := use) rfl hs (zql av) o1 o3 (thn (hi pins s σ H _ I h) fun v s1 h1 => thn h1 fun aK s2 h2 => ?_)
 obtain ⟨it, fp, tn, J, H2, rfl, I2, T, au, f2, W, ⟨m0, w0⟩, ar⟩ := h2
 have hl : ∀ b ∈ fp, b < s2.heap.objs.size := fun b hb => by
  obtain ⟨o, e, _⟩ := T.obj 0 _ au b hb
  exact Heap.lt_size e
 refine wpAny_newObj_type (wpAny_newFunctionEnv o2 (by intro y hy; simp at hy) (fun h1 am ah => ?_) o1)
 dsimp only at am ah ⊢
 generalize hG : s2.heap.push { cls := .type "list", dict := none, data := .seq ([] : List Value).toArray } = G at am ah ⊢
 have aL : G.objs.size = s2.heap.objs.size + 1 := by rw [← hG, Heap.size_push]
 have ae : s2.heap.objs.size ≤ G.objs.size := by omega
 have ag : s2.heap.objs.size ≠ G.objs.size := by omega
 have aq : ∀ b o, s2.heap.get? b = some o → h1.get? b = some o := fun b o e => by
  have lt := Heap.lt_size e
  exact ah.extBut b o (Nat.ne_of_lt (Nat.lt_of_lt_of_le lt ae)) (Heap.get?_push_of_some _ (hG ▸ Heap.get?_push_of_some _ e))
 have aF : h1.get? s2.heap.objs.size = some { cls := .type "list", data := .seq ([] : List Value).toArray 0 } :=
  ah.extBut _ _ ag (Heap.get?_push_of_some _ (hG ▸ Heap.get?_push_size _ rfl))
 have ai : H2 s2.heap.objs.size = none := I2.hok.fresh (Nat.le_refl _)
 have aJ : H2 G.objs.size = none := I2.hok.fresh ae
 have af : ∀ s3 : Shared, s3 = { s2 with heap := h1, toks := s2.toks + ([] : List (Str × Value)).length } →
   codeAny (model X.prog X.w) X.A (.compLoop (.ListComp elt [⟨tg, iter, cs, 0⟩] sc pos) 0 (.ref it) (.ref s2.heap.objs.size) (compEnvC sc (zfh sc X.env) G.objs.size X.env))
    (compPost (model X.prog X.w) X.A X.xe use Qf (.ref s2.heap.objs.size) G.objs.size) s3 := by
  rintro s3 rfl
  have I3 := zr0 (fp := fp) (C := G.objs.size) (h1 := h1) (tk := s2.toks + ([] : List (Str × Value)).length) I2 h0 hN ok f2 hl ae aq am
  have ac : ∀ {H' : Hp} {o : Obj}, (∀ b ∈ fp, H' b = none) → ∀ b ∈ fp, zi5 (blk X N' sc G.objs.size fp pins s2 H2) [(s2.heap.objs.size, o)] H' b := fun hn b hb => by
   have lt := hl b hb
   refine ⟨hn b hb, Nat.ne_of_lt (Nat.lt_of_lt_of_le lt ae), I3.ok.exfs b hb, .inl hb, (I3.ok.exf b hb).2, fun p hp => ?_⟩
   rcases List.mem_append.mp hp with z | z
   ·exact (f2 b hb).2.2.2.2.2 p z
   ·have e : p.1 = s2.heap.objs.size := by rw [List.mem_singleton.mp z]
    rw [e]
    exact Nat.ne_of_gt lt
  have ak : ∀ {σ' : St} {H' : Hp} {s' : Shared} {o : Obj}, Inv (blk X N' sc G.objs.size fp pins s2 H2) [] σ' H' s' → s'.heap.get? s2.heap.objs.size = some o → (∀ v, o.data ≠ .cell v) → H' s2.heap.objs.size = none →
    Inv (blk X N' sc G.objs.size fp pins s2 H2) [(s2.heap.objs.size, o)] σ' H' s' := fun {σ' H' s' o} J' e hd hn => J'.pins_of fun p hp => by
   rw [List.mem_singleton.mp hp]
   exact ⟨e, hn, ag, fun z => by
    rcases List.mem_cons.mp (I2.stkSub _ z) with r | r
    ·exact absurd I2.lt (by rw [← r]; exact Nat.lt_irrefl _)
    ·exact I2.nofs (Nat.le_refl _) r, hd⟩
  refine zuz (fun k s' => ∃ (i : Nat) (ys : List V) (aa : List Value) (c : Nat) (σ' : St) (H' : Hp), Inv (blk X N' sc G.objs.size fp pins s2 H2) [] σ' H' s' ∧ tn i s'.heap ∧ (∀ b ∈ fp, H' b = none) ∧
   s'.heap.get? s2.heap.objs.size = some { cls := .type "list", data := .seq aa.toArray c } ∧ Vals ys aa ∧ H' s2.heap.objs.size = none ∧ W i k ys σ' H') ?_ m0 _
   ⟨0, [], [], 0, _, H2, I3, T.keep _ _ _ au fun b _ o e => aq b o e, fun b hb => (f2 b hb).1, aF, .nil, ai, w0⟩
  rintro k s' ⟨i, ys, aa, c, σ', H', I', aw, ax, aD, hv, nD, w'⟩
  obtain ⟨hz, cases⟩ := ar i k ys σ' H' w'
  have az := ak I' aD (fun v => by intro z; cases z) nD
  rcases cases with ⟨ap, q⟩ | ⟨go, N, aA, step⟩
  ·refine thn (T.done (blk X N' sc G.objs.size fp pins s2 H2) rfl rfl rfl hc i _ s' σ' H' NoX az (ac ax) aw ap) fun r s4 ⟨hr, I4⟩ => ?_
   subst hr
   obtain ⟨e4, n4, _⟩ := I4.pin (s2.heap.objs.size, { cls := .type "list", data := .seq aa.toArray c }) (List.mem_append_right _ (List.mem_singleton.mpr rfl))
   have u4 : Un (frs X.stack) fp H2 H' s2.heap s4.heap := I4.base
   have aE : H' G.objs.size = none := I4.free
   obtain ⟨m4, aH, _⟩ := I4.loc
   have aG : ∀ b o, s2.heap.get? b = some o → b ≠ s2.heap.objs.size := fun b o e => Nat.ne_of_lt (Heap.lt_size e)
   have u5 : Un (frs X.stack) fp H2 (upd H' s2.heap.objs.size (.lst ys)) s2.heap s4.heap :=
    ⟨u4.keep, u4.slot, fun b o e nb hx => by rw [zak (aG b o e)]; exact u4.free b o e nb hx, u4.there, fun b xs e => by rw [zak (zam e ai)]; exact u4.tups b xs e,
     fun b o u e => by rw [zak (zam e ai)]; exact u4.frzs b o u e, fun b ps e => by rw [zak (zam e ai)]; exact u4.tbls b ps e⟩
   have aj : HOk X.prog X.w (upd H' s2.heap.objs.size (.lst ys)) s4.heap := fun a o e => by
    by_cases ea : a = s2.heap.objs.size
    ·subst ea
     rw [zac] at e
     cases e
     exact ⟨hz, aa, c, hv, e4⟩
    ·rw [zak ea] at e
     exact (I4.hok a o e).stay (fun _ _ _ q => q) (fun b q => by rw [zak (zam q nD)]; exact q) fun b xs q => by rw [zak (zam q nD)]; exact q
   have I5 : Inv X pins σ (upd H' s2.heap.objs.size (.lst ys)) s4 := I2.call' I4.os u5 aj I4.bare fun b hb => ⟨(f2 b hb).2.2.2.1, (f2 b hb).2.1, (f2 b hb).2.2.2.2.1, (f2 b hb).2.2.2.2.2⟩
   refine fin _ _ ys H' s4 I5 ⟨m4, aH⟩ (I2.fpOk ae ?_) (q _ nD)
   rw [zak (Ne.symm ag)]
   exact aE
  ·refine thn (T.item (blk X N' sc G.objs.size fp pins s2 H2) rfl rfl rfl hc i _ s' σ' H' NoX az (ac ax) aw go) fun r s4 ⟨u, hr, h4⟩ => ?_
   subst hr
   refine thn h4 fun _ s5 ⟨x, H5, I5, r5, y5, al, aI⟩ => ?_
   have aB := I5.pinned (ac aI) (T.obj _ _ al)
   refine thn (hg _ _ _ _ _ _ s5 σ' H5 x u _ aB r5 (step x H5 y5)) fun _ s6 ⟨σ6, H6, I6, q6⟩ => ?_
   refine thn (ht _ _ _ _ _ _ s6 σ6 H6 _ I6 q6) fun b s7 ⟨H7, I7, q7⟩ => ?_
   have ad : ∀ {s8 : Shared} {H8 : Hp} (m' : Nat), Inv (blk X N' sc G.objs.size fp pins s2 H2) ([(s2.heap.objs.size, { cls := .type "list", data := .seq aa.toArray c })] ++ zid fp s5.heap) σ6 H8 s8 →
     tn (i + 1) s8.heap ∧ (∀ b ∈ fp, H8 b = none) ∧ s8.heap.get? s2.heap.objs.size = some { cls := .type "list", data := .seq aa.toArray c } ∧ H8 s2.heap.objs.size = none := fun {s8 H8} m' I8 => by
    have pn : ∀ p ∈ [(s2.heap.objs.size, ({ cls := .type "list", data := .seq aa.toArray c } : Obj))] ++ zid fp s5.heap, s8.heap.get? p.1 = some p.2 ∧ H8 p.1 = none := fun p hp =>
     let ⟨a, b, _⟩ := I8.pin p (List.mem_append_right _ hp); ⟨a, b⟩
    refine ⟨T.keep _ _ _ al fun b hb o e => (pn (b, o) (List.mem_append_right _ (ze8 hb e))).1, fun b hb => ?_, pn _ (List.mem_append_left _ (List.mem_singleton.mpr rfl))⟩
    obtain ⟨o, e, _⟩ := T.obj _ _ al b hb
    exact (pn (b, o) (List.mem_append_right _ (ze8 hb e))).2
   have bare : ∀ {s8 : Shared} {H8 : Hp} {pl : List (Addr × Obj)}, Inv (blk X N' sc G.objs.size fp pins s2 H2) pl σ6 H8 s8 → Inv (blk X N' sc G.objs.size fp pins s2 H2) [] σ6 H8 s8 := fun I8 => I8.pins_of fun p hp => nomatch hp
   cases b with
   | false =>
    rw [if_neg Bool.false_ne_true] at q7 ⊢
    obtain ⟨m', lt, w7⟩ := aA _ _ _ q7
    obtain ⟨b1, b2, b3, b4⟩ := ad m' I7
    exact ⟨m', lt, i + 1, ys, aa, c, σ6, H7, bare I7, b1, b2, b3, hv, b4, w7⟩
   | true =>
    rw [if_pos rfl] at q7 ⊢
    refine thn (he _ _ _ _ _ _ s7 σ6 H7 _ I7 q7) fun y s8 ⟨yv, H8, I8, r8, q8⟩ => ?_
    obtain ⟨m', lt, w8⟩ := aA _ _ _ q8
    obtain ⟨b1, b2, b3, b4⟩ := ad m' I8
    have ao := hv.length
    refine append_at (hsz := by rw [List.size_toArray, ← ao]; exact hz) b3 fun h9 ay e9 => ?_
    have I9 : Inv (blk X N' sc G.objs.size fp pins s2 H2) [] σ6 H8 { s8 with heap := h9 } := (bare I8).turned (t' := s8.toks) (it := s2.heap.objs.size) (fun b o hb e => ay.extBut b o hb e) b4 ag (.inr (Nat.le_refl _))
     (fun x c e z => by
      obtain ⟨v, hv⟩ := I2.cell x c (zbm av e)
      exact absurd hv.lt (by rw [z]; exact Nat.lt_irrefl _))
     fun p hp z => by
      have aC : p ∈ X.pn ++ pins := by
       have : p ∈ (X.pn ++ pins) ++ ([] : List (Addr × Obj)) := hp
       rw [List.append_nil] at this
       exact this
      exact absurd (Heap.lt_size (I2.pin p aC).1) (by rw [z]; exact Nat.lt_irrefl _)
    refine ⟨m', lt, i + 1, ys ++ [yv], aa ++ [y], c + 1, σ6, H8, I9, T.keep _ _ _ b1 fun b hb o e => ay.extBut b o (Nat.ne_of_lt (hl b hb)) e, b2, ?_, hv.append (.cons r8 .nil), b4, w8⟩
    rw [e9]
    simp
 exact codeAny_compStart_list (af _ rfl) (T.self _ 0 _ _ _ (T.keep _ _ _ au fun b _ o e => aq b o e) (af _ rfl))
theorem zeo (hc : X.calm = true) (hi : PI X tg iter wi) (h0 : X.env.scope = sc0) (hN : X.N = XN) (ok : zq9 sc0 sc XN N' n kp = true)
  (hg : ∀ C fp pins s H, PG (blk X N' sc C fp pins s H) tg g) (ht : ∀ C fp pins s H, PTs (blk X N' sc C fp pins s H) cs tc) (he : ∀ C fp pins s H, PE (blk X N' sc C fp pins s H) elt te)
  (hs : ∀ x, foldedSetIterable iter X.env x = pure x := by intro _; rfl) : PE X (.ListComp elt [⟨tg, iter, cs, 0⟩] sc pos) (tLc n kp wi g tc te) := by
 intro pins s σ H Q I h
 rw [eval_ListComp]
 refine ztt hc hi h0 hN ok hg ht he hs I h fun D C ys H' s' I' ns fp q => ?_
 obtain ⟨m, hm⟩ := ns
 refine ⟨m, hm, fun h' sb => ⟨.ref D, _, ?_, rfl, q⟩⟩
 obtain ⟨f1, f2, f3, f4, f5, f6⟩ := fp
 exact I'.turned (t' := s'.toks) (it := C) (fun b o hb e => sb.extBut b o hb e) f1 f2 f4 f5 f6
end
section
variable {X : Cx} {tg iter elt : Expr} {cs : List Expr} {sc sc0 : Scope} {pos : Pos} {wi : TI} {g : TG} {tc : TT} {te : TE} {XN N' : List Str} {n : Nat} {kp : List Nat}
theorem zf6 {i : Nat} {y : Str} {py spos : Pos} (hNd : X.N.Nodup) (hiy : X.N[i]? = some y) (hy : X.env.scope.names.lookup y = some .local) (hsw : swapsWith (.ListComp elt [⟨tg, iter, cs, 0⟩] sc pos) (some (.Name y py)) spos.line X.env = pure true)
  (hc : X.calm = true) (hi : PI X tg iter wi) (h0 : X.env.scope = sc0) (hN : X.N = XN) (ok : zq9 sc0 sc XN N' n kp = true)
  (hg : ∀ C fp pins s H, PG (blk X N' sc C fp pins s H) tg g) (ht : ∀ C fp pins s H, PTs (blk X N' sc C fp pins s H) cs tc) (he : ∀ C fp pins s H, PE (blk X N' sc C fp pins s H) elt te)
  (hs : ∀ x, foldedSetIterable iter X.env x = pure x := by intro _; rfl) : PS X (.Assign [.Name y py] (.ListComp elt [⟨tg, iter, cs, 0⟩] sc pos) spos) (zwn (tLc n kp wi g tc te) (zqc i)) := by
 intro pins s σ H D I h
 rw [exec_Assign_Name_used _ _ _ _ hsw]
 refine wpAny_bind (wpAny_standAt (wpAny_bind ?_))
 have ac : wpAny (model X.prog X.w) X.A (comprehension (.ListComp elt [⟨tg, iter, cs, 0⟩] sc pos) sc X.env (firstIterPos [⟨tg, iter, cs, 0⟩] pos) (newList []) false (firstIter [⟨tg, iter, cs, 0⟩] X.env) (some (assign (.Name y py) X.env)))
   (fun _ s' => SP X pins D .next s') X.xe s := by
  refine ztt (Q := fun x H1 => zqc i x σ H1 D.nx) hc hi h0 hN ok hg ht he hs I h fun D' C ys H' s' I' ns fp q => ?_
  obtain ⟨m, hm⟩ := ns
  obtain ⟨f1, f2, f3, f4, f5, f6⟩ := fp
  obtain ⟨o, es, ep, ho, rest⟩ := id hm
  have nc : ∀ v, o.data ≠ .cell v := fun v z => by
   rw [rest.1] at z
   cases z
  have aa : Inv X (pins ++ [(C, o)]) σ (upd H' D' (.lst ys)) s' := I'.pins_of fun p hp => by
   rcases List.mem_append.mp hp with z | z
   ·exact I'.pin p (List.mem_append_right _ z)
   ·rw [List.mem_singleton.mp z]
    exact ⟨ho, f1, f2, f3, nc⟩
  show wpAny (model X.prog X.w) X.A (assign (.Name y py) X.env (.ref D')) _ X.xe s'
  refine thn (zaw hNd hiy (.inl hy) (.inr hy) _ s' σ _ (.ref D') (.ref D') D.nx aa rfl q) fun _ s'' ⟨σ3, H3, I3, q3⟩ => ?_
  obtain ⟨p1, p2, _⟩ := I3.pin (C, o) (List.mem_append_right _ (List.mem_append_right _ (List.mem_singleton.mpr rfl)))
  refine ⟨m, ⟨o, es, ep, p1, rest⟩, fun h' sb => ⟨σ3, H3, ?_, q3⟩⟩
  exact I3.unpinned.turned (t' := s''.toks) (it := C) (fun b o hb e => sb.extBut b o hb e) p2 f2 f4 f5 f6
 show wpAny (model X.prog X.w) X.A (comprehension _ _ _ _ _ _ _ _ >>= _) _ _ s
 exact wpAny_bind (thn ac fun _ s' q => wpAny_pure (wpAny_pure q))
end
section
variable {X : Cx}
def zog (T C : String) : Option Bool := if T = C then some true else if PySem.W.kitMeta C = true then (fastBuiltinMro T).map (·.contains (.type C)) else none
theorem zwd {K : PySem.W.Frag} {T C : String} {b : Bool} (h : zog T C = some b) : PySem.W.kitOne K (.type T) (.type C) = some b := by
 unfold zog at h
 unfold PySem.W.kitOne
 by_cases e : T = C
 ·subst e
  rw [if_pos rfl] at h
  rw [if_pos (beq_self_eq_true _)]
  exact h
 ·rw [if_neg e] at h
  have z : ¬ (Value.type T == Value.type C) = true := fun q => by
   have q' := eq_of_beq q
   injection q' with aa
   exact e aa
  rw [if_neg z]
  exact h
theorem zs8 : zd8 X (.builtin "isinstance") (fun xs H Q => ∃ (x : V) (T C : String) (b : Bool), xs = [x, .ty C] ∧ TyOf X.K H x (.type T) ∧ zog T C = some b ∧ Q (.bl b) H) := by
 intro pins s σ H xs us Q I r h
 obtain ⟨x, T, C, b, rfl, ty, e, q⟩ := h
 obtain ⟨u, w', rfl, rx, ry⟩ := zs1 r
 cases (show w' = Value.type C from ry)
 exact zqu I rx ty (zwd e) fun tk => ⟨.bl b, H, I.tok tk, rfl, q⟩
theorem zi8 : zog "tuple" "tuple" = some true := by decide +kernel
theorem zpm (hu : X.A.units + 64 < cLine) : OpR X (compareOp .NotEq) (fun x y H Q => ∃ (a b : Addr) (ns ms : List Int), x = .ref a ∧ y = .ref b ∧ SqL X.K H a (ns.map V.int) ∧ SqL X.K H b (ms.map V.int) ∧ Q (.bl (!decide (ns = ms))) H) := by
 intro pins s σ H x y v u Q I rx ry h
 obtain ⟨a, b, ns, ms, rfl, rfl, ha, hb, q⟩ := h
 cases rx
 cases ry
 obtain ⟨xs, rv, p, _⟩ := I.list ha
 obtain ⟨ys, aa, p', _⟩ := I.list hb
 exact PySem.W.ke_ne_ints p.isList p'.isList (zec rv) (zec aa) hu ⟨.bl _, H, I, rfl, q⟩
end
section
variable {prog : Program} {w : World} {A : Around} {E : Value → Shared → Prop} {s : Shared}
theorem zo9 {j q : Addr} {i : Nat} {its : Array Value} {x : Value} {Q : Value → Shared → Prop} (hj : s.heap.IsTupleIter j q i) (hq : s.heap.IsTuple q its) (hx : its[i]? = some x)
  (k : ∀ g, g.IsTupleIter j q (i + 1) → Heap.SameBut j s.heap g → Q x { s with heap := g }) : wpAny (model prog w) A (Builtin.SmallTypes.nextOf (.ref j)) Q E s := by
 obtain ⟨o, ho, oc, od⟩ := id hj
 obtain ⟨p, hp, _, m, pd⟩ := hq
 unfold Builtin.SmallTypes.nextOf
 refine wpAny_bind (wpAny_callSpecial?_slot (name := Str.ofString "__next__") hj.typeIs F.slot_tuple_iterator_next (wpAny_call_entry F.slot_tuple_iterator_next hj.typeIs F.entry_tuple_iterator_next ?_ (F.args_tuple_iterator_next_1 _)))
 show wpAny _ _ (field (.ref j) 0 >>= _) _ _ s
 refine wpAny_bind (wpAny_field ho od (x := .ref q) rfl ?_)
 show wpAny _ _ (if (Value.ref q == Value.none) = true then _ else _) _ _ s
 rw [if_neg (show ¬ ((Value.ref q == Value.none) = true) from Bool.false_ne_true)]
 show wpAny _ _ (field (.ref j) 1 >>= _) _ _ s
 refine wpAny_bind (wpAny_field ho od (x := .int i 0) rfl ?_)
 show wpAny _ _ (seqItems? (.ref q) >>= _) _ _ s
 refine wpAny_bind (wpAny_seqItems hp pd ?_)
 simp only [hx, Int.toNat_natCast]
 refine wpAny_bind (wpAny_setField ho od (by simp) (wpAny_pure ⟨x, rfl, wpAny_pure (k _ ⟨_, Heap.get?_update_self _ ho (Obj.isFreed_of_fields (Obj.data_mapFields od _)), (Obj.cls_mapFields ..).trans oc, ?_⟩ (Heap.SameBut.update ..))⟩))
 rw [Obj.data_mapFields od]
 simp [rawInt]
theorem zre {j q : Addr} {i : Nat} {its : Array Value} {Q : Value → Shared → Prop} (hh : A.handled = none) (hj : s.heap.IsTupleIter j q i) (hq : s.heap.IsTuple q its) (hx : its[i]? = none)
  (k : ∀ g e, Heap.ExtBut j s.heap g → (∃ o, g.get? e = some o ∧ o.cls = .type "StopIteration") → E (.ref e) { s with heap := g }) : wpAny (model prog w) A (Builtin.SmallTypes.nextOf (.ref j)) Q E s := by
 obtain ⟨o, ho, oc, od⟩ := id hj
 obtain ⟨p, hp, _, m, pd⟩ := hq
 unfold Builtin.SmallTypes.nextOf
 refine wpAny_bind (wpAny_callSpecial?_slot (name := Str.ofString "__next__") hj.typeIs F.slot_tuple_iterator_next (wpAny_call_entry F.slot_tuple_iterator_next hj.typeIs F.entry_tuple_iterator_next ?_ (F.args_tuple_iterator_next_1 _)))
 show wpAny _ _ (field (.ref j) 0 >>= _) _ _ s
 refine wpAny_bind (wpAny_field ho od (x := .ref q) rfl ?_)
 show wpAny _ _ (if (Value.ref q == Value.none) = true then _ else _) _ _ s
 rw [if_neg (show ¬ ((Value.ref q == Value.none) = true) from Bool.false_ne_true)]
 show wpAny _ _ (field (.ref j) 1 >>= _) _ _ s
 refine wpAny_bind (wpAny_field ho od (x := .int i 0) rfl ?_)
 show wpAny _ _ (seqItems? (.ref q) >>= _) _ _ s
 refine wpAny_bind (wpAny_seqItems hp pd ?_)
 simp only [hx, Int.toNat_natCast]
 refine wpAny_bind (wpAny_rule (wpAny_bind (wpAny_setField ho od (by simp) ?_)))
 show wpAny _ _ (newExc (.type "StopIteration") [] >>= _) _ _ _; refine wpAny_bind ?_; simp only [newExc, newTuple]
 refine wpAny_bind (wpAny_newObj_type ?_ (by size_fits)); refine wpAny_bind (m := firstArgMember _ _) (wpAny_of_eq (a := Value.none) (by first | rfl | (simp only [firstArgMember]; rfl)) ?_)
 refine wpAny_newObj_type ?_ (by size_fits); simp only [raiseNew]; refine wpAny_bind (wpAny_handled ?_); first | rw [show A.in1.handled = none from hh] | rw [hh]
 refine wpAny_bind (wpAny_pure (wpAny_throw ?_)); exact k _ _ (((Heap.SameBut.update ..).extBut.push _).push _) ⟨_, Heap.get?_push_size _ rfl, rfl⟩
theorem zqx (hh : A.handled = none) (j q : Addr) (hne : q ≠ j) (its : Array Value) : Draws prog w A j [j, q] its.size (fun i v => its[i]? = some v) (fun i h => h.IsTupleIter j q i ∧ h.IsTuple q its) where
 live := fun _ _ st => let ⟨o, ho, _⟩ := st.1; ⟨o, ho⟩
 frame := fun _ _ _ st hk => ⟨st.1.at fun o e => hk j (by simp) o e, let ⟨o, e, r⟩ := st.2; ⟨o, hk q (by simp) o e, r⟩⟩
 item := fun i s Q E hi st hQ => zo9 st.1 st.2 (x := its[i]) (by simp [hi]) fun g hj sb => hQ _ g s.toks (by simp [hi]) ⟨hj, st.2.extBut sb.extBut hne⟩ sb
 done := fun s Q E st hE => zre hh st.1 st.2 (by simp) hE
open AutoSeq1 (wpAny_loadPart') in
theorem zny (q : Addr) (its : Array Value) (n : Nat) (dct : Option Addr) (sl : Array (Option Value)) :
  Meets (Builtin.«enumerate.__new__» ⟨[.type "enumerate", .ref q], []⟩) (fun _ R s => s.heap.get? q = some { cls := .type "tuple", dict := dct, data := .seq its n, slots := sl } ∧
   R (.ok (.ret (.ref (s.heap.push { cls := .type "tuple_iterator", data := .fields #[.ref q, .int 0 0] }).objs.size))) { s with heap := (s.heap.push { cls := .type "tuple_iterator", data := .fields #[.ref q, .int 0 0] }).push { cls := .type "enumerate", data := .fields #[.none, .bool false, .ref s.heap.objs.size, rawInt 0, .none, .none] } }) :=
 .of_wp fun prog w A R s h => by
  obtain ⟨hp, g, d, tk, os⟩ := s
  obtain ⟨hq, h⟩ := h
  have hsub := sub_enumerate
  have hT : Heap.IsTuple (Shared.heap ⟨hp, g, d, tk, os⟩) q its := ⟨_, hq, rfl, n, rfl⟩
  wp_walk using wpAny_loadPart' hq
  refine wpAny_stack_any fun st => wpAny_pure ?_
  split
  ·rename_i c _ _ _ _ _
   cases (c == Value.type "enumerate")
   ·wp_walk using wpAny_loadPart' hq, wpAny_pyIter_tuple hT
    exact ⟨_, rfl, h⟩
   ·wp_walk using wpAny_loadPart' hq, wpAny_pyIter_tuple hT
    exact ⟨_, rfl, h⟩
  ·wp_walk using wpAny_loadPart' hq, wpAny_pyIter_tuple hT
   exact ⟨_, rfl, h⟩
theorem zpr {q : Addr} {its : Array Value} {Q : Value → Shared → Prop} (hT : s.heap.IsTuple q its)
  (k : ∀ g, IsEnum g (s.heap.objs.size + 1) s.heap.objs.size 0 .none → g.IsTupleIter s.heap.objs.size q 0 → (∀ b o, s.heap.get? b = some o → g.get? b = some o) → Q (.ref (s.heap.objs.size + 1)) { s with heap := g }) :
  wpAny (model prog w) A (call (.type "enumerate") [.ref q]) Q E s := by
 obtain ⟨⟨c, ac, dt, sl⟩, hq, hc, n, hd⟩ := hT
 cases (show c = .type "tuple" from hc)
 cases (show dt = .seq its n from hd)
 refine callType_new F.called_enumerate (by decide) (F.typeCall_enumerate_1 _) (F.newCall_enumerate_1 _) (fun aa => F.args_object_init_2 aa _) F.entry_enumerate_new (zny q its n ac sl) ⟨hq, ?_⟩
 have z : (s.heap.push { cls := .type "tuple_iterator", data := .fields #[.ref q, .int 0 0] }).objs.size = s.heap.objs.size + 1 := Heap.size_push ..
 have he : IsEnum ((s.heap.push { cls := .type "tuple_iterator", data := .fields #[.ref q, .int 0 0] }).push { cls := .type "enumerate", data := .fields #[.none, .bool false, .ref s.heap.objs.size, rawInt 0, .none, .none] }) (s.heap.objs.size + 1) s.heap.objs.size 0 .none := by
  have y := Heap.get?_push_size (s.heap.push { cls := .type "tuple_iterator", data := .fields #[.ref q, .int 0 0] }) (o := { cls := .type "enumerate", data := .fields #[.none, .bool false, .ref s.heap.objs.size, rawInt 0, .none, .none] }) rfl
  rw [z] at y
  exact y
 show _ ∧ _
 rw [z]
 exact ⟨⟨_, he, rfl⟩, k _ he ⟨_, Heap.get?_push_of_some _ (Heap.get?_push_size _ rfl), rfl, rfl⟩ fun b o y => Heap.get?_push_of_some _ (Heap.get?_push_of_some _ y)⟩
end
def Sq (K : PySem.W.Frag) (b : Bool) (H : Hp) (a : Addr) (xs : List V) : Prop := if b = true then SqT K H a xs else SqL K H a xs
def Ite (K : PySem.W.Frag) (b : Bool) (a : Addr) : It :=
 ⟨fun i H => ∃ xs x, Sq K b H a xs ∧ xs[i]? = some x, fun i H x H' => ∃ T v, x = .ref T ∧ H T = none ∧ H' = upd H T (.tup [.int i, v]) ∧ ∀ xs, Sq K b H a xs → xs[i]? = some v, fun i H => ∃ xs, Sq K b H a xs ∧ xs.length = i⟩
def zsu (b : Bool) (h : Heap) (it a : Addr) (i : Nat) : Prop := if b = true then h.IsTupleIter it a i else h.IsListIter it a i
section
variable {X : Cx} {pins : List (Addr × Obj)} {σ : St} {H : Hp} {s : Shared}
theorem Inv.turned2 {h' : Heap} {t' : Nat} {e it T : Addr} {v : V} {u : Value} {i : Int} {tk : Tok} (I : Inv X pins σ H s) (fe : zi5 X pins H e) (fi : zi5 X pins H it) (hT : s.heap.objs.size ≤ T) (rv : RelV v u)
  (k : ∀ b o, b ≠ e → b ≠ it → s.heap.get? b = some o → h'.get? b = some o) (ke : ∃ o, h'.get? e = some o) (ki : ∃ o, h'.get? it = some o) (eT : h'.get? T = some { cls := .type "tuple", data := .seq #[.int i tk, u] }) :
  Inv X pins σ (upd H T (.tup [.int i, v])) { s with heap := h', toks := t' } := by
 have nT : H T = none := I.hok.fresh hT
 have ne : ∀ b o, H b = some o → b ≠ e ∧ b ≠ it := fun b o q => ⟨zam q fe.1, zam q fi.1⟩
 have un : Un (frs X.stack) [e, it] H (upd H T (.tup [.int i, v])) s.heap h' := by
  have aa : ∀ b, b ∉ [e, it] → b ≠ e ∧ b ≠ it := fun b hb => ⟨fun z => hb (by simp [z]), fun z => hb (by simp [z])⟩
  have lt : ∀ b o, s.heap.get? b = some o → b ≠ T := fun b o q => Nat.ne_of_lt (Nat.lt_of_lt_of_le (Heap.lt_size q) hT)
  exact ⟨fun b o q _ _ hx => k b o (aa b hx).1 (aa b hx).2 q, fun b o q _ _ hx => ⟨o.slots, k b o (aa b hx).1 (aa b hx).2 q⟩, fun b o q n _ => by rw [zak (lt b o q)]; exact n, fun b o q hx => ⟨o, k b o (aa b hx).1 (aa b hx).2 q⟩,
   fun b xs q => by rw [zak (zam q nT)]; exact q, fun b o xs q => by rw [zak (zam q nT)]; exact q, fun b ps q => ⟨#[], by rw [zak (zam q nT), q]; simp⟩⟩
 refine I.call (g' := s.gens) (d' := s.drawn) (ch := [e, it]) un (fun a o q => ?_) I.bare fun b hb => ?_
 ·by_cases ea : a = T
  ·subst ea
   rw [zac] at q
   cases q
   exact ⟨Nat.le_of_lt (zbd (by show 2 ≤ 1000; decide)), [.int i tk, u], .cons ⟨tk, rfl⟩ (.cons rv .nil), ⟨_, eT, rfl, _, rfl⟩⟩
  ·rw [zak ea] at q
   refine (I.hok a o q).stay (fun b z hb r => k b z ?_ ?_ r) (fun b r => by rw [zak (zam r nT)]; exact r) fun b xs r => by rw [zak (zam r nT)]; exact r
   ·rcases hb with rfl | hb
    ·exact (ne _ _ q).1
    ·exact (ne _ _ hb).1
   ·rcases hb with rfl | hb
    ·exact (ne _ _ q).2
    ·exact (ne _ _ hb).2
 ·rcases List.mem_cons.mp hb with z | z
  ·subst z
   exact ⟨fe.2.2.2.1, fe.2.1, fe.2.2.2.2.1, fe.2.2.2.2.2⟩
  ·have z' := List.mem_singleton.mp z
   subst z'
   exact ⟨fi.2.2.2.1, fi.2.1, fi.2.2.2.2.1, fi.2.2.2.2.2⟩
end
theorem Sq.inj {X : Cx} {pins : List (Addr × Obj)} {σ : St} {H : Hp} {s : Shared} {b : Bool} {a : Addr} {xs ys : List V} (I : Inv X pins σ H s) (h : Sq X.K b H a xs) (h' : Sq X.K b H a ys) : xs = ys := by
 cases b with
 | true => exact I.tuple_inj h h'
 | false => exact I.list_inj h h'
theorem zk5 {b : Bool} {h : Heap} {it a : Addr} {i : Nat} (st : zsu b h it a i) : ∃ o, h.get? it = some o ∧ ∀ v, o.data ≠ .cell v := by
 cases b with
 | true =>
  obtain ⟨o, e, _, d⟩ := (show h.IsTupleIter it a i from st)
  exact ⟨o, e, fun v z => by rw [d] at z; cases z⟩
 | false =>
  obtain ⟨o, e, _, d⟩ := (show h.IsListIter it a i from st)
  exact ⟨o, e, fun v z => by rw [d] at z; cases z⟩
theorem zj3 {X : Cx} {pins : List (Addr × Obj)} {σ : St} {H : Hp} {s : Shared} {b : Bool} {a it : Addr} {xs : List V} (I : Inv X pins σ H s) (hd : X.A.handled = none) (hq : Sq X.K b H a xs) (hne : a ≠ it) :
  ∃ (its : List Value) (St : Nat → Heap → Prop), Vals xs its ∧ Draws X.prog X.w X.A.in1 it [it, a] its.toArray.size (fun i v => its.toArray[i]? = some v) St ∧ (∀ i, zsu b s.heap it a i → St i s.heap) ∧ ∀ i h, St i h → zsu b h it a i := by
 cases b with
 | true =>
  obtain ⟨its, rv, p, _⟩ := I.tuple hq
  exact ⟨its, fun i h => h.IsTupleIter it a i ∧ h.IsTuple a its.toArray, rv, zqx (A := X.A.in1) hd it a hne its.toArray, fun i st => ⟨st, p⟩, fun i h st => st.1⟩
 | false =>
  obtain ⟨its, rv, p, _⟩ := I.list hq
  exact ⟨its, fun i h => h.IsListIter it a i ∧ h.IsList a its.toArray, rv, Draws.list (A := X.A.in1) hd it a hne its.toArray, fun i st => ⟨st, p.isList⟩, fun i h st => st.1⟩
theorem zr3 {P : Program} {w : World} {K : PySem.W.Frag} {elts : List Expr} {k : Nat} {pos : Pos} (b : Bool) (a e it : Addr) (hei : e ≠ it) (hae : a ≠ e) (hai : a ≠ it) :
  ztq P w K (.Tuple elts k pos) (Ite K b a) [e, it] e (fun i h => (∃ old, IsEnum h e it (i : Int) old) ∧ zsu b h it a i) where
 mem := by simp
 obj := fun i h st c hc => by
  rcases List.mem_cons.mp hc with z | z
  ·subst z
   obtain ⟨old, q⟩ := st.1
   exact ⟨_, q, fun v z => by
    have z' : Data.fields _ = Data.cell v := z
    cases z'⟩
  ·rw [List.mem_singleton.mp z]
   exact zk5 st.2
 keep := fun i h h' st kk => by
  obtain ⟨⟨old, q⟩, st⟩ := st
  refine ⟨⟨old, kk e (by simp) _ q⟩, ?_⟩
  cases b with
  | true => exact (show h.IsTupleIter it a i from st).at fun o q => kk it (by simp) o q
  | false => exact (show h.IsListIter it a i from st).at fun o q => kk it (by simp) o q
 item := by
  intro X hP hw hK hc i pins s σ H E I hf st hg
  subst hP hw hK
  obtain ⟨⟨old, he⟩, st⟩ := st
  obtain ⟨xs, x, hq, hx⟩ := hg
  obtain ⟨ac, St, rv, D, up, dn⟩ := zj3 I (I.ok.hd hc) hq hai
  obtain ⟨u, hu, ru⟩ := rv.get hx
  have ai : i < ac.toArray.size := by simpa using (List.getElem?_eq_some_iff.mp hu).1
  have fe := hf e (by simp)
  have fi := hf it (by simp)
  have af : e < s.heap.objs.size := Heap.lt_size he
  refine wpAny_pyNext_enum_itemD D he (up i st) ai hei (by simp [hei, Ne.symm hae]) fun y g tk hy ho ad hT hsz kk => ?_
  have ey : y = u := by
   have z : ac.toArray[i]? = some y := hy
   rw [List.getElem?_toArray, hu] at z
   exact (Option.some.inj z).symm
  subst ey
  refine ⟨_, rfl, wpAny_letOwnedTupleGo_enum ho fun g2 ae sb => ?_⟩
  have ag : ∃ o, g2.get? it = some o := by
   obtain ⟨o, q, _⟩ := zk5 (dn _ _ ad)
   exact ⟨o, (sb.2 it (Ne.symm hei)).trans q⟩
  have I2 := I.turned2 (h' := g2) (t' := tk + 1) (T := s.heap.objs.size) (i := (i : Int)) (tk := tk) fe fi (Nat.le_refl _) ru (fun c o h1 h2 q => (sb.2 c h1).trans (kk c o h1 h2 q)) ⟨_, ae⟩ ag ((sb.2 _ (Nat.ne_of_gt af)).trans hT)
  refine ⟨.ref s.heap.objs.size, _, I2, rfl, ⟨_, x, rfl, I.hok.fresh (Nat.le_refl _), rfl, fun ys ah => by rw [Sq.inj I ah hq]; exact hx⟩, ⟨⟨y, ae⟩, ?_⟩, fun c aa => ?_⟩
  ·have z := dn _ _ ad
   cases b with
   | true => exact (show g.IsTupleIter it a (i + 1) from z).at fun o q => (sb.2 it (Ne.symm hei)).trans q
   | false => exact (show g.IsListIter it a (i + 1) from z).at fun o q => (sb.2 it (Ne.symm hei)).trans q
  ·have nz : H c = none := (hf c aa).1
   have cl : c < s.heap.objs.size := by
    rcases List.mem_cons.mp aa with z | z
    ·rw [z]; exact af
    ·rw [List.mem_singleton.mp z]
     obtain ⟨o, q, _⟩ := zk5 st
     exact Heap.lt_size q
   rw [zak (Nat.ne_of_lt cl)]
   exact nz
 done := by
  intro X hP hw hK hc i pins s σ H E I hf st hg
  subst hP hw hK
  obtain ⟨⟨old, he⟩, st⟩ := st
  obtain ⟨xs, hq, hx⟩ := hg
  obtain ⟨ac, St, rv, D, up, dn⟩ := zj3 I (I.ok.hd hc) hq hai
  obtain ⟨f0, f1, f2, f3, f4, f5⟩ := hf it (by simp)
  have hl := rv.length
  have e1 : i = ac.toArray.size := by
   rw [List.size_toArray]
   omega
  refine wpAny_pyNext_enum_endD D he (by rw [← e1]; exact up i st) fun g eb => ⟨rfl, I.turned (t' := s.toks) (fun c o aa q => eb c o aa q) f0 f1 f3 f4 f5⟩
 self := fun _ _ _ _ _ st h => by
  obtain ⟨⟨old, he⟩, _⟩ := st
  exact wpAny_pyIter_enum he h
def zxp (K : PySem.W.Frag) (ta : TA) : TI := fun σ H R => ta σ H fun vs H1 => ∃ (b : Bool) (a : Addr), vs = [.ref a] ∧ (∃ xs, Sq K b H1 a xs) ∧ R (Ite K b a) H1
theorem zuo {X : Cx} {elts : List Expr} {k : Nat} {pos p pos' : Pos} {a : Expr} {ta : TA} (hg : Gl X "enumerate") (hm : X.mg "enumerate" = none) (ha : PA X [a] ta) (hs : starEach [a] X.env = [(false, eval a X.env)] := by rfl) :
  PI X (.Tuple elts k pos) (.Call (.Name "enumerate" p) [a] [] pos') (zxp X.K ta) := by
 intro pins s σ H R I h
 refine Call_ (zh7 I hg hm PyProof.Rows.boot_enumerate (PyProof.Rows.callWith_type1 (thn (ha pos' pins s σ H _ I h) fun us s1 ⟨vs, H1, I1, r1, q1⟩ => ?_) hs rfl))
 obtain ⟨b, c, rfl, ⟨xs, hq⟩, q⟩ := q1
 obtain ⟨u, rfl, ru⟩ := zgw r1
 cases ru
 have aa : ∀ g : Heap, IsEnum g (s1.heap.objs.size + 1) s1.heap.objs.size 0 .none → zsu b g s1.heap.objs.size c 0 → (∀ d o, s1.heap.get? d = some o → g.get? d = some o) → c < s1.heap.objs.size →
   wpAny (model X.prog X.w) X.A (pyIter (.ref (s1.heap.objs.size + 1))) (PIE X pins σ (.Tuple elts k pos) R) X.xe { s1 with heap := g } := fun g he hi kk cl => by
  refine wpAny_pyIter_enum he ?_
  refine ⟨s1.heap.objs.size + 1, [s1.heap.objs.size + 1, s1.heap.objs.size], _, _, H1, rfl, I1.kept (t' := s1.toks) kk, zr3 b c _ _ (Nat.succ_ne_self _) (Nat.ne_of_lt (Nat.lt_succ_of_lt cl)) (Nat.ne_of_lt cl), ⟨⟨.none, he⟩, hi⟩, fun d hd => ?_, q⟩
  have le : s1.heap.objs.size ≤ d := by
   rcases List.mem_cons.mp hd with z | z
   ·rw [z]; exact Nat.le_succ _
   ·rw [List.mem_singleton.mp z]; exact Nat.le_refl _
  exact I1.fpOk le (I1.hok.fresh le)
 cases b with
 | true =>
  obtain ⟨ac, rv, pt, _⟩ := I1.tuple hq
  exact zpr (show s1.heap.IsTuple c ac.toArray from pt) fun g he hi kk => aa g he hi kk pt.lt
 | false =>
  obtain ⟨ac, rv, pl, _⟩ := I1.list hq
  have hl := pl.isList
  exact call_enumerate_list hl fun g he hi _ kk => aa g he hi kk (by obtain ⟨o, e, _⟩ := hl; exact Heap.lt_size e)
theorem ztl {K : PySem.W.Frag} {b : Bool} {a : Addr} {xs : List V} {g : TG} {tb : TS} {D : zgt} {σ : St} {H : Hp} (Pv : Nat → St → Hp → Prop) (h0 : Pv 0 σ H) (hl : ∀ i σ H, i ≤ xs.length → Pv i σ H → Sq K b H a xs)
  (hs : ∀ i x σ H, xs[i]? = some x → Pv i σ H → ∀ T, H T = none → g (.ref T) σ (upd H T (.tup [.int i, x])) fun σ2 H2 => tb { D with nx := Pv (i + 1), ct := Pv (i + 1), bk := D.nx } σ2 H2) (hd : ∀ σ H, Pv xs.length σ H → D.nx σ H) :
  ∃ W : Nat → Nat → St → Hp → Prop, (∃ m, W 0 m σ H) ∧ ∀ i m σ H, W i m σ H →
   ((Ite K b a).stop i H ∧ D.nx σ H) ∨ ((Ite K b a).go i H ∧ ∃ N : St → Hp → Prop, (∀ σ' H', N σ' H' → ∃ m', m' < m ∧ W (i + 1) m' σ' H') ∧ ∀ x H', (Ite K b a).yld i H x H' → g x σ H' fun σ2 H2 => tb { D with nx := N, ct := N, bk := D.nx } σ2 H2) := by
 refine ⟨fun i m σ H => m = xs.length - i ∧ i ≤ xs.length ∧ Pv i σ H, ⟨xs.length, by simp, Nat.zero_le _, h0⟩, ?_⟩
 rintro i m σ H ⟨rfl, hi, p⟩
 have q := hl i σ H hi p
 by_cases aa : i < xs.length
 ·refine .inr ⟨⟨xs, xs[i], q, by simp [aa]⟩, Pv (i + 1), fun σ' H' p' => ⟨xs.length - (i + 1), by omega, rfl, aa, p'⟩, fun x H' y => ?_⟩
  obtain ⟨T, v, rfl, hT, rfl, hv⟩ := y
  exact hs i v σ H (hv xs q) p T hT
 ·have e : i = xs.length := by omega
  subst e
  exact .inl ⟨⟨xs, q, rfl⟩, hd σ H p⟩
end L2
namespace L2
open PySem PySem.Spec PyProof.Rows
section
variable {X : Cx}
theorem zp4 {P : Nat → Value → Prop} {f : Nat → V} (hP : ∀ i v, P i v → RelV (f i) v) : ∀ (n k : Nat) (l : List Value), l.length = n → (∀ j v, l[j]? = some v → P (k + j) v) → Vals ((List.range' k n).map f) l
 | 0, k, [], _, _ => .nil
 | n + 1, k, v :: r, hl, h => by
  rw [List.range'_succ, List.map_cons]
  refine .cons (hP _ _ (h 0 v rfl)) (zp4 hP n (k + 1) r (by simpa using hl) fun j v' e => ?_)
  have := h (j + 1) v' (by simpa using e)
  rw [show k + 1 + j = k + (j + 1) by omega]
  exact this
 | 0, _, _ :: _, hl, _ => by simp at hl
 | n + 1, _, [], hl, _ => by simp at hl
theorem zk9 (hc : X.calm = true) : zd8 X (.type "list") (fun xs H Q => ∃ (p : Addr) (lo hi : Int), xs = [.ref p] ∧ H p = some (.rng lo hi) ∧ -(2 ^ 62) ≤ lo ∧ lo < 2 ^ 62 ∧ -(2 ^ 62) ≤ hi ∧ hi < 2 ^ 62 ∧ (hi - lo).toNat ≤ 1000 ∧ ∀ l, H l = none → Q (.ref l) (upd H l (.lst ((List.range' 0 (hi - lo).toNat).map fun i : Nat => V.int (lo + i))))) := by
 intro pins s σ H xs us Q I r h
 obtain ⟨p, lo, hi, rfl, hp, b1, b2, b3, b4, hz, q⟩ := h
 obtain ⟨u, rfl, rx⟩ := zgw r
 cases rx
 obtain ⟨t, u, v, e⟩ := (show ObjOk X.prog X.w H s.heap p (.rng lo hi) from I.hok p _ hp)
 have hn : Builtin.Range.rangeSize lo hi 1 = (((hi - lo).toNat : Nat) : Int) := by
  rw [rangeSize_one]
  split <;> omega
 refine call_list_range (I.ok.hd hc) e (small_one b1 b2 b3 b4) hn (Nat.le_trans hz (by decide)) fun g tk aa c kk eg ac => ?_
 obtain ⟨sz, it⟩ := ac
 have vv : Vals ((List.range' 0 (hi - lo).toNat).map fun i : Nat => V.int (lo + i)) aa.toList := by
  refine zp4 (P := fun i v => ∃ t, v = .int (lo + i * 1) t) (fun i v hv => ?_) _ 0 aa.toList (by simpa using sz) fun j v ej => ?_
  ·obtain ⟨t, rfl⟩ := hv
   exact ⟨t, by rw [Int.mul_one]⟩
  ·have := it j v (by simpa using ej)
   rw [Nat.zero_add]
   exact this
 refine ⟨.ref s.heap.objs.size, _, I.laid (t' := tk) kk (Nat.le_refl _) (show ObjOk X.prog X.w _ _ _ (.lst _) from ⟨?_, aa.toList, c, vv, eg⟩), rfl, q _ (I.hok.fresh (Nat.le_refl _))⟩
 rw [List.length_map, List.length_range']
 exact Nat.le_of_lt (zbd hz)
open AutoSeq1 (wpAny_loadPart') in
def zyo (K : PySem.W.Frag) (tl : TE) : TI := fun σ H R => tl σ H fun x H1 => ∃ a, x = .ref a ∧ (((∃ xs, SqL K H1 a xs) ∧ R (Itl K a) H1) ∨ ((∃ xs, SqT K H1 a xs) ∧ R (Itt K a) H1))
theorem zw9 {tg l : Expr} {tl : TE} (hl : PE X l tl) : PI X tg l (zyo X.K tl) := by
 intro pins s σ H R I h
 refine thn (hl pins s σ H _ I h) fun v s1 ⟨x, H1, I1, r1, q1⟩ => ?_
 obtain ⟨a, rfl, q⟩ := q1
 cases r1
 rcases q with ⟨⟨xs, hq⟩, q⟩ | ⟨⟨xs, hq⟩, q⟩
 ·obtain ⟨aa, rv, p, hz⟩ := I1.list hq
  refine wpAny_pyIter_list p.isList ⟨s1.heap.objs.size, [s1.heap.objs.size], _, _, H1, rfl, I1.kept (t' := s1.toks) fun b o e => Heap.get?_push_of_some _ e, zl2 a _, ⟨_, Heap.get?_push_size _ rfl, rfl, rfl⟩, fun b hb => ?_, q⟩
  rw [List.mem_singleton.mp hb]
  exact I1.fpOk (Nat.le_refl _) (I1.hok.fresh (Nat.le_refl _))
 ·obtain ⟨aa, rv, p, hz⟩ := I1.tuple hq
  refine wpAny_pyIter_tuple (show s1.heap.IsTuple a aa.toArray from p) ⟨s1.heap.objs.size, [s1.heap.objs.size], _, _, H1, rfl, I1.kept (t' := s1.toks) fun b o e => Heap.get?_push_of_some _ e, zj7 a _, ⟨_, Heap.get?_push_size _ rfl, rfl, rfl⟩, fun b hb => ?_, q⟩
  rw [List.mem_singleton.mp hb]
  exact I1.fpOk (Nat.le_refl _) (I1.hok.fresh (Nat.le_refl _))
theorem zev (hc : X.calm = true) : zd8 X (.builtin "sum") (fun xs H Q => ∃ (p : Addr) (ns : List Int), xs = [.ref p] ∧ SqL X.K H p (ns.map V.int) ∧ Q (.int ns.sum) H) := by
 intro pins s σ H xs us Q I r h
 obtain ⟨p, ns, rfl, hq, q⟩ := h
 obtain ⟨u, rfl, rx⟩ := zgw r
 cases rx
 obtain ⟨ac, rv, pl, ad⟩ := I.list hq
 have ia := zec rv
 obtain ⟨ps, hx⟩ := ia.allInts.items
 have aa : s.heap.IsList p (intItems ps) := hx ▸ pl.isList
 refine sum_intListG (I.ok.hd hc) aa fun g tk t' hk => ?_
 have e1 : ns = ps.toList.map (·.1) := by
  rw [← nums_intItems, ← hx]
  exact (show numsOf ac.toArray.toList = ns from ia.numsOf).symm
 have e2 : preSum (numAt ps) ps.size = ns.sum := by
  rw [preSum_eq, List.take_of_length_le (by simp), e1]
 rw [e2]
 exact ⟨.int _, H, I.kept (t' := tk) hk, ⟨t', rfl⟩, q⟩
end
section
variable {X : Cx} {K : PySem.W.Frag}
theorem ixT (h : X.K = K := by rfl) : IxR X (zyf K) := h ▸ zww
theorem ixL (h : X.K = K := by rfl) : IxR X (zx9 K) := h ▸ zuu
theorem zdw (h : X.K = K := by rfl) : zd8 X (.builtin "len") (fun xs H Q => ∃ p ys, xs = [.ref p] ∧ (SqL K H p ys ∨ SqT K H p ys) ∧ Q (.int ys.length) H) := h ▸ zm5
theorem inS (h : X.K = K := by rfl) : OpR X (compareOp .In) (rIn K false) := h ▸ zq2
theorem zyk (h : X.K = K := by rfl) : zd8 X (.builtin "isinstance") (fun xs H Q => ∃ (x : V) (T C : String) (b : Bool), xs = [x, .ty C] ∧ TyOf K H x (.type T) ∧ zog T C = some b ∧ Q (.bl b) H) := h ▸ zs8
end
mutual
def Dn (H : Hp) : PyData → V → Prop
 | .none, v => v = .non
 | .bool b, v => v = .bl b
 | .int i, v => v = .int i
 | .str x, v => v = .str x
 | .list ds, v => ∃ a xs, v = .ref a ∧ H a = some (.lst xs) ∧ DnL H ds xs
 | .tuple ds, v => ∃ a xs, v = .ref a ∧ H a = some (.tup xs) ∧ DnL H ds xs
 | .dict kvs, v => kvs = [] ∧ ∃ a, v = .ref a ∧ H a = some (.dK [])
def DnL (H : Hp) : List PyData → List V → Prop
 | [], xs => xs = []
 | d :: ds, xs => ∃ x r, xs = x :: r ∧ Dn H d x ∧ DnL H ds r
end
mutual
theorem Dn.same {H H' : Hp} (h : Same H H') : ∀ (d : PyData) (v : V), Dn H d v → Dn H' d v
 | .none, _, q => q
 | .bool _, _, q => q
 | .int _, _, q => q
 | .str _, _, q => q
 | .list ds, _, ⟨a, xs, e, q, r⟩ => ⟨a, xs, e, h _ _ q, DnL.same h ds xs r⟩
 | .tuple ds, _, ⟨a, xs, e, q, r⟩ => ⟨a, xs, e, h _ _ q, DnL.same h ds xs r⟩
 | .dict _, _, ⟨e, a, q, r⟩ => ⟨e, a, q, h _ _ r⟩
theorem DnL.same {H H' : Hp} (h : Same H H') : ∀ (ds : List PyData) (xs : List V), DnL H ds xs → DnL H' ds xs
 | [], _, q => q
 | d :: ds, _, ⟨x, r, e, q, z⟩ => ⟨x, r, e, Dn.same h d x q, DnL.same h ds r z⟩
end
theorem DnL.length {H : Hp} : ∀ {ds : List PyData} {xs : List V}, DnL H ds xs → ds.length = xs.length
 | [], _, q => by cases (show _ = [] from q); rfl
 | d :: ds, _, ⟨x, r, e, _, z⟩ => by rw [e, List.length_cons, List.length_cons, DnL.length z]
theorem DnL.get {H : Hp} : ∀ {ds : List PyData} {xs : List V} {i : Nat} {x : V}, DnL H ds xs → xs[i]? = some x → ∃ d, ds[i]? = some d ∧ Dn H d x
 | [], _, i, x, q, e => by rw [(show _ = [] from q)] at e; simp at e
 | d :: ds, _, 0, x, ⟨y, r, e, q, z⟩, h => by rw [e] at h; cases h; exact ⟨d, rfl, q⟩
 | d :: ds, _, i + 1, x, ⟨y, r, e, q, z⟩, h => by
  rw [e] at h
  obtain ⟨d', h1, h2⟩ := DnL.get (i := i) z (by simpa using h)
  exact ⟨d', by simpa using h1, h2⟩
theorem DnL.get' {H : Hp} : ∀ {ds : List PyData} {xs : List V} {i : Nat} {d : PyData}, DnL H ds xs → ds[i]? = some d → ∃ x, xs[i]? = some x ∧ Dn H d x
 | [], _, i, x, q, e => by simp at e
 | d :: ds, _, 0, x, ⟨y, r, e, q, z⟩, h => by cases h; exact ⟨y, by rw [e]; rfl, q⟩
 | d :: ds, _, i + 1, x, ⟨y, r, e, q, z⟩, h => by
  obtain ⟨d', h1, h2⟩ := DnL.get' (i := i) z (by simpa using h)
  exact ⟨d', by rw [e]; simpa using h1, h2⟩
theorem DnL.append {H : Hp} : ∀ {ds es : List PyData} {xs ys : List V}, DnL H ds xs → DnL H es ys → DnL H (ds ++ es) (xs ++ ys)
 | [], es, xs, ys, q, r => by rw [(show xs = [] from q)]; exact r
 | d :: ds, es, _, ys, ⟨x, t, e, q, z⟩, r => ⟨x, t ++ ys, by rw [e]; rfl, q, DnL.append z r⟩
mutual
theorem Dn.reads {X : Cx} {pins : List (Addr × Obj)} {σ : St} {H : Hp} {s : Shared} (I : Inv X pins σ H s) : ∀ (d : PyData) (v : V) (u : Value), Dn H d v → d.canLay0 = true → RelV v u → ∃ as, Reads s.heap u d as
 | .none, v, u, q, _, r => by cases (show v = .non from q); cases (show u = Value.none from r); exact ⟨_, .none⟩
 | .bool b, v, u, q, _, r => by cases (show v = .bl b from q); cases (show u = Value.bool b from r); exact ⟨_, .bool b⟩
 | .int i, v, u, q, _, r => by cases (show v = .int i from q); obtain ⟨t, rfl⟩ := (show ∃ t, u = Value.int i t from r); exact ⟨_, .int i t⟩
 | .str x, v, u, q, _, r => by cases (show v = .str x from q); obtain ⟨t, rfl⟩ := (show ∃ t, u = Value.str x t from r); exact ⟨_, .str x t⟩
 | .list ds, _, u, ⟨a, xs, rfl, q, z⟩, c, r => by
  cases (show u = Value.ref a from r)
  obtain ⟨_, its, n, rv, e⟩ := (show ObjOk X.prog X.w H s.heap a (.lst xs) from I.hok a _ q)
  obtain ⟨as, ra⟩ := DnL.reads I ds xs its z (by simpa [PyData.canLay0] using c) rv
  exact ⟨_, .list e rfl rfl (by simpa using ra)⟩
 | .tuple ds, _, u, ⟨a, xs, rfl, q, z⟩, c, r => by
  cases (show u = Value.ref a from r)
  obtain ⟨_, its, rv, o, e, hc, n, hd⟩ := (show ObjOk X.prog X.w H s.heap a (.tup xs) from I.hok a _ q)
  obtain ⟨as, ra⟩ := DnL.reads I ds xs its z (by simpa [PyData.canLay0] using c) rv
  exact ⟨_, .tuple e hc hd (by simpa using ra)⟩
 | .dict k, v, u, _, c, _ => by simp [PyData.canLay0] at c
theorem DnL.reads {X : Cx} {pins : List (Addr × Obj)} {σ : St} {H : Hp} {s : Shared} (I : Inv X pins σ H s) : ∀ (ds : List PyData) (xs : List V) (us : List Value), DnL H ds xs → PyData.canLayAll0 ds = true → Vals xs us → ∃ as, ReadsAll s.heap us ds as
 | [], xs, us, q, _, r => by
  cases (show xs = [] from q)
  cases r
  exact ⟨_, .nil⟩
 | d :: ds, _, us, ⟨x, t, rfl, q, z⟩, c, r => by
  cases r with
  | cons rx rt =>
   have c' : PyData.canLay0 d = true ∧ PyData.canLayAll0 ds = true := by simpa [PyData.canLayAll0] using c
   obtain ⟨a1, r1⟩ := Dn.reads I d x _ q c'.1 rx
   obtain ⟨a2, r2⟩ := DnL.reads I ds t _ z c'.2 rt
   exact ⟨_, .cons r1 r2⟩
end
theorem zkf {X : Cx} (hu : X.A.units + 64 < cLine) : OpR X (compareOp .NotEq) (fun x y H Q => ∃ d e : PyData, Dn H d x ∧ Dn H e y ∧ SeqAt.shaped d = true ∧ SeqAt.shaped e = true ∧ Q (.bl (!PyData.eqv d e)) H) := by
 intro pins s σ H x y v u Q I rx ry h
 obtain ⟨d, e, hd, he, sd, se, q⟩ := h
 obtain ⟨as, ra⟩ := Dn.reads I d x v hd (SeqAt.canLay_of_shaped sd) rx
 obtain ⟨bs, rb⟩ := Dn.reads I e y u he (SeqAt.canLay_of_shaped se) ry
 exact ne_dataH ra rb sd se hu ⟨.bl _, H, I, rfl, q⟩
mutual
theorem zk3 : ∀ d : PyData, d.canLay0 = true → PyData.eqv d d = true
 | .none, _ => by simp [PyData.eqv]
 | .bool _, _ => by simp [PyData.eqv]
 | .int _, _ => by simp [PyData.eqv]
 | .str _, _ => by simp [PyData.eqv]
 | .list ds, c => by simpa [PyData.eqv] using zga ds (by simpa [PyData.canLay0] using c)
 | .tuple ds, c => by simpa [PyData.eqv] using zga ds (by simpa [PyData.canLay0] using c)
 | .dict _, c => by simp [PyData.canLay0] at c
theorem zga : ∀ ds : List PyData, PyData.canLayAll0 ds = true → PyData.eqvAll ds ds = true
 | [], _ => by simp [PyData.eqvAll]
 | d :: ds, c => by
  have c' : PyData.canLay0 d = true ∧ PyData.canLayAll0 ds = true := by simpa [PyData.canLayAll0] using c
  simp [PyData.eqvAll, zk3 d c'.1, zga ds c'.2]
end
end L2
namespace Wd
open PySem L2
def isW : PyData → Bool
 | .int _ => true
 | _ => false
def zcv (d : PyData) (lo hi : Int) : Bool := match d with
 | .int i => decide (lo ≤ i) && decide (i ≤ hi)
 | _ => false
def zji (d : PyData) : Bool := match d with
 | .tuple ds => decide (0 < ds.length)
 | _ => false
def zbf (many : Int) : List PyData → Int → Bool
 | [], _ => true
 | .int i :: ds, last => decide (last + 1 ≤ i) && decide (i ≤ many - 1) && zbf many ds i
 | _ :: _, _ => false
def zyp (many : Int) : PyData → PyData → Bool
 | .int up, .tuple ks => zbf many ks up
 | _, _ => false
def zxj (h : PyData) : PyData → Bool
 | .tuple ks => zcv h 1 ks.length
 | _ => false
def zyh (l : PyData) : PyData → Bool
 | .int hi => zcv l 0 hi
 | _ => false
def zfc (many : Int) (d : PyData) : Bool := match d with
 | .tuple [u, l, h, k] => zcv u 0 (many - 1) && (zji k && (zyp many u k && (zxj h k && zyh l h)))
 | _ => false
def zpy : PyData → PyData
 | .tuple (x :: _) => x
 | _ => .none
def zfy : PyData → Bool
 | .tuple [_, n] => isW n
 | _ => false
def zor (many : Int) (d : PyData) : Bool := match d with
 | .tuple ds => decide (0 < ds.length) && ds.all zfy && zbf many (ds.map zpy) (-1)
 | _ => false
def neI : PyData → PyData → Bool
 | .int i, .int j => !decide (i = j)
 | _, _ => false
def zrb (many : Int) (s : Str) (x y : PyData) : Bool := if s = ("most" : Str) then isW x && zor many y else if s = ("needs" : Str) ∨ s = ("bans" : Str) then zcv x 0 (many - 1) && (zcv y 0 (many - 1) && neI x y) else false
def zxy (many : Int) (x y : PyData) : PyData → Bool
 | .str s => zrb many s x y
 | _ => false
def ziv (many : Int) (d : PyData) : Bool := match d with
 | .tuple [k, x, y] => zxy many x y k
 | _ => false
def toI : PyData → Int
 | .int i => i
 | _ => 0
def zkx : PyData → List Int
 | .tuple [_, _, _, .tuple ks] => ks.map toI
 | _ => []
structure zvw (many : Int) (bs : List PyData) : Prop where
 each : ∀ b ∈ bs, zfc many b = true
 kids : (bs.flatMap zkx).Perm ((List.range' 0 (many - 1).toNat).map fun i : Nat => (1 : Int) + i)
theorem zaf {H : Hp} {p : Addr} (h : H p = none) (o : HO) : Same H (upd H p o) := zmo fun b u q => by rw [zak (zam q h)]; exact q
theorem zar {n : Nat} (h : n ≤ 1000) : n ≤ sizeLine := Nat.le_of_lt (zbd h)
theorem zdm {H : Hp} {i : Int} {v : V} (h : Dn H (.int i) v) : v = .int i := h
theorem ze5 {H : Hp} {ds : List PyData} {v : V} (h : Dn H (.tuple ds) v) : ∃ a xs, v = .ref a ∧ H a = some (.tup xs) ∧ DnL H ds xs := h
theorem zmi {d : PyData} (h : isW d = true) : ∃ i, d = .int i := by
 cases d <;> first | exact ⟨_, rfl⟩ | cases h
theorem sqT {K : PySem.W.Frag} {H : Hp} {a : Addr} {xs : List V} (h : H a = some (.tup xs)) : SqT K H a xs := .inl (.inl h)
theorem at0 {x : V} {r : List V} : atI (x :: r) 0 = some x := zdx (j := 0) rfl
theorem at1 {x y : V} {r : List V} : atI (x :: y :: r) 1 = some y := zdx (j := 1) rfl
theorem at2 {x y z : V} {r : List V} : atI (x :: y :: z :: r) 2 = some z := zdx (j := 2) rfl
theorem at3 {x y z w : V} {r : List V} : atI (x :: y :: z :: w :: r) 3 = some w := zdx (j := 3) rfl
theorem zd7 {d : PyData} {lo hi : Int} (h : zcv d lo hi = true) : ∃ i, d = .int i ∧ lo ≤ i ∧ i ≤ hi := by
 cases d with
 | int i =>
  have z : (decide (lo ≤ i) && decide (i ≤ hi)) = true := h
  simp only [Bool.and_eq_true, decide_eq_true_eq] at z
  exact ⟨i, rfl, z.1, z.2⟩
 | _ => cases h
theorem zop {d : PyData} (h : zji d = true) : ∃ ds, d = .tuple ds ∧ 0 < ds.length := by
 cases d with
 | tuple ds => exact ⟨ds, rfl, of_decide_eq_true h⟩
 | _ => cases h
theorem zn9 {H : Hp} : ∀ {ns : List Int} {xs : List V}, DnL H (ns.map PyData.int) xs → xs = ns.map V.int
 | [], xs, h => h
 | n :: r, _, ⟨x, t, rfl, hx, ht⟩ => by rw [zn9 ht, zdm hx]; rfl
theorem zn8 {H : Hp} : ∀ (ns : List Int), DnL H (ns.map PyData.int) (ns.map V.int)
 | [] => rfl
 | n :: r => ⟨_, _, rfl, rfl, zn8 r⟩
end Wd
namespace Ow
open PySem L2 Wd
structure WoodAt (H : Hp) (wd : Addr) (many : Int) (xs ys : List V) : Prop where
 ex : ∃ tb tc, H wd = some (.tup [.int many, .ref tb, .ref tc]) ∧ H tb = some (.tup xs) ∧ H tc = some (.tup ys)
def zv8 : Sp := fun vs H Q _ => ∃ (wd : Addr) (many : Int) (xs ys : List V), vs = [.ref wd] ∧ WoodAt H wd many xs ys ∧ Q (.int ((xs.length : Int) + (ys.length : Int))) H
def zvk : Sp := fun vs H Q _ => ∃ (wd : Addr) (many : Int) (xs ys : List V) (t : Nat) (v : V), vs = [.ref wd, .int t] ∧ WoodAt H wd many xs ys ∧ (xs ++ ys)[t]? = some v ∧ Q v H
theorem zmh {α β : Type} {f : α → List β} {ds : List α} {i : Nat} {d : α} (h : ds[i]? = some d) : (ds.take (i + 1)).flatMap f = (ds.take i).flatMap f ++ f d := by
 obtain ⟨hi, e⟩ := List.getElem?_eq_some_iff.mp h
 rw [List.take_succ_eq_append_getElem hi, List.flatMap_append, e]
 simp
def zbn : Nat → PyData → Bool
 | _, .int _ => true
 | _, .str s => PyData.strOk s
 | n + 1, .tuple ds => decide (ds.length ≤ 1000) && ds.all (zbn n)
 | _, _ => false
theorem zt1 {many one x : Int} (h1 : 1 < many) (h9 : many ≤ 9) (o0 : 0 ≤ one) (o1 : one < many) (x0 : 0 ≤ x) (x1 : x < many - 1) : 0 ≤ (one + 1 + x) % many ∧ (one + 1 + x) % many < many ∧ one ≠ (one + 1 + x) % many := by
 have e : many = 2 ∨ many = 3 ∨ many = 4 ∨ many = 5 ∨ many = 6 ∨ many = 7 ∨ many = 8 ∨ many = 9 := by omega
 rcases e with rfl | rfl | rfl | rfl | rfl | rfl | rfl | rfl <;> omega
theorem zo4 : PyData.strOk ("most" : Str) = true := by decide +kernel
theorem znq : PyData.strOk ("needs" : Str) = true := by decide +kernel
theorem zo2 : PyData.strOk ("bans" : Str) = true := by decide +kernel
theorem ztk {m : Nat} (h : m ≤ 9) : 2 ^ m ≤ 512 := Nat.pow_le_pow_right (by decide) h
structure zje (H : Hp) (i : Nat) (ps : List PyData) (xs : List V) : Prop where
 dn : DnL H ps xs
 ok : ps.all zfy = true
 flat : ps.all (zbn 1) = true
 ris : zbf (i : Int) (ps.map zpy) (-1) = true
 few : ps.length ≤ i
theorem zek {m m' : Int} (h : m ≤ m') : ∀ {ks : List PyData} {u : Int}, zbf m ks u = true → zbf m' ks u = true
 | [], _, _ => rfl
 | .int i :: ks, u, z => by
  have z' : (decide (u + 1 ≤ i) && decide (i ≤ m - 1) && zbf m ks i) = true := z
  show (decide (u + 1 ≤ i) && decide (i ≤ m' - 1) && zbf m' ks i) = true
  simp only [Bool.and_eq_true, decide_eq_true_eq] at z' ⊢
  exact ⟨⟨z'.1.1, by omega⟩, zek h z'.2⟩
 | .none :: _, _, z => by cases z
 | .bool _ :: _, _, z => by cases z
 | .str _ :: _, _, z => by cases z
 | .list _ :: _, _, z => by cases z
 | .tuple _ :: _, _, z => by cases z
 | .dict _ :: _, _, z => by cases z
theorem zgj {m j : Int} (h : j < m) : ∀ {ks : List PyData} {u : Int}, zbf j ks u = true → u < j → zbf m (ks ++ [.int j]) u = true
 | [], u, _, hu => by
  show (decide (u + 1 ≤ j) && decide (j ≤ m - 1) && true) = true
  rw [decide_eq_true (by omega), decide_eq_true (by omega)]
  rfl
 | .int i :: ks, u, z, hu => by
  have z' : (decide (u + 1 ≤ i) && decide (i ≤ j - 1) && zbf j ks i) = true := z
  show (decide (u + 1 ≤ i) && decide (i ≤ m - 1) && zbf m (ks ++ [.int j]) i) = true
  simp only [Bool.and_eq_true, decide_eq_true_eq] at z' ⊢
  exact ⟨⟨z'.1.1, by omega⟩, zgj h z'.2 (by omega)⟩
 | .none :: _, _, z, _ => by cases z
 | .bool _ :: _, _, z, _ => by cases z
 | .str _ :: _, _, z, _ => by cases z
 | .list _ :: _, _, z, _ => by cases z
 | .tuple _ :: _, _, z, _ => by cases z
 | .dict _ :: _, _, z, _ => by cases z
theorem DnL.keepT {H H' : Hp} {f : PyData → Bool} (k : ∀ d v, f d = true → Dn H d v → Dn H' d v) : ∀ (ds : List PyData) (xs : List V), ds.all f = true → DnL H ds xs → DnL H' ds xs
 | [], _, _, q => q
 | d :: ds, _, c, ⟨x, r, e, q, z⟩ => by
  rw [List.all_cons, Bool.and_eq_true] at c
  exact ⟨x, r, e, k d x c.1 q, DnL.keepT k ds r c.2 z⟩
theorem Dn.keepT {H H' : Hp} (h : ∀ b xs, H b = some (.tup xs) → H' b = some (.tup xs)) : ∀ (n : Nat) (d : PyData) (v : V), zbn n d = true → Dn H d v → Dn H' d v
 | _, .int _, _, _, q => q
 | _, .str _, _, _, q => q
 | n + 1, .tuple ds, _, c, ⟨p, xs, e, q, z⟩ => ⟨p, xs, e, h _ _ q, DnL.keepT (Dn.keepT h n) ds xs ((Bool.and_eq_true _ _).mp c).2 z⟩
 | 0, .tuple ds, _, c, _ => by cases c
 | 0, .none, _, c, _ => by cases c
 | n + 1, .none, _, c, _ => by cases c
 | 0, .bool _, _, c, _ => by cases c
 | n + 1, .bool _, _, c, _ => by cases c
 | 0, .list _, _, c, _ => by cases c
 | n + 1, .list _, _, c, _ => by cases c
 | 0, .dict _, _, c, _ => by cases c
 | n + 1, .dict _, _, c, _ => by cases c
theorem zn5 {H : Hp} {p : Addr} {xs ys : List V} (h : H p = some (.lst xs)) : ∀ b zs, H b = some (.tup zs) → upd H p (.lst ys) b = some (.tup zs) := fun b zs q => by
 rw [zak (zn1 q h (by intro z; cases z))]
 exact q
structure Grp where
 t : Addr
 up : Int
 l : Addr
 kids : List Int
structure GAt (H0 H : Hp) (g : Addr) (gs : List Grp) : Prop where
 at_ : H g = some (.lst (gs.map fun x => V.ref x.t))
 new : H0 g = none
 tup : ∀ x ∈ gs, H x.t = some (.tup [.int x.up, .ref x.l])
 lst : ∀ x ∈ gs, H x.l = some (.lst (x.kids.map V.int)) ∧ H0 x.l = none ∧ g ≠ x.l
 nd : (gs.map (·.l)).Nodup
structure GOk (k : Int) (gs : List Grp) : Prop where
 each : ∀ x ∈ gs, 0 ≤ x.up ∧ x.kids ≠ [] ∧ zbf k (x.kids.map PyData.int) x.up = true
 perm : (gs.flatMap (·.kids)).Perm ((List.range' 0 (k - 1).toNat).map fun i : Nat => (1 : Int) + i)
theorem GOk.few {k : Int} {gs : List Grp} (G : GOk k gs) : gs.length ≤ (k - 1).toNat := by
 have e := G.perm.length_eq
 rw [List.length_map, List.length_range'] at e
 rw [← e]
 have go : ∀ l : List Grp, (∀ x ∈ l, x.kids ≠ []) → l.length ≤ (l.flatMap (·.kids)).length := by
  intro l
  induction l with
  | nil => intro _; exact Nat.le_refl _
  | cons x r ih =>
   intro h
   rw [List.flatMap_cons, List.length_append, List.length_cons]
   have h1 := List.length_pos_iff.mpr (h x List.mem_cons_self)
   have h2 := ih fun y hy => h y (List.mem_cons_of_mem _ hy)
   omega
 exact go gs fun x hx => (G.each x hx).2.1
theorem zke (k : Nat) : ((List.range' 0 k).map fun i : Nat => (1 : Int) + i) ++ [((k : Int) + 1)] = (List.range' 0 (k + 1)).map fun i : Nat => (1 : Int) + i := by
 rw [List.range'_concat, List.map_append]
 simp
 omega
theorem GOk.new {k : Nat} {gs : List Grp} {t l : Addr} {u : Int} (G : GOk ((k : Int) + 1) gs) (u0 : 0 ≤ u) (u1 : u < (k : Int) + 1) : GOk ((k : Int) + 2) (gs ++ [⟨t, u, l, [(k : Int) + 1]⟩]) where
 each := fun x hx => by
  rcases List.mem_append.mp hx with z | z
  ·obtain ⟨a, b, c⟩ := G.each x z
   exact ⟨a, b, zek (by omega) c⟩
  ·rw [List.mem_singleton.mp z]
   refine ⟨u0, by simp, ?_⟩
   show (decide (u + 1 ≤ (k : Int) + 1) && decide ((k : Int) + 1 ≤ (k : Int) + 2 - 1) && true) = true
   rw [decide_eq_true (by omega), decide_eq_true (by omega)]
   rfl
 perm := by
  rw [List.flatMap_append]
  have e : ((k : Int) + 2 - 1).toNat = k + 1 := by omega
  have e' : ((k : Int) + 1 - 1).toNat = k := by omega
  have p := G.perm
  rw [e'] at p
  rw [e, ← zke]
  exact p.append (by simp)
theorem GOk.put {k : Nat} {pre post : List Grp} {x : Grp} (G : GOk ((k : Int) + 1) (pre ++ x :: post)) : GOk ((k : Int) + 2) (pre ++ ⟨x.t, x.up, x.l, x.kids ++ [(k : Int) + 1]⟩ :: post) where
 each := fun y hy => by
  have old : ∀ z ∈ pre ++ x :: post, 0 ≤ z.up ∧ z.kids ≠ [] ∧ zbf ((k : Int) + 2) (z.kids.map PyData.int) z.up = true := fun z hz => by
   obtain ⟨a, b, c⟩ := G.each z hz
   exact ⟨a, b, zek (by omega) c⟩
  rcases List.mem_append.mp hy with z | z
  ·exact old y (List.mem_append_left _ z)
  ·rcases List.mem_cons.mp z with z | z
   ·subst z
    obtain ⟨a, b, c⟩ := G.each x (by simp)
    refine ⟨a, by simp, ?_⟩
    show zbf ((k : Int) + 2) ((x.kids ++ [(k : Int) + 1]).map PyData.int) x.up = true
    rw [List.map_append]
    refine zgj (by omega) c ?_
    cases hk : x.kids with
    | nil => exact absurd hk b
    | cons n r =>
     rw [hk] at c
     have c' : (decide (x.up + 1 ≤ n) && decide (n ≤ (k : Int) + 1 - 1) && zbf ((k : Int) + 1) (r.map PyData.int) n) = true := c
     simp only [Bool.and_eq_true, decide_eq_true_eq] at c'
     omega
   ·exact old y (by simp [z])
 perm := by
  have e : ((k : Int) + 2 - 1).toNat = k + 1 := by omega
  have e' : ((k : Int) + 1 - 1).toNat = k := by omega
  have p := G.perm
  rw [e'] at p
  rw [e, ← zke]
  refine List.Perm.trans ?_ (p.append (List.Perm.refl [((k : Int) + 1)]))
  rw [List.flatMap_append, List.flatMap_append, List.flatMap_cons, List.flatMap_cons, List.append_assoc, List.append_assoc, List.append_assoc]
  exact (List.Perm.refl _).append ((List.Perm.refl _).append List.perm_append_comm)
theorem GAt.put {H0 H : Hp} {g : Addr} {pre post : List Grp} {x : Grp} {k : Int} (G : GAt H0 H g (pre ++ x :: post)) : GAt H0 (upd H x.l (.lst (x.kids.map V.int ++ [.int k]))) g (pre ++ ⟨x.t, x.up, x.l, x.kids ++ [k]⟩ :: post) := by
 have hx : x ∈ pre ++ x :: post := by simp
 obtain ⟨a, b, c⟩ := G.lst x hx
 have nd := G.nd
 rw [List.map_append, List.map_cons] at nd
 obtain ⟨_, n2, n3⟩ := List.nodup_append.mp nd
 have ad : ∀ y, y ∈ pre ∨ y ∈ post → y.l ≠ x.l := fun y hy e => by
  rcases hy with hy | hy
  ·exact n3 y.l (List.mem_map.mpr ⟨y, hy, rfl⟩) x.l (by simp) e
  ·exact (List.nodup_cons.mp n2).1 (by rw [← e]; exact List.mem_map.mpr ⟨y, hy, rfl⟩)
 have ac : ∀ y ∈ pre ++ (⟨x.t, x.up, x.l, x.kids ++ [k]⟩ : Grp) :: post, (y ∈ pre ∨ y ∈ post) ∨ y = ⟨x.t, x.up, x.l, x.kids ++ [k]⟩ := fun y hy => by
  rcases List.mem_append.mp hy with z | z
  ·exact .inl (.inl z)
  ·rcases List.mem_cons.mp z with z | z
   ·exact .inr z
   ·exact .inl (.inr z)
 have aa : ∀ y, y ∈ pre ∨ y ∈ post → y ∈ pre ++ x :: post := fun y hy => by
  rcases hy with z | z <;> simp [z]
 refine ⟨?_, G.new, fun y hy => ?_, fun y hy => ?_, ?_⟩
 ·rw [zak c, G.at_, List.map_append, List.map_append, List.map_cons, List.map_cons]
 ·rcases ac y hy with z | rfl
  ·rw [zak (zn1 (G.tup y (aa y z)) a (by intro q; cases q))]
   exact G.tup y (aa y z)
  ·show upd H x.l _ x.t = _
   rw [zak (zn1 (G.tup x hx) a (by intro q; cases q))]
   exact G.tup x hx
 ·rcases ac y hy with z | rfl
  ·obtain ⟨a', b', c'⟩ := G.lst y (aa y z)
   refine ⟨?_, b', c'⟩
   rw [zak (ad y z)]
   exact a'
  ·refine ⟨?_, b, c⟩
   show upd H x.l _ x.l = _
   rw [zac, List.map_append]
   rfl
 ·have e : (pre ++ (⟨x.t, x.up, x.l, x.kids ++ [k]⟩ : Grp) :: post).map (·.l) = (pre ++ x :: post).map (·.l) := by
   rw [List.map_append, List.map_append, List.map_cons, List.map_cons]
  rw [e]
  exact G.nd
theorem GAt.same {H0 H H' : Hp} {g : Addr} {gs : List Grp} (G : GAt H0 H g gs) (s : Same H H') : GAt H0 H' g gs :=
 ⟨s _ _ G.at_, G.new, fun x hx => s _ _ (G.tup x hx), fun x hx => ⟨s _ _ (G.lst x hx).1, (G.lst x hx).2⟩, G.nd⟩
def zrc (u lo hi : Int) (kids : List Int) : PyData := .tuple [.int u, .int lo, .int hi, .tuple (kids.map PyData.int)]
theorem zw3 {m u lo hi : Int} {kids : List Int} (u0 : 0 ≤ u) (ne : kids ≠ []) (r : zbf m (kids.map PyData.int) u = true) (l0 : 0 ≤ lo) (l1 : lo ≤ hi) (h0 : 1 ≤ hi) (h1 : hi ≤ kids.length) : zfc m (zrc u lo hi kids) = true := by
 have u1 : u ≤ m - 1 := by
  cases hk : kids with
  | nil => exact absurd hk ne
  | cons n t =>
   rw [hk] at r
   have c' : (decide (u + 1 ≤ n) && decide (n ≤ m - 1) && zbf m (t.map PyData.int) n) = true := r
   simp only [Bool.and_eq_true, decide_eq_true_eq] at c'
   omega
 show (zcv (.int u) 0 (m - 1) && (zji (.tuple (kids.map PyData.int)) && (zbf m (kids.map PyData.int) u && (zcv (.int hi) 1 ((kids.map PyData.int).length : Nat) && zcv (.int lo) 0 hi)))) = true
 have e1 : zcv (.int u) 0 (m - 1) = true := by
  show (decide (0 ≤ u) && decide (u ≤ m - 1)) = true
  rw [decide_eq_true u0, decide_eq_true u1]
  rfl
 have e2 : zji (.tuple (kids.map PyData.int)) = true := by
  refine decide_eq_true ?_
  rw [List.length_map]
  exact List.length_pos_iff.mpr ne
 have e3 : zcv (.int hi) 1 ((kids.map PyData.int).length : Nat) = true := by
  show (decide (1 ≤ hi) && decide (hi ≤ ((kids.map PyData.int).length : Nat))) = true
  rw [List.length_map, decide_eq_true h0, decide_eq_true h1]
  rfl
 have e4 : zcv (.int lo) 0 hi = true := by
  show (decide (0 ≤ lo) && decide (lo ≤ hi)) = true
  rw [decide_eq_true l0, decide_eq_true l1]
  rfl
 rw [e1, e2, r, e3, e4]
 rfl
theorem zps (kids : List Int) : (kids.map PyData.int).all (zbn 1) = true := by
 rw [List.all_eq_true]
 intro x hx
 obtain ⟨i, _, rfl⟩ := List.mem_map.mp hx
 rfl
theorem zt5 (u lo hi : Int) (kids : List Int) (h : kids.length ≤ 1000) : zbn 3 (zrc u lo hi kids) = true := by
 show (true && (true && (true && (true && ((decide ((kids.map PyData.int).length ≤ 1000) && (kids.map PyData.int).all (zbn 1)) && true))))) = true
 rw [zps, List.length_map, decide_eq_true h]
 rfl
theorem zs2 (u lo hi : Int) (kids : List Int) : zkx (zrc u lo hi kids) = kids := by
 show (kids.map PyData.int).map toI = kids
 rw [List.map_map]
 have : (toI ∘ PyData.int) = id := rfl
 rw [this, List.map_id]
end Ow
namespace Wd
inductive Tie where
 | bough (u : Nat) (lo hi : Int) (ks : List Nat)
 | needs (a b : Nat)
 | bans (a b : Nat)
 | most (top : Int) (ps : List (Nat × Int))
def cnt (ks : List Nat) (s : Nat) : Nat := (ks.filter fun k => s.testBit k).length
def zii (ps : List (Nat × Int)) (f : Nat × Int → Bool) : Int := ((ps.filter f).map (·.2)).sum
def Tie.keep : Tie → Nat → Bool
 | .bough u lo hi ks, s => if s.testBit u = true then decide (lo ≤ (cnt ks s : Int)) && decide ((cnt ks s : Int) ≤ hi) else decide (cnt ks s = 0)
 | .needs a b, s => !s.testBit a || s.testBit b
 | .bans a b, s => !s.testBit a || !s.testBit b
 | .most top ps, s => decide (zii ps (fun p => s.testBit p.1) ≤ top)
structure Tie.BoughOkW (m u : Nat) (lo hi : Int) (ks : List Nat) : Prop where
 um : u < m
 ks0 : ks ≠ []
 up : ∀ k ∈ ks, u < k ∧ k < m
 ris : ks.Pairwise (· < ·)
 few : ks.length ≤ m
 lo0 : 0 ≤ lo
 lohi : lo ≤ hi
structure Tie.BoughOk (m u : Nat) (lo hi : Int) (ks : List Nat) : Prop extends Tie.BoughOkW m u lo hi ks where
 hi1 : 1 ≤ hi
 hik : hi ≤ ks.length
theorem Tie.BoughOkW.nd {m u : Nat} {lo hi : Int} {ks : List Nat} (h : Tie.BoughOkW m u lo hi ks) : ks.Nodup := h.ris.imp fun a => Nat.ne_of_lt a
def Tie.Ok (m : Nat) : Tie → Prop
 | .bough u lo hi ks => Tie.BoughOkW m u lo hi ks
 | .needs a b => a < m ∧ b < m ∧ a ≠ b
 | .bans a b => a < m ∧ b < m ∧ a ≠ b
 | .most _ ps => ps ≠ [] ∧ (∀ p ∈ ps, p.1 < m) ∧ (ps.map (·.1)).Pairwise (· < ·) ∧ ps.length ≤ m
def InS (y n s : Nat) : Prop := (∀ k, y.testBit k = true → s.testBit k = true) ∧ ∀ k, n.testBit k = true → s.testBit k = false
def zee (ps : List (Nat × Int)) (y n : Nat) : Int := zii ps fun p => y.testBit p.1 || (decide (p.2 < 0) && !n.testBit p.1)
def Tie.sb : Tie → Nat → Nat → Bool
 | .needs a b, y, n => y.testBit a && n.testBit b
 | .bans a b, y, n => y.testBit a && y.testBit b
 | .most top ps, y, n => decide (top < zee ps y n)
 | .bough u lo hi ks, y, n => !(!n.testBit u && (decide ((cnt ks y : Int) ≤ hi) && decide (lo ≤ (ks.length : Int) - cnt ks n))) && !(!y.testBit u && decide (cnt ks y = 0))
theorem zvl {u : Nat} {lo hi : Int} {ks : List Nat} {s : Nat} (h : s.testBit u = true) : (Tie.bough u lo hi ks).keep s = (decide (lo ≤ (cnt ks s : Int)) && decide ((cnt ks s : Int) ≤ hi)) := by
 simp only [Tie.keep, h, if_true]
theorem zuy {u : Nat} {lo hi : Int} {ks : List Nat} {s : Nat} (h : ¬ s.testBit u = true) : (Tie.bough u lo hi ks).keep s = decide (cnt ks s = 0) := by
 simp only [Tie.keep, if_neg h]
theorem zlz (p : Nat × Int) (r : List (Nat × Int)) (f : Nat × Int → Bool) : zii (p :: r) f = (if f p = true then p.2 else 0) + zii r f := by
 unfold zii
 by_cases h : f p = true
 ·rw [List.filter_cons_of_pos h, if_pos h]; simp
 ·rw [List.filter_cons_of_neg h, if_neg h]; simp
theorem zp8 {f g : Nat × Int → Bool} : ∀ {ps : List (Nat × Int)}, (∀ p ∈ ps, (if f p = true then p.2 else 0) ≤ (if g p = true then p.2 else 0)) → zii ps f ≤ zii ps g
 | [], _ => Int.le_refl _
 | p :: r, h => by
  rw [zlz, zlz]
  have h1 := h p List.mem_cons_self
  have h2 := zp8 (ps := r) fun q hq => h q (List.mem_cons_of_mem _ hq)
  omega
theorem zqj {f g : Nat × Int → Bool} {ps : List (Nat × Int)} (h : ∀ p ∈ ps, f p = g p) : zii ps f = zii ps g := by
 unfold zii
 rw [List.filter_congr h]
theorem zb9 (k : Nat) (r : List Nat) (s : Nat) : cnt (k :: r) s = (if s.testBit k = true then 1 else 0) + cnt r s := by
 unfold cnt
 by_cases h : s.testBit k = true
 ·rw [List.filter_cons_of_pos (p := fun k => s.testBit k) h, if_pos h, List.length_cons]; omega
 ·rw [List.filter_cons_of_neg (p := fun k => s.testBit k) h, if_neg h]; omega
theorem zgl {ks : List Nat} {s t : Nat} (h : ∀ k ∈ ks, s.testBit k = t.testBit k) : cnt ks s = cnt ks t := by
 unfold cnt
 rw [List.filter_congr h]
theorem znw {s t : Nat} : ∀ {ks : List Nat}, (∀ k ∈ ks, s.testBit k = true → t.testBit k = true) → cnt ks s ≤ cnt ks t
 | [], _ => Nat.le_refl _
 | k :: r, h => by
  rw [zb9, zb9]
  have h2 := znw (ks := r) fun q hq => h q (List.mem_cons_of_mem _ hq)
  have h1 := h k List.mem_cons_self
  by_cases c : s.testBit k = true
  ·rw [if_pos c, if_pos (h1 c)]; omega
  ·rw [if_neg c]; omega
theorem zjk {s n : Nat} : ∀ {ks : List Nat}, (∀ k ∈ ks, n.testBit k = true → s.testBit k = false) → cnt ks s + cnt ks n ≤ ks.length
 | [], _ => Nat.le_refl _
 | k :: r, h => by
  rw [zb9, zb9, List.length_cons]
  have h2 := zjk (ks := r) fun q hq => h q (List.mem_cons_of_mem _ hq)
  have h1 := h k List.mem_cons_self
  by_cases c : n.testBit k = true
  ·rw [h1 c, if_pos c]; simp; omega
  ·rw [if_neg c]; split <;> omega
def zde : List Nat → Nat
 | [] => 0
 | k :: r => zde r ||| 2 ^ k
theorem zik (j : Nat) : ∀ l : List Nat, (zde l).testBit j = decide (j ∈ l)
 | [] => by simp [zde]
 | k :: r => by
  rw [zde, Nat.testBit_or, zik j r, Nat.testBit_two_pow]
  by_cases h : k = j
  ·subst h; simp
  ·have h' : j ≠ k := fun z => h z.symm
   simp [h, h']
theorem zq3 {ps : List (Nat × Int)} (h : (ps.map (·.1)).Nodup) {p q : Nat × Int} (hp : p ∈ ps) (hq : q ∈ ps) (e : p.1 = q.1) : p = q := by
 induction ps with
 | nil => cases hp
 | cons x r ih =>
  rw [List.map_cons, List.nodup_cons] at h
  rcases List.mem_cons.mp hp with e1 | hp
  ·rcases List.mem_cons.mp hq with e2 | hq
   ·rw [e1, e2]
   ·exact absurd (show x.1 ∈ r.map (·.1) from List.mem_map.mpr ⟨q, hq, by rw [← e1, e]⟩) h.1
  ·rcases List.mem_cons.mp hq with e2 | hq
   ·exact absurd (show x.1 ∈ r.map (·.1) from List.mem_map.mpr ⟨p, hp, by rw [← e2, e]⟩) h.1
   ·exact ih h.2 hp hq
theorem zph {m : Nat} {t : Tie} (ok : t.Ok m) {s s' : Nat} (h : ∀ k, k < m → s.testBit k = s'.testBit k) : t.keep s = t.keep s' := by
 cases t with
 | bough u lo hi ks =>
  have e : cnt ks s = cnt ks s' := zgl fun k hk => h k (ok.up k hk).2
  simp only [Tie.keep]
  rw [e, h u ok.um]
 | needs a b => simp only [Tie.keep]; rw [h a ok.1, h b ok.2.1]
 | bans a b => simp only [Tie.keep]; rw [h a ok.1, h b ok.2.1]
 | most top ps =>
  simp only [Tie.keep]
  rw [zqj fun p hp => h p.1 (ok.2.1 p hp)]
theorem zkr {y n : Nat} {l : List Nat} (d : ∀ k, y.testBit k = true → n.testBit k = false) (h : ∀ k ∈ l, n.testBit k = false) : InS y n (y ||| zde l) := by
 refine ⟨fun k hk => ?_, fun k hk => ?_⟩
 ·rw [Nat.testBit_or, hk, Bool.true_or]
 ·rw [Nat.testBit_or, zik]
  have h1 : y.testBit k = false := by
   cases e : y.testBit k with
   | false => rfl
   | true => rw [d k e] at hk; cases hk
  have h2 : ¬ k ∈ l := fun z => by rw [h k z] at hk; cases hk
  rw [h1, decide_eq_false h2]; rfl
theorem zb6 (y : Nat) (l : List Nat) (k : Nat) : (y ||| zde l).testBit k = (y.testBit k || decide (k ∈ l)) := by
 rw [Nat.testBit_or, zik]
theorem zhv {y : Nat} : ∀ {ks : List Nat}, ks.Nodup → ∀ c : Nat, cnt ks y ≤ c → ∀ n : Nat, (∀ k, y.testBit k = true → n.testBit k = false) → c + cnt ks n ≤ ks.length →
  ∃ l : List Nat, (∀ k ∈ l, k ∈ ks ∧ n.testBit k = false) ∧ cnt ks (y ||| zde l) = c
 | [], _, c, h1, n, _, h2 => ⟨[], (fun _ z => nomatch z), by simp [cnt] at h2 ⊢; omega⟩
 | k :: r, nd, c, h1, n, d, h2 => by
  obtain ⟨nk, nr⟩ := List.nodup_cons.mp nd
  rw [zb9] at h1 h2
  rw [List.length_cons] at h2
  by_cases hy : y.testBit k = true
  ·rw [if_pos hy] at h1
   have hn := d k hy
   rw [hn] at h2
   obtain ⟨l, hl, e⟩ := zhv nr (c - 1) (by omega) n d (by simp at h2; omega)
   refine ⟨l, fun j hj => ⟨List.mem_cons_of_mem _ (hl j hj).1, (hl j hj).2⟩, ?_⟩
   rw [zb9, e, zb6, hy, Bool.true_or, if_pos rfl]
   omega
  ·rw [if_neg hy] at h1
   by_cases hn : n.testBit k = true
   ·rw [if_pos hn] at h2
    obtain ⟨l, hl, e⟩ := zhv nr c (by omega) n d (by omega)
    refine ⟨l, fun j hj => ⟨List.mem_cons_of_mem _ (hl j hj).1, (hl j hj).2⟩, ?_⟩
    have : ¬ k ∈ l := fun z => nk (hl k z).1
    rw [zb9, e, zb6, Bool.eq_false_iff.mpr hy, decide_eq_false this]
    simp
   ·rw [if_neg hn] at h2
    by_cases full : c + cnt r n ≤ r.length
    ·obtain ⟨l, hl, e⟩ := zhv nr c (by omega) n d full
     refine ⟨l, fun j hj => ⟨List.mem_cons_of_mem _ (hl j hj).1, (hl j hj).2⟩, ?_⟩
     have : ¬ k ∈ l := fun z => nk (hl k z).1
     rw [zb9, e, zb6, Bool.eq_false_iff.mpr hy, decide_eq_false this]
     simp
    ·have hc : cnt r y + cnt r n ≤ r.length := zjk fun j _ hj => by
      cases e : y.testBit j with
      | false => rfl
      | true => rw [d j e] at hj; cases hj
     obtain ⟨l, hl, e⟩ := zhv nr (c - 1) (by omega) n d (by omega)
     refine ⟨k :: l, fun j hj => ?_, ?_⟩
     ·rcases List.mem_cons.mp hj with rfl | z
      ·exact ⟨List.mem_cons_self, Bool.eq_false_iff.mpr hn⟩
      ·exact ⟨List.mem_cons_of_mem _ (hl j z).1, (hl j z).2⟩
     ·have e2 : cnt r (y ||| zde (k :: l)) = cnt r (y ||| zde l) := zgl fun j hj => by
       have : j ≠ k := fun z => nk (z ▸ hj)
       rw [zb6, zb6]
       simp [this]
      rw [zb9, e2, e, zb6, decide_eq_true List.mem_cons_self, Bool.or_true, if_pos rfl]
      omega
theorem zts {m : Nat} {t : Tie} (ok : t.Ok m) {y n : Nat} (d : ∀ k, y.testBit k = true → n.testBit k = false) : t.sb y n = true ↔ ∀ s, InS y n s → t.keep s = false := by
 have dn : ∀ k, n.testBit k = true → y.testBit k = false := fun k hk => by
  cases e : y.testBit k with
  | false => rfl
  | true => rw [d k e] at hk; cases hk
 cases t with
 | needs a b =>
  constructor
  ·intro h s hs
   have h' : (y.testBit a && n.testBit b) = true := h
   rw [Bool.and_eq_true] at h'
   show (!s.testBit a || s.testBit b) = false
   rw [hs.1 a h'.1, hs.2 b h'.2]; rfl
  ·intro h
   show (y.testBit a && n.testBit b) = true
   cases e1 : y.testBit a with
   | false =>
    have hh := h y ⟨fun _ z => z, dn⟩
    have h2 : (!y.testBit a || y.testBit b) = false := hh
    rw [e1] at h2; cases h2
   | true =>
    cases e2 : n.testBit b with
    | true => rfl
    | false =>
     have h2 : (!(y ||| zde [b]).testBit a || (y ||| zde [b]).testBit b) = false := h _ (zkr d fun k hk => by rw [List.mem_singleton.mp hk]; exact e2)
     rw [zb6 y [b] b, decide_eq_true (List.mem_singleton.mpr rfl), Bool.or_true, Bool.or_true] at h2
     cases h2
 | bans a b =>
  constructor
  ·intro h s hs
   have h' : (y.testBit a && y.testBit b) = true := h
   rw [Bool.and_eq_true] at h'
   show (!s.testBit a || !s.testBit b) = false
   rw [hs.1 a h'.1, hs.1 b h'.2]; rfl
  ·intro h
   have h2 : (!y.testBit a || !y.testBit b) = false := h y ⟨fun _ z => z, dn⟩
   show (y.testBit a && y.testBit b) = true
   cases e1 : y.testBit a <;> cases e2 : y.testBit b <;> rw [e1, e2] at h2 <;> simp_all
 | most top ps =>
  constructor
  ·intro h s hs
   have h' : top < zee ps y n := of_decide_eq_true h
   refine decide_eq_false fun z => ?_
   have le : zee ps y n ≤ zii ps (fun p => s.testBit p.1) := zp8 fun p _ => by
    cases e1 : y.testBit p.1 with
    | true => rw [hs.1 _ e1]; simp
    | false =>
     cases e2 : n.testBit p.1 with
     | true => rw [hs.2 _ e2]; simp
     | false =>
      by_cases c : p.2 < 0
      ·simp [c]; split <;> omega
      ·simp [c]; split <;> omega
   omega
  ·intro h
   refine decide_eq_true ?_
   let l := (ps.filter fun p => decide (p.2 < 0) && !n.testBit p.1).map (·.1)
   have hl : ∀ k ∈ l, n.testBit k = false := fun k hk => by
    obtain ⟨p, hp, rfl⟩ := List.mem_map.mp hk
    have := (List.mem_filter.mp hp).2
    simp at this
    exact this.2
   have h2 : decide (zii ps (fun p => (y ||| zde l).testBit p.1) ≤ top) = false := h _ (zkr d hl)
   have e : zii ps (fun p => (y ||| zde l).testBit p.1) = zee ps y n := zqj fun p hp => by
    show (y ||| zde l).testBit p.1 = (y.testBit p.1 || (decide (p.2 < 0) && !n.testBit p.1))
    rw [zb6]
    congr 1
    by_cases c : (decide (p.2 < 0) && !n.testBit p.1) = true
    ·rw [c]
     exact decide_eq_true (List.mem_map.mpr ⟨p, List.mem_filter.mpr ⟨hp, c⟩, rfl⟩)
    ·rw [Bool.eq_false_iff.mpr c]
     refine decide_eq_false fun z => ?_
     obtain ⟨q, hq, e⟩ := List.mem_map.mp z
     have aa := List.mem_filter.mp hq
     have : q = p := zq3 (ok.2.2.1.imp fun a => Nat.ne_of_lt a) aa.1 hp e
     rw [this] at aa
     exact c aa.2
   rw [e] at h2
   have := of_decide_eq_false h2
   omega
 | bough u lo hi ks =>
  have c2 : cnt ks y + cnt ks n ≤ ks.length := zjk fun j _ hj => dn j hj
  have uk : ¬ u ∈ ks := fun z => Nat.lt_irrefl _ (ok.up u z).1
  constructor
  ·intro h s hs
   have h' : (!(!n.testBit u && (decide ((cnt ks y : Int) ≤ hi) && decide (lo ≤ (ks.length : Int) - cnt ks n))) && !(!y.testBit u && decide (cnt ks y = 0))) = true := h
   have g1 : cnt ks y ≤ cnt ks s := znw fun k _ hk => hs.1 k hk
   have g2 : cnt ks s + cnt ks n ≤ ks.length := zjk fun k _ hk => hs.2 k hk
   show (if s.testBit u = true then decide (lo ≤ (cnt ks s : Int)) && decide ((cnt ks s : Int) ≤ hi) else decide (cnt ks s = 0)) = false
   rw [Bool.and_eq_true] at h'
   by_cases su : s.testBit u = true
   ·rw [if_pos su]
    have nu : n.testBit u = false := by
     cases e : n.testBit u with
     | false => rfl
     | true => rw [hs.2 u e] at su; cases su
    have h1 := h'.1
    rw [nu] at h1
    simp at h1
    by_cases z : (cnt ks y : Int) ≤ hi
    ·rw [decide_eq_false (show ¬ lo ≤ (cnt ks s : Int) by omega), Bool.false_and]
    ·rw [decide_eq_false (show ¬ (cnt ks s : Int) ≤ hi by omega), Bool.and_false]
   ·rw [if_neg su]
    have yu : y.testBit u = false := by
     cases e : y.testBit u with
     | false => rfl
     | true => exact absurd (hs.1 u e) su
    have h2 := h'.2
    rw [yu] at h2
    simp at h2
    exact decide_eq_false (by omega)
  ·intro h
   show (!(!n.testBit u && (decide ((cnt ks y : Int) ≤ hi) && decide (lo ≤ (ks.length : Int) - cnt ks n))) && !(!y.testBit u && decide (cnt ks y = 0))) = true
   rw [Bool.and_eq_true]
   constructor
   ·cases e : (!n.testBit u && (decide ((cnt ks y : Int) ≤ hi) && decide (lo ≤ (ks.length : Int) - cnt ks n))) with
    | false => rfl
    | true =>
     exfalso
     simp only [Bool.and_eq_true, decide_eq_true_eq, Bool.not_eq_true'] at e
     obtain ⟨nu, e1, e2⟩ := e
     have ad := ok.lo0
     have ae := ok.lohi
     obtain ⟨l, hl, ec⟩ := zhv (Tie.BoughOkW.nd ok) (max (cnt ks y) lo.toNat) (Nat.le_max_left _ _) n d (by omega)
     have hk := h (y ||| zde (u :: l)) (zkr d fun k hk => by
      rcases List.mem_cons.mp hk with rfl | z
      ·exact nu
      ·exact (hl k z).2)
     have hb : (y ||| zde (u :: l)).testBit u = true := by rw [zb6, decide_eq_true List.mem_cons_self, Bool.or_true]
     have ac : cnt ks (y ||| zde (u :: l)) = max (cnt ks y) lo.toNat := by
      rw [← ec]
      refine zgl fun j hj => ?_
      have : j ≠ u := fun z => uk (z ▸ hj)
      rw [zb6, zb6]
      simp [this]
     simp only [Tie.keep, hb, if_true, ac] at hk
     rw [decide_eq_true (by omega), decide_eq_true (by omega)] at hk
     cases hk
   ·cases e : (!y.testBit u && decide (cnt ks y = 0)) with
    | false => rfl
    | true =>
     exfalso
     simp only [Bool.and_eq_true, decide_eq_true_eq, Bool.not_eq_true'] at e
     have hk := h y ⟨fun _ z => z, dn⟩
     simp [Tie.keep, e.1, e.2] at hk
end Wd
namespace Wd
open PySem L2
def zl5 (p : Nat × Int) : PyData := .tuple [.int (p.1 : Int), .int p.2]
def Tie.toD : Tie → PyData
 | .bough u lo hi ks => .tuple [.int (u : Int), .int lo, .int hi, .tuple (ks.map fun k : Nat => PyData.int (k : Int))]
 | .needs a b => .tuple [.str ("needs" : Str), .int (a : Int), .int (b : Int)]
 | .bans a b => .tuple [.str ("bans" : Str), .int (a : Int), .int (b : Int)]
 | .most top ps => .tuple [.str ("most" : Str), .int top, .tuple (ps.map zl5)]
theorem zf3 {m : Nat} : ∀ {ks : List PyData} {last : Int}, -1 ≤ last → last < m → zbf m ks last = true →
  ∃ ns : List Nat, ks = ns.map (fun k : Nat => PyData.int (k : Int)) ∧ ns.Pairwise (· < ·) ∧ (∀ k ∈ ns, last < (k : Int) ∧ k < m) ∧ (ns.length : Int) + last + 1 ≤ m
 | [], last, h0, h1, _ => ⟨[], rfl, List.Pairwise.nil, (fun _ z => nomatch z), by simp; omega⟩
 | .int i :: ks, last, h0, h1, h => by
  have z : (decide (last + 1 ≤ i) && decide (i ≤ (m : Int) - 1) && zbf m ks i) = true := h
  simp only [Bool.and_eq_true, decide_eq_true_eq] at z
  obtain ⟨ns, e, pw, ab, ln⟩ := zf3 (by omega) (by omega) z.2
  obtain ⟨j, rfl⟩ : ∃ j : Nat, i = (j : Int) := ⟨i.toNat, by omega⟩
  refine ⟨j :: ns, by rw [e]; rfl, List.Pairwise.cons (fun k hk => ?_) pw, fun k hk => ?_, ?_⟩
  ·have := (ab k hk).1; omega
  ·rcases List.mem_cons.mp hk with rfl | hk
   ·omega
   ·have := ab k hk; omega
  ·rw [List.length_cons]; omega
 | .none :: _, _, _, _, h => by cases h
 | .bool _ :: _, _, _, _, h => by cases h
 | .str _ :: _, _, _, _, h => by cases h
 | .list _ :: _, _, _, _, h => by cases h
 | .tuple _ :: _, _, _, _, h => by cases h
 | .dict _ :: _, _, _, _, h => by cases h
theorem zhs {m : Nat} {d : PyData} (h : zfc m d = true) : ∃ u lo hi ks, d = (Tie.bough u lo hi ks).toD ∧ Tie.BoughOk m u lo hi ks := by
 unfold zfc at h
 split at h
 next u l hd k =>
  simp only [Bool.and_eq_true] at h
  obtain ⟨hu, hk, hr, hh, hl⟩ := h
  obtain ⟨ui, rfl, u0, u1⟩ := zd7 hu
  obtain ⟨kd, rfl, k0⟩ := zop hk
  obtain ⟨hi, rfl, h0, h1⟩ := zd7 (show zcv hd 1 kd.length = true from hh)
  obtain ⟨lo, rfl, l0, l1⟩ := zd7 (show zcv l 0 hi = true from hl)
  obtain ⟨un, rfl⟩ : ∃ j : Nat, ui = (j : Int) := ⟨ui.toNat, by omega⟩
  obtain ⟨ns, rfl, pw, ab, ln⟩ := zf3 (by omega) (by omega) (show zbf m kd un = true from hr)
  rw [List.length_map] at k0 h1
  exact ⟨un, lo, hi, ns, rfl, ⟨⟨by omega, fun z => by rw [z] at k0; simp at k0, fun k hk => by have := ab k hk; omega, pw, by omega, l0, l1⟩, h0, h1⟩⟩
 next => cases h
theorem zj4 {m : Nat} : ∀ {ds : List PyData} {ns : List Nat}, ds.all zfy = true → ds.map zpy = ns.map (fun k : Nat => PyData.int (k : Int)) → ∃ ps : List (Nat × Int), ds = ps.map zl5 ∧ ps.map (·.1) = ns
 | [], [], _, _ => ⟨[], rfl, rfl⟩
 | [], _ :: _, _, e => by cases e
 | _ :: _, [], _, e => by cases e
 | d :: ds, n :: ns, h, e => by
  rw [List.all_cons, Bool.and_eq_true] at h
  rw [List.map_cons, List.map_cons] at e
  injection e with e1 e2
  obtain ⟨ps, rfl, rfl⟩ := zj4 (m := m) h.2 e2
  have h1 := h.1
  unfold zfy at h1
  split at h1
  next x y =>
   obtain ⟨i, rfl⟩ := zmi h1
   refine ⟨(n, i) :: ps, ?_, rfl⟩
   have e3 : x = PyData.int (n : Int) := e1
   rw [e3]
   rfl
  next => cases h1
theorem zm3 {m : Nat} {d : PyData} (h : ziv m d = true) : ∃ t : Tie, d = t.toD ∧ t.Ok m ∧ ∀ u lo hi ks, t ≠ .bough u lo hi ks := by
 unfold ziv at h
 split at h
 next k x y =>
  unfold zxy at h
  split at h
  next s =>
   unfold zrb at h
   split at h
   next hs =>
    rw [Bool.and_eq_true] at h
    obtain ⟨top, rfl⟩ := zmi h.1
    have h2 := h.2
    unfold zor at h2
    split at h2
    next ds =>
     simp only [Bool.and_eq_true, decide_eq_true_eq] at h2
     obtain ⟨⟨d0, dp⟩, dr⟩ := h2
     obtain ⟨ns, e, pw, ab, ln⟩ := zf3 (by omega) (by omega) dr
     obtain ⟨ps, rfl, rfl⟩ := zj4 (m := m) dp e
     rw [List.length_map] at d0 ln
     refine ⟨.most top ps, by rw [hs]; rfl, ⟨fun z => by rw [z] at d0; simp at d0, fun p hp => (ab p.1 (List.mem_map.mpr ⟨p, hp, rfl⟩)).2, pw, by omega⟩, by intro _ _ _ _ z; cases z⟩
    next => cases h2
   next hs =>
    split at h
    next hn =>
     simp only [Bool.and_eq_true] at h
     obtain ⟨ha, hb, aa⟩ := h
     obtain ⟨a, rfl, a0, a1⟩ := zd7 ha
     obtain ⟨b, rfl, b0, b1⟩ := zd7 hb
     have ne : ¬ a = b := by
      have z : (!decide (a = b)) = true := aa
      simpa using z
     obtain ⟨an, rfl⟩ : ∃ j : Nat, a = (j : Int) := ⟨a.toNat, by omega⟩
     obtain ⟨bn, rfl⟩ : ∃ j : Nat, b = (j : Int) := ⟨b.toNat, by omega⟩
     rcases hn with rfl | rfl
     ·exact ⟨.needs an bn, rfl, ⟨by omega, by omega, by omega⟩, by intro _ _ _ _ z; cases z⟩
     ·exact ⟨.bans an bn, rfl, ⟨by omega, by omega, by omega⟩, by intro _ _ _ _ z; cases z⟩
    next => cases h
  next => cases h
 next => cases h
theorem zx4 (ks : List Nat) : (ks.map fun k : Nat => PyData.int (k : Int)) = (ks.map fun k : Nat => (k : Int)).map PyData.int := by rw [List.map_map]; rfl
theorem zqr (ks : List Nat) : (ks.map fun k : Nat => (k : Int)).map V.int = ks.map fun k : Nat => V.int (k : Int) := by rw [List.map_map]; rfl
theorem zjr {H : Hp} {u : Nat} {lo hi : Int} {ks : List Nat} {v : V} (h : Dn H (Tie.bough u lo hi ks).toD v) : ∃ p pk, v = .ref p ∧ H p = some (.tup [.int (u : Int), .int lo, .int hi, .ref pk]) ∧ H pk = some (.tup (ks.map fun k : Nat => V.int (k : Int))) := by
 obtain ⟨p, xs, rfl, hp, xu, r1, rfl, hu, xl, r2, rfl, ae, xh, r3, rfl, hh, xk, r4, rfl, hk, aa⟩ := ze5 h
 cases (show r4 = [] from aa)
 cases zdm hu
 cases zdm ae
 cases zdm hh
 obtain ⟨pk, ys, rfl, ad, ac⟩ := ze5 hk
 rw [zx4] at ac
 rw [zn9 ac, zqr] at ad
 exact ⟨p, pk, rfl, hp, ad⟩
theorem zjc {H : Hp} {w : Str} {a b : Int} {v : V} (h : Dn H (.tuple [.str w, .int a, .int b]) v) : ∃ p, v = .ref p ∧ H p = some (.tup [.str w, .int a, .int b]) := by
 obtain ⟨p, xs, rfl, hp, xu, r1, rfl, hu, xl, r2, rfl, ac, xh, r3, rfl, hh, aa⟩ := ze5 h
 cases (show r3 = [] from aa)
 cases (show xu = .str w from hu)
 cases zdm ac
 cases zdm hh
 exact ⟨p, rfl, hp⟩
theorem zqg {H : Hp} {top : Int} {ps : List (Nat × Int)} {v : V} (h : Dn H (Tie.most top ps).toD v) : ∃ p q xs, v = .ref p ∧ H p = some (.tup [.str ("most" : Str), .int top, .ref q]) ∧ H q = some (.tup xs) ∧ DnL H (ps.map zl5) xs := by
 obtain ⟨p, xs, rfl, hp, xu, r1, rfl, hu, xl, r2, rfl, ad, xh, r3, rfl, hh, aa⟩ := ze5 h
 cases (show r3 = [] from aa)
 cases (show xu = .str ("most" : Str) from hu)
 cases zdm ad
 obtain ⟨q, ys, rfl, hq, ac⟩ := ze5 hh
 exact ⟨p, q, ys, rfl, hp, hq, ac⟩
theorem zqe {H : Hp} {ps : List (Nat × Int)} {xs : List V} (h : DnL H (ps.map zl5) xs) {i : Nat} {x : V} (hx : xs[i]? = some x) : ∃ p r, ps[i]? = some p ∧ x = .ref r ∧ H r = some (.tup [.int (p.1 : Int), .int p.2]) := by
 obtain ⟨d, hd, ac⟩ := h.get hx
 rw [List.getElem?_map] at hd
 obtain ⟨p, hp, rfl⟩ := Option.map_eq_some_iff.mp hd
 obtain ⟨r, ys, rfl, hr, xa, r1, rfl, ha, xb, r2, rfl, hb, aa⟩ := ze5 (show Dn H (.tuple [.int (p.1 : Int), .int p.2]) x from ac)
 cases (show r2 = [] from aa)
 cases zdm ha
 cases zdm hb
 exact ⟨p, r, hp, rfl, hr⟩
def zox (n k : Int) : Bool := decide (0 ≤ k) && decide (n / 2 ^ k.toNat % 2 = 1)
theorem zb8 (s u : Nat) : zox (s : Int) (u : Int) = s.testBit u := by
 unfold zox
 rw [decide_eq_true (by omega), Bool.true_and, Nat.testBit_eq_decide_div_mod_eq, Int.toNat_natCast]
 have e : ((s : Int) / 2 ^ u % 2 = 1) ↔ (s / 2 ^ u % 2 = 1) := by
  have e3 : (2 : Int) ^ u = ((2 ^ u : Nat) : Int) := by rw [Int.natCast_pow]; rfl
  rw [e3]
  omega
 by_cases z : s / 2 ^ u % 2 = 1
 ·rw [decide_eq_true z, decide_eq_true (e.mpr z)]
 ·rw [decide_eq_false z, decide_eq_false (fun y => z (e.mp y))]
theorem zx0 (n : Int) (k : Nat) : Builtin.bitAnd (n / 2 ^ k) 1 = n / 2 ^ k % 2 := PySem.W.kbt_mask (n / 2 ^ k) 1
theorem zna (s k : Nat) : Builtin.bitAnd ((s : Int) / 2 ^ ((k : Nat) : Int).toNat) 1 = if s.testBit k = true then 1 else 0 := by
 rw [zx0, Int.toNat_natCast, Nat.testBit_eq_decide_div_mod_eq]
 have e3 : (2 : Int) ^ k = ((2 ^ k : Nat) : Int) := by rw [Int.natCast_pow]; rfl
 rw [e3]
 by_cases z : s / 2 ^ k % 2 = 1
 ·rw [decide_eq_true z, if_pos rfl]
  omega
 ·rw [decide_eq_false z, if_neg (by decide)]
  omega
theorem zjt (s k : Nat) : decide (V.int (Builtin.bitAnd ((s : Int) / 2 ^ ((k : Nat) : Int).toNat) 1) = V.int 1) = s.testBit k := by
 rw [zna]
 cases s.testBit k <;> rfl
end Wd
namespace L2
open PySem PySem.Spec PyProof.Rows
theorem zxv {X : Cx} {st : List Stmt} {t : TS} (h : PSs X st t) : ∃ t', PSs X st t' ∧ ∀ D σ H, t D σ H → t' D σ H := ⟨t, h, fun _ _ _ x => x⟩
section
variable {X : Cx} {o e : Expr} {es : List Expr} {to : TE} {t : TA} {name : Str} {apos cpos : Pos} {T id : String} {r : V → List V → Hp → VK → Prop}
theorem zeu {K : PySem.W.Frag} (pa : PlainAttrs T) (slot : Slot T name id) (hty : typeOf (.builtin id) = pure (.type "method_descriptor")) (hm : MtR X id r) (ho : PE X o to) (ha : PA X (e :: es) t) (hK : X.K = K := by rfl)
  (hbase : attributeBase o name X.env (eval o X.env) = eval o X.env := by rfl)
  (hfew : ((backTo cpos (starEach (e :: es) X.env)).all (fun x => !x.1) && (backToKw cpos (keywordEach [] X.env)).all (fun x => x.1.isSome) && decide ((e :: es).length + ([] : List Keyword).length + (if ([] : List Keyword).isEmpty then 0 else 1) < 30)) = true := by rfl)
  (hline : (apos.endLine == cpos.line) = true := by rfl) (hs : starEach (e :: es) X.env = (false, eval e X.env) :: starEach es X.env := by rfl) (hplain : (backTo cpos (starEach es X.env)).any (·.1) = false := by rfl) :
  PE X (.Call (.Attribute o name apos) (e :: es) [] cpos) (tBM K T r to t) := hK ▸ zxw pa slot hty hm ho ha hbase hfew hline hs hplain
end
theorem Room.lv {A : Around} {j k : Nat} (hr : Room k A) (h : j ≤ k := by first | decide | omega) : Room j A := hr.mono h
structure Df (K : PySem.W.Frag) (mg : Str → Option Value) (x : Str) (st : Stmt) (f : Addr) (fd : FuncData) (ps : List Str) : Prop extends Fun K x x st f fd where
 g : mg x = some (.ref f)
 B : Binds K fd ps []
structure Dm (K : PySem.W.Frag) (x q : Str) (st : Stmt) (f : Addr) (fd : FuncData) (ps : List Str) : Prop extends Fun K x q st f fd where
 B : Binds K fd ps []
theorem zag {X : Cx} {k : Nat} {f : Addr} {fd : FuncData} {ps : List Str} {sp : Sp} {x : Str} {p pos : Pos} {e : Expr} {es : List Expr} {t : TA} {st : Stmt} (F : FnOk X.prog X.w X.K X.mg X.base CX0 k f fd ps sp) (hr : Room k X.A) (hg : Gl X x) (D : Df X.K X.mg x st f fd ps)
  (ha : PA X (e :: es) t) (hdb : (x == ("__debug__" : Str)) = false := by decide) (he : starEach (e :: es) X.env = (false, eval e X.env) :: starEach es X.env := by rfl) (hpl : (backTo pos (starEach es X.env)).any (·.1) = false := by rfl) :
  PE X (.Call (.Name x p) (e :: es) [] pos) (zv5 sp [] E0 t) := zqa F hr hg D.g D.kp D.B .nil zg3 ha hdb he hpl
theorem scm {N P : List Str} {sc : Scope} (a : sc.kind = .function) (b : sc.isCoroutine = false) (c : sc.isGenerator = false) (e : N.take P.length = P) (h : (decide N.Nodup && (decide (∀ x ∈ P, sc.names.lookup x = some .local ∨ sc.names.lookup x = some .cell) && decide (∀ y ∈ sc.names, y.2 ≠ .free))) = true) : zay N P sc := by
 rw [Bool.and_eq_true, Bool.and_eq_true] at h
 exact ⟨a, b, c, of_decide_eq_true h.1, e, of_decide_eq_true h.2.1, of_decide_eq_true h.2.2⟩
def Dk (K : PySem.W.Frag) (x : Str) (st : Stmt) (f : Addr) (fd : FuncData) : Prop := PySem.W.nsIn K mainGlobals x = some (some (.ref f)) ∧ Fun K x x st f fd
def Dq (K : PySem.W.Frag) (C : Addr) (x q : Str) (st : Stmt) (f : Addr) (fd : FuncData) : Prop := PySem.W.findIn K (.ref C) x = some (some (.ref f)) ∧ PySem.W.isFn K (.ref f) = true ∧ Fun K x q st f fd
section
variable {K : PySem.W.Frag} {x q : Str} {st : Stmt} {f C : Addr} {oc : Value} {od an : Option Addr} {osl : Array (Option Value)} {kV doc pm cdv ct : Value}
theorem dk (a : PySem.W.nsIn K mainGlobals x = some (some (.ref f))) (l : K.lookup f = some ⟨oc, od, .func (PySem.W.fnOf x x (zdq st) (za2 st) (zah st) .none kV doc pm an cdv ct), osl⟩) (c : PySem.W.codeIn K cdv x = true) (k : PySem.W.keepIn K (.ref f) = true) :
  Dk K x st f (PySem.W.fnOf x x (zdq st) (za2 st) (zah st) .none kV doc pm an cdv ct) := ⟨a, ztf l c k⟩
theorem dq (a : PySem.W.findIn K (.ref C) x = some (some (.ref f))) (l : K.lookup f = some ⟨oc, od, .func (PySem.W.fnOf x q (zdq st) (za2 st) (zah st) .none kV doc pm an cdv ct), osl⟩) (c : PySem.W.codeIn K cdv q = true) (k : PySem.W.keepIn K (.ref f) = true) (i : PySem.W.isFn K (.ref f) = true) :
  Dq K C x q st f (PySem.W.fnOf x q (zdq st) (za2 st) (zah st) .none kV doc pm an cdv ct) := ⟨a, i, ztf l c k⟩
abbrev Bd (x q : Str) (st : Stmt) (us : List Value) (ps : List Str) : Prop := ∀ (kV doc pm : Value) (an : Option Addr) (cdv ct : Value), bindArgs (PySem.W.fnOf x q (zdq st) (za2 st) (zah st) .none kV doc pm an cdv ct) ⟨us, []⟩ = pure (ps.zip us)
theorem Dk.df {h : Heap} {mg : Str → Option Value} {fd : FuncData} {ps : List Str} (X : K.In h) (G : h.Ns mainGlobals mg) (D : Dk K x st f fd) (b : ∀ us, us.length = ps.length → Bd x x st us ps) : Df K mg x st f fd ps :=
 ⟨D.2, PySem.W.mg_of X G D.1, D.2.binds fun kV doc pm an cdv ct us hl => b us hl kV doc pm an cdv ct⟩
theorem Dq.dm {fd : FuncData} {ps : List Str} (D : Dq K C x q st f fd) (b : ∀ us, us.length = ps.length → Bd x q st us ps) : Dm K x q st f fd ps := ⟨D.2.2, D.2.2.binds fun kV doc pm an cdv ct us hl => b us hl kV doc pm an cdv ct⟩
theorem bd1 {p : List Str} (h : ∀ a, Bd x q st [a] p) : ∀ us : List Value, us.length = 1 → Bd x q st us p | [a], _ => h a
theorem bd2 {p : List Str} (h : ∀ a b, Bd x q st [a, b] p) : ∀ us : List Value, us.length = 2 → Bd x q st us p | [a, b], _ => h a b
theorem bd3 {p : List Str} (h : ∀ a b c, Bd x q st [a, b, c] p) : ∀ us : List Value, us.length = 3 → Bd x q st us p | [a, b, c], _ => h a b c
theorem bd4 {p : List Str} (h : ∀ a b c d, Bd x q st [a, b, c, d] p) : ∀ us : List Value, us.length = 4 → Bd x q st us p | [a, b, c, d], _ => h a b c d
theorem bd5 {p : List Str} (h : ∀ a b c d e, Bd x q st [a, b, c, d, e] p) : ∀ us : List Value, us.length = 5 → Bd x q st us p | [a, b, c, d, e], _ => h a b c d e
theorem zxh {fd : FuncData} {y : Str} (F : Fun K x q st f fd) (h : ∀ v, Bd x q st [v] [y]) (s : Shared) (v : Value) : BindsTo s fd ⟨[v], []⟩ [(y, v)] := by
 obtain ⟨oc, od, kV, doc, pm, an, cdv, ct, osl, rfl, lk, aa⟩ := F.ex
 exact .of_eq (h v kV doc pm an cdv ct)
end
section
variable {X : Cx}
theorem pgT {K : PySem.W.Frag} {pos : Pos} {es : List Expr} {k : Nat} {t : TGs} {n : Nat} (hc : X.calm = true) (h : PGs X es t) (hn : (assignEach es X.env).length = n := by rfl) (hst : (assignEach es X.env).findIdx? (·.1) = none := by rfl) (hK : X.K = K := by rfl) : PG X (.Tuple es k pos) (zxm K n t) := hK ▸ zxe hc h hn hst
theorem zq1 : zd8 X (.type "range") (fun xs H Q => ∃ j : Int, xs = [.int j] ∧ ∀ p, H p = none → Q (.ref p) (upd H p (.rng 0 j))) := by
 intro pins s σ H xs us Q I r h
 obtain ⟨j, rfl, q⟩ := h
 obtain ⟨u, rfl, ⟨t, rfl⟩⟩ := zgw r
 refine call_range_1 ⟨.ref s.heap.objs.size, _, I.laid (fun b o e => Heap.get?_push_of_some _ e) (Nat.le_refl _) (show ObjOk X.prog X.w _ _ _ (.rng 0 j) from ⟨_, _, _, Heap.get?_push_size _ rfl⟩), rfl, q _ (I.hok.fresh (Nat.le_refl _))⟩
end
end L2
namespace Wd
open PySem L2
def zup : Sp := fun vs H Q _ => ∃ (t : Tie) (m n : Nat) (v : V), vs = [v, .int n] ∧ Dn H t.toD v ∧ t.Ok m ∧ m ≤ 1000 ∧ ∀ H', Same H H' → Q (.bl (t.keep n)) H'
def zqd (K : PySem.W.Frag) : Sp := fun vs H Q _ => ∃ (p : Addr) (ns : List Int), vs = [.ref p] ∧ SqL K H p (ns.map V.int) ∧ ns.length ≤ 63 ∧ ∀ H', Q (.bl true) H'
theorem zh5 (k : Nat) : decide (V.int (k : Int) = V.int 0) = decide (k = 0) := by
 rw [zjg]
 by_cases z : k = 0
 ·rw [z]; rfl
 ·rw [decide_eq_false z]
  simpa using z
def zwa (f : Tie → Nat → Nat → Bool) : Sp := fun vs H Q _ => ∃ (t : Tie) (m y n : Nat) (v : V), vs = [v, .int y, .int n] ∧ Dn H t.toD v ∧ t.Ok m ∧ m ≤ 1000 ∧ ∀ H', Same H H' → Q (.bl (f t y n)) H'
def zum (f : Tie → Nat → Nat → Bool) : Sp := fun vs H Q _ => ∃ (u : Nat) (lo hi : Int) (ks : List Nat) (m y n : Nat) (v : V), vs = [v, .int y, .int n] ∧ Dn H (Tie.bough u lo hi ks).toD v ∧ Tie.BoughOkW m u lo hi ks ∧ m ≤ 1000 ∧ ∀ H', Same H H' → Q (.bl (f (Tie.bough u lo hi ks) y n)) H'
def zvx (f : List (Nat × Int) → Nat → Nat → Int) : Sp := fun vs H Q _ => ∃ (q : Addr) (xs : List V) (ps : List (Nat × Int)) (y n : Nat), vs = [.ref q, .int y, .int n] ∧ H q = some (.tup xs) ∧ DnL H (ps.map zl5) xs ∧ ps.length ≤ 1000 ∧ ∀ H', Same H H' → Q (.int (f ps y n)) H'
theorem zl4 {P : Tie → Prop} : ∀ {l : List PyData}, (∀ d ∈ l, ∃ t : Tie, d = t.toD ∧ P t) → ∃ ts : List Tie, l = ts.map Tie.toD ∧ ∀ t ∈ ts, P t
 | [], _ => ⟨[], rfl, (fun _ z => nomatch z)⟩
 | d :: r, h => by
  obtain ⟨t, e, p⟩ := h d List.mem_cons_self
  obtain ⟨ts, e2, p2⟩ := zl4 fun x hx => h x (List.mem_cons_of_mem _ hx)
  refine ⟨t :: ts, by rw [e, e2]; rfl, fun x hx => ?_⟩
  rcases List.mem_cons.mp hx with rfl | z
  ·exact p
  ·exact p2 x z
theorem zr4 {m : Nat} {d : PyData} (h : zfc m d = true) : ∃ t : Tie, d = t.toD ∧ t.Ok m := by
 obtain ⟨u, lo, hi, ks, e, ok⟩ := zhs h
 exact ⟨.bough u lo hi ks, e, ok.toBoughOkW⟩
theorem zrw {m : Nat} {d : PyData} (h : ziv m d = true) : ∃ t : Tie, d = t.toD ∧ t.Ok m := by
 obtain ⟨t, e, ok, _⟩ := zm3 h
 exact ⟨t, e, ok⟩
theorem zw4 {H : Hp} {ts : List Tie} {xs : List V} (h : DnL H (ts.map Tie.toD) xs) {i : Nat} {x : V} (hx : xs[i]? = some x) : ∃ t, ts[i]? = some t ∧ Dn H t.toD x := by
 obtain ⟨d, hd, q⟩ := h.get hx
 rw [List.getElem?_map] at hd
 obtain ⟨t, ht, rfl⟩ := Option.map_eq_some_iff.mp hd
 exact ⟨t, ht, q⟩
theorem zfr {c A B : Prop} [Decidable c] (hc : c) (h : A) : if decide c = true then A else B := by
 rw [decide_eq_true hc]
 exact zll h
theorem zbs {c A B : Prop} [Decidable c] (hc : ¬ c) (h : B) : if decide c = true then A else B := by
 rw [decide_eq_false hc]
 exact zd1 h
theorem zk2 {c A B : Prop} [Decidable c] (hc : ¬ c) (h : A) : if (!decide c) = true then A else B := by
 rw [decide_eq_false hc]
 exact zll h
theorem zkj {b : Bool} {A B : Prop} (hc : b = true) (h : A) : if b = true then A else B := by
 rw [if_pos hc]; exact h
theorem zvv {b : Bool} {A B : Prop} (hc : b = false) (h : B) : if b = true then A else B := by
 rw [hc]; exact zd1 h
theorem zp2 {x y : Str} (h : ¬ x = y) : ¬ V.str x = V.str y := fun z => by injection z with z; exact h z
theorem zjq : ¬ V.str ("bans" : Str) = V.str ("needs" : Str) := zp2 (by decide +kernel)
theorem zk4 : ¬ V.str ("most" : Str) = V.str ("needs" : Str) := zp2 (by decide +kernel)
theorem zmc : ¬ V.str ("most" : Str) = V.str ("bans" : Str) := zp2 (by decide +kernel)
theorem int_str {i : Int} {x : Str} : ¬ V.int i = V.str x := fun z => by cases z
end Wd
namespace Wd
open PySem L2 Ow
structure WoodT (H : Hp) (wd : Addr) (m : Nat) (ts : List Tie) : Prop where
 ex : ∃ xs ys, WoodAt H wd m xs ys ∧ DnL H (ts.map Tie.toD) (xs ++ ys)
 ok : ∀ t ∈ ts, t.Ok m
 few : ts.length ≤ 900
 m9 : m ≤ 900
theorem WoodAt.same {H H' : Hp} {wd : Addr} {m : Int} {xs ys : List V} (s : Same H H') (h : WoodAt H wd m xs ys) : WoodAt H' wd m xs ys := by
 obtain ⟨tb, tc, h1, h2, h3⟩ := h.ex
 exact ⟨tb, tc, s _ _ h1, s _ _ h2, s _ _ h3⟩
theorem WoodT.same {H H' : Hp} {wd : Addr} {m : Nat} {ts : List Tie} (s : Same H H') (h : WoodT H wd m ts) : WoodT H' wd m ts := by
 obtain ⟨xs, ys, h1, h2⟩ := h.ex
 exact ⟨⟨xs, ys, WoodAt.same s h1, DnL.same s _ _ h2⟩, h.ok, h.few, h.m9⟩
def zhq : Option Nat → V
 | none => .non
 | some i => .int (i : Int)
def zbg (ts : List Tie) (n : Nat) : Bool := n.testBit 0 && ts.all fun t => t.keep n
theorem ztr (o : Option Nat) : decide (zhq o = V.non) = decide (o = none) := by
 cases o <;> rfl
def zuw : Sp := fun vs H Q _ => ∃ (wd : Addr) (m : Nat) (ts : List Tie), vs = [.ref wd] ∧ WoodT H wd m ts ∧ ∀ (l : Addr) (H' : Hp), Same H H' → H l = none → H' l = some (.lst ((List.range ts.length).map fun i : Nat => V.int (i : Int))) → Q (.ref l) H'
end Wd
namespace Wd
theorem zoa : ∀ (k a b : Nat), (∀ j, a.testBit j = true → b.testBit j = false) → (a + b).testBit k = (a.testBit k || b.testBit k)
 | k, a, b, h => by
  have h0 := h 0
  rw [Nat.testBit_zero, Nat.testBit_zero] at h0
  have p : a % 2 + b % 2 ≤ 1 := by
   by_cases z : a % 2 = 1
   ·have := h0 (decide_eq_true z)
    have := of_decide_eq_false this
    omega
   ·omega
  cases k with
  | zero =>
   rw [Nat.testBit_zero, Nat.testBit_zero, Nat.testBit_zero]
   by_cases z : a % 2 = 1
   ·rw [decide_eq_true z, decide_eq_true (by omega), Bool.true_or]
   ·rw [decide_eq_false z, Bool.false_or]
    by_cases y : b % 2 = 1
    ·rw [decide_eq_true y, decide_eq_true (by omega)]
    ·rw [decide_eq_false y, decide_eq_false (by omega)]
  | succ k =>
   rw [Nat.testBit_add_one, Nat.testBit_add_one, Nat.testBit_add_one]
   have e : (a + b) / 2 = a / 2 + b / 2 := by omega
   rw [e]
   refine zoa k (a / 2) (b / 2) fun j hj => ?_
   have := h (j + 1)
   rw [Nat.testBit_add_one, Nat.testBit_add_one] at this
   exact this hj
theorem zv6 {a b : Nat} (h : ∀ j, a.testBit j = true → b.testBit j = false) : a + b = a ||| b :=
 Nat.eq_of_testBit_eq fun k => by rw [zoa k a b h, Nat.testBit_or]
theorem znk : ∀ (k y a : Nat), (∀ j, a.testBit j = true → y.testBit j = true) → (y - a).testBit k = (y.testBit k && !a.testBit k)
 | k, y, a, h => by
  have le : a ≤ y := by
   have e : a = a &&& y := Nat.eq_of_testBit_eq fun j => by
    rw [Nat.testBit_and]
    cases e : a.testBit j with
    | false => rfl
    | true => rw [h j e]; rfl
   rw [e]
   exact Nat.and_le_right
  have h0 := h 0
  rw [Nat.testBit_zero, Nat.testBit_zero] at h0
  have p : a % 2 ≤ y % 2 := by
   by_cases z : a % 2 = 1
   ·have := of_decide_eq_true (h0 (decide_eq_true z))
    omega
   ·omega
  cases k with
  | zero =>
   rw [Nat.testBit_zero, Nat.testBit_zero, Nat.testBit_zero]
   by_cases z : a % 2 = 1
   ·rw [decide_eq_true z, decide_eq_false (by omega)]; simp
   ·rw [decide_eq_false z]
    by_cases x : y % 2 = 1
    ·rw [decide_eq_true x, decide_eq_true (by omega)]; rfl
    ·rw [decide_eq_false x, decide_eq_false (by omega)]; rfl
  | succ k =>
   rw [Nat.testBit_add_one, Nat.testBit_add_one, Nat.testBit_add_one]
   have e : (y - a) / 2 = y / 2 - a / 2 := by omega
   rw [e]
   refine znk k (y / 2) (a / 2) fun j hj => ?_
   have := h (j + 1)
   rw [Nat.testBit_add_one, Nat.testBit_add_one] at this
   exact this hj
theorem zr1 (a b : Nat) : a ||| b = a + (b - (a &&& b)) := by
 have hb : ∀ j, (b - (a &&& b)).testBit j = (b.testBit j && !(a &&& b).testBit j) := fun j => znk j b (a &&& b) fun i hi => by
  rw [Nat.testBit_and, Bool.and_eq_true] at hi
  exact hi.2
 rw [zv6 fun j hj => by rw [hb, Nat.testBit_and, hj]; cases b.testBit j <;> rfl]
 refine Nat.eq_of_testBit_eq fun j => ?_
 rw [Nat.testBit_or, Nat.testBit_or, hb, Nat.testBit_and]
 cases a.testBit j <;> cases b.testBit j <;> rfl
theorem zhx (p : Nat → Bool) (i : Nat) : (List.range (i + 1)).filter p = (List.range i).filter p ++ (if p i = true then [i] else []) := by
 rw [List.range_succ, List.filter_append]
 congr 1
 by_cases h : p i = true <;> simp [h]
theorem zb4 (y k j : Nat) : (y ||| 2 ^ k).testBit j = (y.testBit j || decide (k = j)) := by rw [Nat.testBit_or, Nat.testBit_two_pow]
theorem inS_split {y n k s : Nat} : InS y n s ↔ InS (y ||| 2 ^ k) n s ∨ InS y (n ||| 2 ^ k) s := by
 constructor
 ·rintro ⟨h1, h2⟩
  cases e : s.testBit k with
  | true =>
   refine .inl ⟨fun j hj => ?_, h2⟩
   rw [zb4, Bool.or_eq_true, decide_eq_true_eq] at hj
   rcases hj with z | rfl
   ·exact h1 j z
   ·exact e
  | false =>
   refine .inr ⟨h1, fun j hj => ?_⟩
   rw [zb4, Bool.or_eq_true, decide_eq_true_eq] at hj
   rcases hj with z | rfl
   ·exact h2 j z
   ·exact e
 ·rintro (⟨h1, h2⟩ | ⟨h1, h2⟩)
  ·exact ⟨fun j hj => h1 j (by rw [zb4, hj, Bool.true_or]), h2⟩
  ·exact ⟨h1, fun j hj => h2 j (by rw [zb4, hj, Bool.true_or])⟩
theorem zso {y n k : Nat} (d : ∀ j, y.testBit j = true → n.testBit j = false) (hn : n.testBit k = false) : ∀ j, (y ||| 2 ^ k).testBit j = true → n.testBit j = false := fun j hj => by
 rw [zb4, Bool.or_eq_true, decide_eq_true_eq] at hj
 rcases hj with z | rfl
 ·exact d j z
 ·exact hn
theorem zs4 {y n k : Nat} (d : ∀ j, y.testBit j = true → n.testBit j = false) (hy : y.testBit k = false) : ∀ j, y.testBit j = true → (n ||| 2 ^ k).testBit j = false := fun j hj => by
 rw [zb4, d j hj, Bool.false_or]
 exact decide_eq_false fun z => by rw [← z, hy] at hj; cases hj
theorem zfv {y n : Nat} (d : ∀ j, y.testBit j = true → n.testBit j = false) : InS y n y := ⟨fun _ z => z, fun k hk => by
 cases e : y.testBit k with
 | false => rfl
 | true => rw [d k e] at hk; cases hk⟩
theorem zod {m y n s : Nat} (full : ∀ k, k < m → (y ||| n).testBit k = true) (hs : InS y n s) (d : ∀ j, y.testBit j = true → n.testBit j = false) : ∀ k, k < m → s.testBit k = y.testBit k := fun k hk => by
 have h := full k hk
 rw [Nat.testBit_or, Bool.or_eq_true] at h
 rcases h with z | z
 ·rw [z, hs.1 k z]
 ·rw [hs.2 k z, (zfv d).2 k z]
theorem zux {m : Nat} {t : Tie} (ok : t.Ok m) {y n : Nat} (d : ∀ j, y.testBit j = true → n.testBit j = false) (full : ∀ k, k < m → (y ||| n).testBit k = true) : t.sb y n = !t.keep y := by
 rw [Bool.eq_iff_iff, zts ok d, Bool.not_eq_true']
 constructor
 ·intro h
  exact h y (zfv d)
 ·intro h s hs
  rw [zph ok (zod full hs d)]
  exact h
end Wd
namespace L2
open PySem
theorem zhg {X : Cx} (hu : X.A.units + 64 < cLine) : OpR X (compareOp .Eq) (fun x y H Q => ∃ (a b : Addr) (ns ms : List Int), x = .ref a ∧ y = .ref b ∧ SqL X.K H a (ns.map V.int) ∧ SqL X.K H b (ms.map V.int) ∧ Q (.bl (decide (ns = ms))) H) := by
 intro pins s σ H x y v u Q I rx ry h
 obtain ⟨a, b, ns, ms, rfl, rfl, ha, hb, q⟩ := h
 cases rx
 cases ry
 obtain ⟨xs, rv, p, _⟩ := I.list ha
 obtain ⟨ys, aa, p', _⟩ := I.list hb
 exact PySem.W.ke_eq_ints p.isList p'.isList (zec rv) (zec aa) hu ⟨.bl _, H, I, rfl, q⟩
theorem zh9 {k : Nat} {σ0 : St} {H : Hp} {g : TG} {tc : TT} {te : TE} {Q : VK} (Pv : Nat → List V → St → Hp → Prop) (h0 : Pv 0 [] σ0 H) (hz : ∀ i ys σ H, i ≤ k → Pv i ys σ H → ys.length ≤ sizeLine)
  (hs : ∀ i ys σ H, i < k → Pv i ys σ H → g (.int (i : Int)) σ H fun σ3 H3 => tc σ3 H3 fun b H4 => if b = true then te σ3 H4 fun v H5 => Pv (i + 1) (ys ++ [v]) σ3 H5 else Pv (i + 1) ys σ3 H4)
  (hd : ∀ ys σ H, Pv k ys σ H → ∀ p, H p = none → Q (.ref p) (upd H p (.lst ys))) :
  zpt (Itr 0 k) g tc te σ0 H Q :=
 zuc (lo := 0) Pv h0 hz (fun i ys σ H hi p => by rw [Int.zero_add]; exact hs i ys σ H hi p) hd
theorem zd9 {n : Nat} {g : TG} {tb : TS} {D : zgt} {σ : St} {H : Hp} (Pv : Nat → St → Hp → Prop) (h0 : Pv 0 σ H)
  (hs : ∀ i σ H, i < n → Pv i σ H → g (.int (i : Int)) σ H fun σ2 H2 => tb { D with nx := Pv (i + 1), ct := Pv (i + 1), bk := D.nx } σ2 H2) (hd : ∀ σ H, Pv n σ H → D.nx σ H) :
  ∃ W : Nat → Nat → St → Hp → Prop, (∃ m, W 0 m σ H) ∧ ∀ i m σ H, W i m σ H →
   ((Itr 0 n).stop i H ∧ D.nx σ H) ∨ ((Itr 0 n).go i H ∧ ∃ N : St → Hp → Prop, (∀ σ' H', N σ' H' → ∃ m', m' < m ∧ W (i + 1) m' σ' H') ∧ ∀ x H', (Itr 0 n).yld i H x H' → g x σ H' fun σ2 H2 => tb { D with nx := N, ct := N, bk := D.nx } σ2 H2) :=
 zl3 (lo := 0) Pv h0 (fun i σ H hi p => by rw [Int.zero_add]; exact hs i σ H hi p) hd
end L2
namespace Wd
open PySem L2 Ow
theorem ze2 (a b : Nat) : Builtin.bitAnd (a : Int) (b : Int) = ((a &&& b : Nat) : Int) := by
 rw [PyProof.Rows.bitAnd_pp (by omega) (by omega), Int.toNat_natCast, Int.toNat_natCast]
theorem zh3 (a b : Nat) : Builtin.bitOr (a : Int) (b : Int) = ((a ||| b : Nat) : Int) := by
 have le : a &&& b ≤ b := Nat.and_le_right
 rw [PyProof.Rows.bitOr_and, PyProof.Rows.bitAnd_pp (by omega) (by omega), Int.toNat_natCast, Int.toNat_natCast, zr1]
 omega
theorem zlm (k : Nat) : 1 * (2 : Int) ^ ((k : Nat) : Int).toNat = ((2 ^ k : Nat) : Int) := by
 rw [Int.one_mul, Int.toNat_natCast, Int.natCast_pow]
 rfl
theorem zs6 (k : Nat) : 0 < 2 ^ k := Nat.pow_pos (by decide)
def zdt (l : List Stmt) (i : Nat) : List Stmt :=
 match l[i]? with
 | some (Stmt.For _ _ b _ _) => b
 | _ => []
def KpX (pen : Addr) (H H' : Hp) (b : Addr) : HO → Prop
 | .tbl _ => (∃ ps, H' b = some (.tbl ps)) ∧ (zcp H b → (∃ ys, H pen = some (.lst ys)) → zcp H' b ∧ ∃ ys, H' pen = some (.lst ys))
 | o => H' b = some o
def SameX (pen : Addr) (H H' : Hp) : Prop := ∀ b o, b ≠ pen → H b = some o → KpX pen H H' b o
theorem KpX.some {pen : Addr} {H H' : Hp} {b : Addr} {o : HO} (k : KpX pen H H' b o) : ∃ u, H' b = some u := by
 cases o
 case tbl ps => exact ⟨_, k.1.choose_spec⟩
 all_goals exact ⟨_, k⟩
theorem SameX.refl (pen : Addr) (H : Hp) : SameX pen H H := fun _ o _ h => by
 cases o
 case tbl ps => exact ⟨⟨_, h⟩, fun a b => ⟨a, b⟩⟩
 all_goals exact h
theorem SameX.trans {pen : Addr} {H H1 H2 : Hp} (a : SameX pen H H1) (b : SameX pen H1 H2) : SameX pen H H2 := fun c o n h => by
 have z := a c o n h
 cases o
 case tbl ps =>
  obtain ⟨⟨qs, hq⟩, k⟩ := z
  obtain ⟨q2, k2⟩ := b c _ n hq
  exact ⟨q2, fun t y => k2 (k t y).1 (k t y).2⟩
 all_goals exact b c _ n z
theorem Same.x {pen : Addr} {H H' : Hp} (s : Same H H') : SameX pen H H' := fun b o _ h => by
 have z := s b o h
 cases o
 case tbl ps => exact ⟨z.1, fun t ⟨ys, y⟩ => ⟨z.2 t, ys, s pen _ y⟩⟩
 all_goals exact z
theorem za1 {pen : Addr} {H : Hp} (o : HO) (ho : ∃ ys, o = .lst ys := by exact ⟨_, rfl⟩) : SameX pen H (upd H pen o) := fun b u n h => by
 cases u
 case tbl ps =>
  refine ⟨⟨ps, by rw [zak n]; exact h⟩, ?_⟩
  rintro ⟨qs, hq, tr, hp⟩ ⟨ys, hy⟩
  obtain ⟨zs, rfl⟩ := ho
  refine ⟨⟨qs, by rw [zak n]; exact hq, tr, fun pos => ?_⟩, ⟨zs, zac⟩⟩
  rcases hp pos with z | ⟨c, z1, z2⟩
  ·exact .inl z
  ·refine .inr ⟨c, z1, ?_⟩
   rw [zak fun z => by rw [z, hy] at z2; cases z2]
   exact z2
 all_goals (show upd H pen o b = _; rw [zak n]; exact h)
theorem Same.put {H H1 : Hp} {p : Addr} {xs : List V} {o : HO} (s : Same H H1) (n : H p = none) (e : H1 p = some (.lst xs)) : Same H (upd H1 p o) := fun b u hb => by
 have ne : b ≠ p := zam hb n
 have z := s b u hb
 cases u
 case tbl ps =>
  refine ⟨⟨z.1.choose, by rw [zak ne]; exact z.1.choose_spec⟩, fun t => ?_⟩
  obtain ⟨qs, hq, tr, hp⟩ := z.2 t
  refine ⟨qs, by rw [zak ne]; exact hq, tr, fun pos => ?_⟩
  rcases hp pos with y | ⟨c, y1, y2⟩
  ·exact .inl y
  ·refine .inr ⟨c, y1, ?_⟩
   rw [zak fun z => by rw [z, e] at y2; cases y2]
   exact y2
 all_goals (show upd H1 p o b = _; rw [zak ne]; exact z)
theorem SameX.put {pen : Addr} {H H1 : Hp} {p : Addr} {xs : List V} {o : HO} (s : SameX pen H H1) (n : H p = none) (np : p ≠ pen) (e : H1 p = some (.lst xs)) : SameX pen H (upd H1 p o) := fun b u nb hb => by
 have ne : b ≠ p := zam hb n
 have z := s b u nb hb
 cases u
 case tbl ps =>
  refine ⟨⟨z.1.choose, by rw [zak ne]; exact z.1.choose_spec⟩, fun t y => ?_⟩
  obtain ⟨⟨qs, hq, tr, hp⟩, ys, hy⟩ := z.2 t y
  refine ⟨⟨qs, by rw [zak ne]; exact hq, tr, fun pos => ?_⟩, ys, by rw [zak (Ne.symm np)]; exact hy⟩
  rcases hp pos with y | ⟨c, y1, y2⟩
  ·exact .inl y
  ·refine .inr ⟨c, y1, ?_⟩
   rw [zak fun z => by rw [z, e] at y2; cases y2]
   exact y2
 all_goals (show upd H1 p o b = _; rw [zak ne]; exact z)
theorem SameX.tab {pen P : Addr} {H H' : Hp} {ys : List V} (s : SameX pen H H') (hp : H pen = some (.lst ys)) (t : zcp H P) : zcp H' P := by
 obtain ⟨ps, h, _⟩ := id t
 exact ((s P _ (fun z => by rw [z, hp] at h; cases h) h).2 t ⟨ys, hp⟩).1
theorem SameX.free {pen l : Addr} {H H' : Hp} (s : SameX pen H H') (hp : ∃ o, H' pen = some o) (h : H' l = none) : H l = none := by
 cases q : H l with
 | none => rfl
 | some o =>
  obtain ⟨o', e⟩ := hp
  have n : l ≠ pen := fun z => by rw [z, e] at h; cases h
  obtain ⟨u, z⟩ := (s l o n q).some
  rw [z] at h
  cases h
structure Pen (K : PySem.W.Frag) (H : Hp) (pen sp : Addr) (ns : List Int) (k : Int) : Prop where
 at_ : H pen = some (.lst [.ref sp, .int k])
 len : ns.length ≤ 63
 scr : ∀ H', SameX pen H H' → SqL K H' sp (ns.map V.int)
theorem Pen.to {K : PySem.W.Frag} {H H' : Hp} {pen sp : Addr} {ns : List Int} {k k' : Int} (p : Pen K H pen sp ns k) (s : SameX pen H H') (e : H' pen = some (.lst [.ref sp, .int k'])) : Pen K H' pen sp ns k' :=
 ⟨e, p.len, fun H2 s2 => p.scr H2 (s.trans s2)⟩
theorem Dn.pen {H : Hp} {p : Addr} {xs ys : List V} (h : H p = some (.lst xs)) {n : Nat} {d : PyData} {v : V} (f : zbn n d = true) (q : Dn H d v) : Dn (upd H p (.lst ys)) d v := Dn.keepT (zn5 h) n d v f q
theorem DnL.pen {H : Hp} {p : Addr} {xs ys : List V} (h : H p = some (.lst xs)) {n : Nat} {ds : List PyData} {vs : List V} (f : ds.all (zbn n) = true) (q : DnL H ds vs) : DnL (upd H p (.lst ys)) ds vs := DnL.keepT (Dn.keepT (zn5 h) n) ds vs f q
def zc7 (H H' : Hp) : Prop := ∀ b xs, H b = some (.tup xs) → H' b = some (.tup xs)
theorem SameX.tup {pen : Addr} {H H' : Hp} {ys : List V} (e : H pen = some (.lst ys)) (s : SameX pen H H') : zc7 H H' := fun b xs h => s b _ (fun z => by rw [z, e] at h; cases h) h
theorem DnL.tupS {H H' : Hp} (t : zc7 H H') {n : Nat} {ds : List PyData} {vs : List V} (f : ds.all (zbn n) = true) (q : DnL H ds vs) : DnL H' ds vs := DnL.keepT (Dn.keepT t n) ds vs f q
def zwm (K : PySem.W.Frag) : Sp := fun vs H Q _ => ∃ (pen sp : Addr) (ns : List Int) (most k : Int), vs = [.ref pen, .int most] ∧ Pen K H pen sp ns k ∧ 0 ≤ k ∧ k ≤ 1000000 ∧ 0 < most ∧ ∀ c : Int, 0 ≤ c → c < most → Q (.int c) (L2.upd H pen (.lst [.ref sp, .int (k + 1)]))
structure WoodX (H : Hp) (wd : Addr) (m : Nat) (bs cs : List PyData) : Prop where
 ex : ∃ xs ys, WoodAt H wd m xs ys ∧ DnL H bs xs ∧ DnL H cs ys
 gb : zvw m bs
 gc : ∀ c ∈ cs, ziv m c = true
 b8 : bs.length ≤ 9
 c8 : cs.length ≤ 20
 fb : bs.all (zbn 3) = true
 fc : cs.all (zbn 3) = true
 m1 : 1 ≤ m
 m9 : m ≤ 9
theorem WoodX.tupS {H H' : Hp} {wd : Addr} {m : Nat} {bs cs : List PyData} (t : zc7 H H') (h : WoodX H wd m bs cs) : WoodX H' wd m bs cs := by
 obtain ⟨xs, ys, ⟨tb, tc, h1, h2, h3⟩, db, dc⟩ := h.ex
 exact ⟨⟨xs, ys, ⟨tb, tc, t _ _ h1, t _ _ h2, t _ _ h3⟩, DnL.tupS t h.fb db, DnL.tupS t h.fc dc⟩, h.gb, h.gc, h.b8, h.c8, h.fb, h.fc, h.m1, h.m9⟩
theorem Same.tup {H H' : Hp} (s : Same H H') : zc7 H H' := fun b xs h => s b _ h
theorem WoodX.ties {H : Hp} {wd : Addr} {m : Nat} {bs cs : List PyData} (h : WoodX H wd m bs cs) : ∃ ts : List Tie, bs ++ cs = ts.map Tie.toD ∧ (∀ t ∈ ts, t.Ok m) ∧ ts.length ≤ 29 ∧ ∀ H', zc7 H H' → WoodT H' wd m ts := by
 obtain ⟨ts, aa, ac⟩ := zl4 (P := fun t => t.Ok m) (l := bs ++ cs) fun x hx => by
  rcases List.mem_append.mp hx with z | z
  ·exact zr4 (h.gb.each x z)
  ·exact zrw (h.gc x z)
 have lt : ts.length = bs.length + cs.length := by rw [← List.length_append, aa, List.length_map]
 have b8 := h.b8
 have c8 := h.c8
 have m9 := h.m9
 refine ⟨ts, aa, ac, by omega, fun H' t => ?_⟩
 obtain ⟨xs, ys, WA, db, dc⟩ := (h.tupS t).ex
 exact ⟨⟨xs, ys, WA, by rw [← aa]; exact db.append dc⟩, ac, by omega, by omega⟩
theorem _root_.Ow.GAt.add2 {H0 H : Hp} {g l t : Addr} {gs : List Grp} {u k : Int} (G : GAt H0 H g gs) (hf : H0 l = none) (hl : H l = none) (ht : upd H l (.lst [.int k]) t = none) :
  GAt H0 (upd (upd (upd H l (.lst [.int k])) t (.tup [.int u, .ref l])) g (.lst ((gs.map fun x => V.ref x.t) ++ [.ref t]))) g (gs ++ [⟨t, u, l, [k]⟩]) := by
 have aa : g ≠ l := zam G.at_ hl
 have s1 := zaf hl (.lst [.int k])
 have s2 := s1.trans (zaf ht (.tup [.int u, .ref l]))
 have ad : t ≠ l := fun z => by rw [z, zac] at ht; cases ht
 have ac : g ≠ t := zam (s1 _ _ G.at_) ht
 refine ⟨?_, G.new, fun x hx => ?_, fun x hx => ?_, ?_⟩
 ·rw [zac, List.map_append]
  rfl
 ·rcases List.mem_append.mp hx with z | z
  ·rw [zak (zn1 (G.tup x z) G.at_ (by intro q; cases q))]
   exact s2 _ _ (G.tup x z)
  ·rw [List.mem_singleton.mp z]
   show L2.upd _ g _ t = _
   rw [zak (Ne.symm ac), zac]
 ·rcases List.mem_append.mp hx with z | z
  ·obtain ⟨a, b, c⟩ := G.lst x z
   refine ⟨?_, b, c⟩
   rw [zak (Ne.symm c)]
   exact s2 _ _ a
  ·rw [List.mem_singleton.mp z]
   refine ⟨?_, hf, aa⟩
   show L2.upd _ g _ l = _
   rw [zak (Ne.symm aa), zak (Ne.symm ad), zac]
   rfl
 ·rw [List.map_append]
  refine List.nodup_append.mpr ⟨G.nd, by simp, fun x hx y hy => ?_⟩
  obtain ⟨z, hz, rfl⟩ := List.mem_map.mp hx
  have e : y = l := by simpa using hy
  rw [e]
  exact zam (G.lst z hz).1 hl
theorem _root_.Ow.GAt.pen {H0 H : Hp} {g pen : Addr} {gs : List Grp} {xs ys : List V} (G : GAt H0 H g gs) (h0 : ∃ o, H0 pen = some o) (h : H pen = some (.lst xs)) : GAt H0 (L2.upd H pen (.lst ys)) g gs := by
 obtain ⟨o, e0⟩ := h0
 refine ⟨?_, G.new, fun x hx => ?_, fun x hx => ?_, G.nd⟩
 ·rw [zak (fun z => by rw [← z, G.new] at e0; cases e0)]
  exact G.at_
 ·rw [zak (zn1 (G.tup x hx) h (by intro q; cases q))]
  exact G.tup x hx
 ·obtain ⟨a, b, c⟩ := G.lst x hx
  refine ⟨?_, b, c⟩
  rw [zak (fun z => by rw [← z, b] at e0; cases e0)]
  exact a
end Wd
namespace Wd
def zhh (ts : List Tie) (i s : Nat) : Bool := match ts[i]? with
 | some t => t.keep s
 | none => true
def zko (ts : List Tie) (i y n : Nat) : Bool := match ts[i]? with
 | some t => t.sb y n
 | none => false
def za6 (ts : List Tie) (il : List Nat) (y n : Nat) : Option Nat := il.find? fun i => zko ts i y n
def zas (m y n : Nat) : List Nat := (List.range m).filter fun k => !(y ||| n).testBit k
theorem mem_open {m y n k : Nat} : k ∈ zas m y n ↔ k < m ∧ y.testBit k = false ∧ n.testBit k = false := by
 unfold zas
 rw [List.mem_filter, List.mem_range, Bool.not_eq_true', Nat.testBit_or, Bool.or_eq_false_iff]
theorem ztp (m y n k : Nat) : zas m (y ||| 2 ^ k) n = (zas m y n).filter fun j => !decide (k = j) := by
 unfold zas
 rw [List.filter_filter]
 refine List.filter_congr fun j _ => ?_
 rw [Nat.testBit_or, zb4, Nat.testBit_or]
 cases y.testBit j <;> cases n.testBit j <;> cases decide (k = j) <;> rfl
theorem zpx (m y n k : Nat) : zas m y (n ||| 2 ^ k) = (zas m y n).filter fun j => !decide (k = j) := by
 unfold zas
 rw [List.filter_filter]
 refine List.filter_congr fun j _ => ?_
 rw [Nat.testBit_or, zb4, Nat.testBit_or]
 cases y.testBit j <;> cases n.testBit j <;> cases decide (k = j) <;> rfl
theorem zi1 {l : List Nat} {k : Nat} (h : k ∈ l) : (l.filter fun j => !decide (k = j)).length < l.length := by
 refine Nat.lt_of_le_of_ne (List.length_filter_le _ _) fun e => ?_
 have := List.length_filter_eq_length_iff.mp e k h
 simp at this
theorem zc5 {m y n k : Nat} (h : k ∈ zas m y n) : (zas m (y ||| 2 ^ k) n).length < (zas m y n).length := by
 rw [ztp]; exact zi1 h
theorem zc8 {m y n k : Nat} (h : k ∈ zas m y n) : (zas m y (n ||| 2 ^ k)).length < (zas m y n).length := by
 rw [zpx]; exact zi1 h
theorem zc1 (m y n : Nat) : (zas m y n).length ≤ m := by
 refine Nat.le_trans (List.length_filter_le _ _) ?_
 rw [List.length_range]
 exact Nat.le_refl _
theorem zmz {m y k : Nat} (h : y < 2 ^ m) (hk : k < m) : y ||| 2 ^ k < 2 ^ m := by
 refine Nat.lt_pow_two_of_testBit _ fun i hi => ?_
 rw [zb4, Nat.testBit_lt_two_pow (Nat.lt_of_lt_of_le h (Nat.pow_le_pow_right (by decide) hi)), Bool.false_or]
 exact decide_eq_false (by omega)
theorem zpf {x y : Nat} (k : Nat) (hx : x.testBit k = false) (hy : y.testBit k = true) (h : ∀ j, k < j → x.testBit j = y.testBit j) : x < y := by
 have e : x / 2 ^ (k + 1) = y / 2 ^ (k + 1) := Nat.eq_of_testBit_eq fun j => by
  rw [← Nat.testBit_add, ← Nat.testBit_add]
  exact h _ (by omega)
 have r1 : x % 2 ^ (k + 1) < 2 ^ k := Nat.lt_pow_two_of_testBit _ fun i hi => by
  rw [Nat.testBit_mod_two_pow]
  by_cases z : i = k
  ·rw [z, hx, Bool.and_false]
  ·rw [decide_eq_false (by omega), Bool.false_and]
 have r2 : 2 ^ k ≤ y % 2 ^ (k + 1) := Nat.ge_two_pow_of_testBit (by
  rw [Nat.testBit_mod_two_pow, hy, decide_eq_true (by omega)]; rfl)
 have d1 := Nat.div_add_mod x (2 ^ (k + 1))
 have d2 := Nat.div_add_mod y (2 ^ (k + 1))
 rw [e] at d1
 omega
theorem zo0 {m a b : Nat} (ha : a < 2 ^ m) (hb : b < 2 ^ m) (h : ∀ k, k < m → a.testBit k = b.testBit k) : a = b := by
 refine Nat.eq_of_testBit_eq fun k => ?_
 by_cases z : k < m
 ·exact h k z
 ·have : 2 ^ m ≤ 2 ^ k := Nat.pow_le_pow_right (by decide) (by omega)
  rw [Nat.testBit_lt_two_pow (by omega), Nat.testBit_lt_two_pow (by omega)]
def zds (ts : List Tie) (il : List Nat) (s : Nat) : Bool := il.all fun i => zhh ts i s
structure Stand (m y n : Nat) : Prop where
 dj : ∀ k, y.testBit k = true → n.testBit k = false
 ym : y < 2 ^ m
 nm : n < 2 ^ m
theorem Stand.one {m y n k : Nat} (S : Stand m y n) (h : k ∈ zas m y n) : Stand m (y ||| 2 ^ k) n := by
 obtain ⟨km, ky, kn⟩ := mem_open.mp h
 exact ⟨zso S.dj kn, zmz S.ym km, S.nm⟩
theorem Stand.other {m y n k : Nat} (S : Stand m y n) (h : k ∈ zas m y n) : Stand m y (n ||| 2 ^ k) := by
 obtain ⟨km, ky, kn⟩ := mem_open.mp h
 exact ⟨zs4 S.dj ky, S.ym, zmz S.nm km⟩
theorem zl0 {m : Nat} {ts : List Tie} (ok : ∀ t ∈ ts, t.Ok m) {i y n s : Nat} (dj : ∀ k, y.testBit k = true → n.testBit k = false) (h : zko ts i y n = true) (hs : InS y n s) : zhh ts i s = false := by
 unfold zko at h
 unfold zhh
 cases e : ts[i]? with
 | none => rw [e] at h; cases h
 | some t =>
  rw [e] at h
  exact (zts (ok t (List.mem_of_getElem? e)) dj).mp h s hs
theorem zmd {m : Nat} {ts : List Tie} (ok : ∀ t ∈ ts, t.Ok m) {i y n : Nat} (dj : ∀ k, y.testBit k = true → n.testBit k = false) (full : zas m y n = []) (h : zko ts i y n = false) : zhh ts i y = true := by
 have hf : ∀ k, k < m → (y ||| n).testBit k = true := fun k hk => by
  cases e : (y ||| n).testBit k with
  | true => rfl
  | false =>
   rw [Nat.testBit_or, Bool.or_eq_false_iff] at e
   have := mem_open.mpr ⟨hk, e.1, e.2⟩
   rw [full] at this
   cases this
 unfold zko at h
 unfold zhh
 cases e : ts[i]? with
 | none => rfl
 | some t =>
  rw [e] at h
  have h' : t.sb y n = false := h
  rw [zux (ok t (List.mem_of_getElem? e)) dj hf] at h'
  show t.keep y = true
  simpa using h'
theorem zku {m y n s : Nat} (S : Stand m y n) (full : zas m y n = []) (hs : InS y n s) (sm : s < 2 ^ m) : s = y := by
 refine zo0 sm S.ym fun k hk => ?_
 refine zod (m := m) (fun j hj => ?_) hs S.dj k hk
 cases e : (y ||| n).testBit j with
 | true => rfl
 | false =>
  rw [Nat.testBit_or, Bool.or_eq_false_iff] at e
  have := mem_open.mpr ⟨hj, e.1, e.2⟩
  rw [full] at this
  cases this
def zbh (ts : List Tie) (il : List Nat) (m : Nat) : Nat → Nat → Nat → Option Nat
 | f, y, n => if (za6 ts il y n).isSome = true then none else match (zas m y n).getLast?, f with
  | none, _ => some y
  | some _, 0 => none
  | some k, f + 1 => match zbh ts il m f y (n ||| 2 ^ k) with
   | some s => some s
   | none => zbh ts il m f (y ||| 2 ^ k) n
def zsc (ts : List Tie) (il : List Nat) (m y n : Nat) : Option Nat → Prop
 | some s => s < 2 ^ m ∧ InS y n s ∧ zds ts il s = true ∧ ∀ s', s' < 2 ^ m → InS y n s' → zds ts il s' = true → s ≤ s'
 | none => ∀ s', s' < 2 ^ m → InS y n s' → zds ts il s' = false
theorem zff {ts : List Tie} {il : List Nat} {y n i : Nat} (h : za6 ts il y n = some i) : i ∈ il ∧ zko ts i y n = true :=
 ⟨List.mem_of_find?_eq_some h, List.find?_some (p := fun i => zko ts i y n) h⟩
theorem zh2 {ts : List Tie} {il : List Nat} {y n : Nat} (h : za6 ts il y n = none) : ∀ i ∈ il, zko ts i y n = false := fun i hi => by
 have := List.find?_eq_none.mp h i hi
 simpa using this
theorem zlq {m y n k : Nat} (h : (zas m y n).getLast? = some k) : k ∈ zas m y n ∧ ∀ j ∈ zas m y n, j ≤ k := by
 have hp : (zas m y n).Pairwise (· < ·) := List.pairwise_lt_range.filter _
 refine ⟨List.mem_of_getLast? h, fun j hj => ?_⟩
 obtain ⟨l, e⟩ := List.getLast?_eq_some_iff.mp h
 rw [e] at hp hj
 rcases List.mem_append.mp hj with z | z
 ·exact Nat.le_of_lt ((List.pairwise_append.mp hp).2.2 j z k (List.mem_singleton.mpr rfl))
 ·exact Nat.le_of_eq (List.mem_singleton.mp z)
theorem zen {m : Nat} {ts : List Tie} {il : List Nat} (ok : ∀ t ∈ ts, t.Ok m) : ∀ (f y n : Nat), (zas m y n).length ≤ f → Stand m y n → zsc ts il m y n (zbh ts il m f y n)
 | f, y, n, hf, S => by
  unfold zbh
  cases hb : za6 ts il y n with
  | some i =>
   obtain ⟨hi, hsb⟩ := zff hb
   intro s' sm hs
   cases e : zds ts il s' with
   | false => rfl
   | true =>
    have := (List.all_eq_true.mp e) i hi
    rw [zl0 ok S.dj hsb hs] at this
    cases this
  | none =>
   have hn := zh2 hb
   simp only [Option.isSome_none, Bool.false_eq_true, if_false]
   cases hl : (zas m y n).getLast? with
   | none =>
    have full : zas m y n = [] := List.getLast?_eq_none_iff.mp hl
    refine ⟨S.ym, zfv S.dj, List.all_eq_true.mpr fun i hi => zmd ok S.dj full (hn i hi), fun s' sm hs _ => ?_⟩
    rw [zku S full hs sm]
    exact Nat.le_refl _
   | some k =>
    obtain ⟨hk, hmax⟩ := zlq hl
    cases f with
    | zero => rw [List.eq_nil_of_length_eq_zero (Nat.le_zero.mp hf)] at hk; cases hk
    | succ f =>
     have l1 := zc5 hk
     have l2 := zc8 hk
     have i1 := zen (il := il) ok f y (n ||| 2 ^ k) (by omega) (S.other hk)
     have i2 := zen (il := il) ok f (y ||| 2 ^ k) n (by omega) (S.one hk)
     dsimp only
     cases h1 : zbh ts il m f y (n ||| 2 ^ k) with
     | some s =>
      rw [h1] at i1
      obtain ⟨a1, a2, a3, a4⟩ := i1
      refine ⟨a1, inS_split.mpr (.inr a2), a3, fun s' sm hs hk' => ?_⟩
      rcases (inS_split (k := k)).mp hs with z | z
      ·have kt : s'.testBit k = true := z.1 k (by rw [zb4, decide_eq_true rfl, Bool.or_true])
       have kf : s.testBit k = false := a2.2 k (by rw [zb4, decide_eq_true rfl, Bool.or_true])
       refine Nat.le_of_lt (zpf k kf kt fun j hj => ?_)
       by_cases jm : j < m
       ·have hno : ¬ j ∈ zas m y n := fun z => by have := hmax j z; omega
        have hyn : y.testBit j = true ∨ n.testBit j = true := by
         cases ey : y.testBit j with
         | true => exact .inl rfl
         | false =>
          cases en : n.testBit j with
          | true => exact .inr rfl
          | false => exact absurd (mem_open.mpr ⟨jm, ey, en⟩) hno
        have aa := inS_split.mpr (.inr a2)
        rcases hyn with e | e
        ·rw [aa.1 j e, hs.1 j e]
        ·rw [aa.2 j e, hs.2 j e]
       ·have : 2 ^ m ≤ 2 ^ j := Nat.pow_le_pow_right (by decide) (by omega)
        rw [Nat.testBit_lt_two_pow (by omega), Nat.testBit_lt_two_pow (by omega)]
      ·exact a4 s' sm z hk'
     | none =>
      rw [h1] at i1
      show zsc ts il m y n (zbh ts il m f (y ||| 2 ^ k) n)
      cases h2 : zbh ts il m f (y ||| 2 ^ k) n with
      | some s =>
       rw [h2] at i2
       obtain ⟨a1, a2, a3, a4⟩ := i2
       refine ⟨a1, inS_split.mpr (.inl a2), a3, fun s' sm hs hk' => ?_⟩
       rcases (inS_split (k := k)).mp hs with z | z
       ·exact a4 s' sm z hk'
       ·rw [i1 s' sm z] at hk'
        cases hk'
      | none =>
       rw [h2] at i2
       intro s' sm hs
       rcases (inS_split (k := k)).mp hs with z | z
       ·exact i2 s' sm z
       ·exact i1 s' sm z
theorem zow {ts : List Tie} {il : List Nat} {m f y n k : Nat} (hb : za6 ts il y n = none) (ho : (zas m y n).getLast? = some k) : zbh ts il m (f + 1) y n = (match zbh ts il m f y (n ||| 2 ^ k) with | some s => some s | none => zbh ts il m f (y ||| 2 ^ k) n) := by
 conv => lhs; unfold zbh
 simp only [hb, ho, Option.isSome_none, Bool.false_eq_true, if_false]
theorem zpd {ts : List Tie} {il : List Nat} {m f y n : Nat} (hb : za6 ts il y n = none) (ho : zas m y n = []) : zbh ts il m f y n = some y := by
 unfold zbh
 simp [hb, ho]
theorem zng {ts : List Tie} {il : List Nat} {m f y n i : Nat} (hb : za6 ts il y n = some i) : zbh ts il m f y n = none := by
 unfold zbh
 simp [hb]
inductive CT where
 | broken (t : Nat)
 | ware
 | split (k : Nat) (one other : CT)
def zbk (ts : List Tie) (il : List Nat) (m : Nat) : Nat → Nat → Nat → CT
 | f, y, n => match za6 ts il y n with
  | some t => .broken t
  | none => match zas m y n, f with
   | [], _ => .ware
   | _ :: _, 0 => .ware
   | k :: _, f + 1 => .split k (zbk ts il m f (y ||| 2 ^ k) n) (zbk ts il m f y (n ||| 2 ^ k))
theorem zhm {ts : List Tie} {il r : List Nat} {m f y n k : Nat} (hb : za6 ts il y n = none) (ho : zas m y n = k :: r) : zbk ts il m (f + 1) y n = .split k (zbk ts il m f (y ||| 2 ^ k) n) (zbk ts il m f y (n ||| 2 ^ k)) := by
 conv => lhs; unfold zbk
 simp only [hb, ho]
theorem zix {ts : List Tie} {il : List Nat} {m f y n : Nat} (hb : za6 ts il y n = none) (ho : zas m y n = []) : zbk ts il m f y n = .ware := by
 unfold zbk
 simp [hb, ho]
theorem zg1 {ts : List Tie} {il : List Nat} {m f y n i : Nat} (hb : za6 ts il y n = some i) : zbk ts il m f y n = .broken i := by
 unfold zbk
 simp [hb]
def CT.leaves : CT → Nat → List Nat
 | .broken _, _ => []
 | .ware, y => [y]
 | .split k a b, y => a.leaves (y ||| 2 ^ k) ++ b.leaves y
def CT.depth : CT → Nat
 | .broken _ => 0
 | .ware => 0
 | .split _ a b => max a.depth b.depth + 1
theorem ze6 {ts : List Tie} {il : List Nat} {m : Nat} : ∀ (f y n : Nat), (zbk ts il m f y n).depth ≤ f
 | f, y, n => by
  unfold zbk
  cases za6 ts il y n with
  | some t => exact Nat.zero_le _
  | none =>
   dsimp only
   cases zas m y n with
   | nil => exact Nat.zero_le _
   | cons k r =>
    cases f with
    | zero => exact Nat.zero_le _
    | succ f =>
     show max _ _ + 1 ≤ f + 1
     have h1 := ze6 (ts := ts) (il := il) (m := m) f (y ||| 2 ^ k) n
     have h2 := ze6 (ts := ts) (il := il) (m := m) f y (n ||| 2 ^ k)
     omega
theorem zhd {m : Nat} {ts : List Tie} {il : List Nat} (ok : ∀ t ∈ ts, t.Ok m) : ∀ (f y n : Nat), (zas m y n).length ≤ f → Stand m y n → ∀ s, s ∈ (zbk ts il m f y n).leaves y ↔ (s < 2 ^ m ∧ InS y n s ∧ zds ts il s = true)
 | f, y, n, hf, S, s => by
  unfold zbk
  cases hb : za6 ts il y n with
  | some i =>
   obtain ⟨hi, hsb⟩ := zff hb
   constructor
   ·intro h; cases h
   ·rintro ⟨sm, hs, hk⟩
    have := (List.all_eq_true.mp hk) i hi
    rw [zl0 ok S.dj hsb hs] at this
    cases this
  | none =>
   have hn := zh2 hb
   dsimp only
   cases hl : zas m y n with
   | nil =>
    show s ∈ [y] ↔ _
    rw [List.mem_singleton]
    constructor
    ·rintro rfl
     exact ⟨S.ym, zfv S.dj, List.all_eq_true.mpr fun i hi => zmd ok S.dj hl (hn i hi)⟩
    ·rintro ⟨sm, hs, _⟩
     exact zku S hl hs sm
   | cons k r =>
    have hk : k ∈ zas m y n := by rw [hl]; exact List.mem_cons_self
    cases f with
    | zero => rw [hl] at hf; simp at hf
    | succ f =>
     have l1 := zc5 hk
     have l2 := zc8 hk
     show s ∈ (zbk ts il m f (y ||| 2 ^ k) n).leaves (y ||| 2 ^ k) ++ (zbk ts il m f y (n ||| 2 ^ k)).leaves y ↔ _
     rw [List.mem_append, zhd ok f (y ||| 2 ^ k) n (by omega) (S.one hk), zhd ok f y (n ||| 2 ^ k) (by omega) (S.other hk)]
     constructor
     ·rintro (⟨a, b, c⟩ | ⟨a, b, c⟩)
      ·exact ⟨a, inS_split.mpr (.inl b), c⟩
      ·exact ⟨a, inS_split.mpr (.inr b), c⟩
     ·rintro ⟨a, b, c⟩
      rcases (inS_split (k := k)).mp b with b | b
      ·exact .inl ⟨a, b, c⟩
      ·exact .inr ⟨a, b, c⟩
end Wd
namespace Wd
open PySem L2 Ow
def CT.toD : CT → PyData
 | .broken t => .tuple [.str ("broken" : Str), .int (t : Int)]
 | .ware => .tuple [.str ("ware" : Str)]
 | .split k a b => .tuple [.str ("split" : Str), .int (k : Int), a.toD, b.toD]
theorem zrv {H : Hp} {t : Nat} {v : V} (h : Dn H (CT.broken t).toD v) : ∃ p, v = .ref p ∧ H p = some (.tup [.str ("broken" : Str), .int (t : Int)]) := by
 obtain ⟨p, xs, rfl, hp, xu, r1, rfl, hu, xl, r2, rfl, ac, aa⟩ := ze5 h
 cases (show r2 = [] from aa)
 cases (show xu = .str ("broken" : Str) from hu)
 cases zdm ac
 exact ⟨p, rfl, hp⟩
theorem zs5 {H : Hp} {k : Nat} {a b : CT} {v : V} (h : Dn H (CT.split k a b).toD v) : ∃ p va vb, v = .ref p ∧ H p = some (.tup [.str ("split" : Str), .int (k : Int), va, vb]) ∧ Dn H a.toD va ∧ Dn H b.toD vb := by
 obtain ⟨p, xs, rfl, hp, xu, r1, rfl, hu, xl, r2, rfl, ac, va, r3, rfl, ha, vb, r4, rfl, hb, aa⟩ := ze5 h
 cases (show r4 = [] from aa)
 cases (show xu = .str ("split" : Str) from hu)
 cases zdm ac
 exact ⟨p, va, vb, rfl, hp, ha, hb⟩
theorem znc : ¬ V.str ("broken" : Str) = V.str ("split" : Str) := zp2 (by decide +kernel)
abbrev zal (l : List Nat) : List V := l.map fun k : Nat => V.int (k : Int)
theorem zva (l : List Nat) (k : Nat) : atI (zal (l ++ [k])) (-1) = some (.int (k : Int)) := by
 unfold atI ixN
 have e : (zal (l ++ [k])).length = l.length + 1 := by rw [List.length_map, List.length_append, List.length_singleton]
 rw [e, if_neg (by decide), if_pos (by omega)]
 show (zal (l ++ [k]))[((-1 : Int) + ((l.length + 1 : Nat) : Int)).toNat]? = _
 have e2 : ((-1 : Int) + ((l.length + 1 : Nat) : Int)).toNat = l.length := by omega
 rw [e2, zal, List.getElem?_map, List.getElem?_append_right (Nat.le_refl _), Nat.sub_self]
 rfl
def zuk : Sp := fun vs H Q _ => ∃ n k : Nat, vs = [.int n, .int k] ∧ k ≤ 1000 ∧ Q (.int ((n ||| 2 ^ k : Nat) : Int)) H
def zwi : Sp := fun vs H Q _ => ∃ m y n : Nat, vs = [.int m, .int y, .int n] ∧ m ≤ 900 ∧ ∀ (l : Addr) (H' : Hp), Same H H' → H l = none → H' l = some (.lst (zal (zas m y n))) → Q (.ref l) H'
def zq0 : Sp := fun vs H Q _ => ∃ (wd : Addr) (m : Nat) (ts : List Tie) (tl : Addr) (il : List Nat) (y n : Nat), vs = [.ref wd, .ref tl, .int y, .int n] ∧ WoodT H wd m ts ∧ H tl = some (.lst (zal il)) ∧ (∀ i ∈ il, i < ts.length) ∧ ∀ H', Same H H' → Q (zhq (za6 ts il y n)) H'
def zst (f : Nat) : Sp := fun vs H Q _ => ∃ (wd : Addr) (m : Nat) (ts : List Tie) (tl : Addr) (il : List Nat) (y n : Nat), vs = [.ref wd, .ref tl, .int y, .int n] ∧ WoodT H wd m ts ∧ H tl = some (.lst (zal il)) ∧ (∀ i ∈ il, i < ts.length) ∧ (zas m y n).length ≤ f ∧ ∀ (v : V) (H' : Hp), Same H H' → Dn H' (zbk ts il m f y n).toD v → Q v H'
def zm4 (f : Nat) : Sp := fun vs H Q _ => ∃ (wd : Addr) (m : Nat) (ts : List Tie) (tl : Addr) (il : List Nat) (y n : Nat), vs = [.ref wd, .ref tl, .int y, .int n] ∧ WoodT H wd m ts ∧ H tl = some (.lst (zal il)) ∧ (∀ i ∈ il, i < ts.length) ∧ (zas m y n).length ≤ f ∧ ∀ H', Same H H' → Q (zhq (zbh ts il m f y n)) H'
def zdv (ts : List Tie) : List Nat := List.range ts.length
theorem zi3 (ts : List Tie) (s : Nat) : zds ts (zdv ts) s = ts.all fun t => t.keep s := by
 unfold zds zdv
 rw [Bool.eq_iff_iff, List.all_eq_true, List.all_eq_true]
 constructor
 ·intro h t ht
  obtain ⟨i, hi, rfl⟩ := List.getElem_of_mem ht
  have := h i (List.mem_range.mpr hi)
  unfold zhh at this
  rw [List.getElem?_eq_getElem hi] at this
  exact this
 ·intro h i hi
  unfold zhh
  rw [List.getElem?_eq_getElem (List.mem_range.mp hi)]
  exact h _ (List.getElem_mem _)
def ztv : Sp := fun vs H Q _ => ∃ (wd : Addr) (m : Nat) (ts : List Tie) (y n : Nat), vs = [.ref wd, .int y, .int n] ∧ WoodT H wd m ts ∧ m ≤ 9 ∧ 1 ≤ m ∧ Stand m y n ∧ ∀ H' o, Same H H' → (match o with | none => ∀ s, s < 2 ^ m → InS y n s → zbg ts s = false | some s => s < 2 ^ m ∧ InS y n s ∧ zbg ts s = true ∧ ∀ s', s' < 2 ^ m → InS y n s' → zbg ts s' = true → s ≤ s') → Q (zhq o) H'
end Wd
namespace L2
open PySem PySem.Spec PyProof.Rows
theorem zwv {K : PySem.W.Frag} {a : Addr} {xs : List V} {σ0 : St} {H : Hp} {g : TG} {tc : TT} {te : TE} {Q : VK} (hq : H a = some (.tup xs) ∨ H a = some (.lst xs)) (Pv : Nat → List V → St → Hp → Prop) (h0 : Pv 0 [] σ0 H) (hz : ∀ i ys σ H, i ≤ xs.length → Pv i ys σ H → ys.length ≤ sizeLine)
  (hl : ∀ i ys σ H2, i ≤ xs.length → Pv i ys σ H2 → H2 a = H a)
  (hs : ∀ i x ys σ H, xs[i]? = some x → Pv i ys σ H → g x σ H fun σ3 H3 => tc σ3 H3 fun b H4 => if b = true then te σ3 H4 fun v H5 => Pv (i + 1) (ys ++ [v]) σ3 H5 else Pv (i + 1) ys σ3 H4)
  (hd : ∀ ys σ H, Pv xs.length ys σ H → ∀ p, H p = none → Q (.ref p) (upd H p (.lst ys))) :
  ((∃ xs, SqL K H a xs) ∧ zpt (Itl K a) g tc te σ0 H Q) ∨ ((∃ xs, SqT K H a xs) ∧ zpt (Itt K a) g tc te σ0 H Q) := by
 rcases hq with h | h
 ·exact .inr ⟨⟨_, Wd.sqT h⟩, znf Pv h0 hz (fun i ys σ H2 hi pv => Wd.sqT ((hl i ys σ H2 hi pv).trans h)) hs hd⟩
 ·exact .inl ⟨⟨_, SqL.of h⟩, zcc Pv h0 hz (fun i ys σ H2 hi pv => SqL.of ((hl i ys σ H2 hi pv).trans h)) hs hd⟩
end L2
namespace Wd
open PySem L2 Ow
def zt2 (f : List (Nat × Int) → Nat → Nat → Int) : Sp := fun vs H Q _ => ∃ (q : Addr) (xs : List V) (ps : List (Nat × Int)) (y n : Nat), vs = [.ref q, .int y, .int n] ∧ (H q = some (.tup xs) ∨ H q = some (.lst xs)) ∧ DnL H (ps.map zl5) xs ∧ ps.length ≤ 1000 ∧ ∀ H', Same H H' → Q (.int (f ps y n)) H'
theorem zro {f : List (Nat × Int) → Nat → Nat → Int} {vs : List V} {H : Hp} {Q : VK} {E : XK} (h : zvx f vs H Q E) : zt2 f vs H Q E := by
 obtain ⟨q, xs, ps, y, n, e, hq, r⟩ := h
 exact ⟨q, xs, ps, y, n, e, .inl hq, r⟩
end Wd
namespace L2
open PySem PySem.Spec PyProof.Rows
section
variable {X : Cx}
theorem zr2 (hu : X.A.units + 64 < cLine) : OpR X (compareOp .Eq) (fun x y H Q => ∃ (a b : Addr) (xs : List V), x = .ref a ∧ y = .ref b ∧ H a = some (.lst xs) ∧ H b = some (.lst []) ∧ Q (.bl (decide (xs = []))) H) := by
 intro pins s σ H x y v u Q I rx ry h
 obtain ⟨a, b, xs, rfl, rfl, ha, hb, q⟩ := h
 by_cases hx : xs = []
 ·subst hx
  refine zhg hu pins s σ H _ _ v u Q I rx ry ⟨a, b, [], [], rfl, rfl, SqL.of ha, SqL.of hb, ?_⟩
  exact q
 ·cases rx
  cases ry
  obtain ⟨ac, n, r1, e1, _⟩ := I.lst ha
  obtain ⟨aa, n2, r2, e2, _⟩ := I.lst hb
  cases r2
  have hl := r1.length
  rw [decide_eq_false hx] at q
  refine PySem.P.eq_list_lengths e1 e2 ?_ (by omega) ⟨.bl false, H, I, rfl, q⟩
  cases ac with
  | nil => cases r1; exact absurd rfl hx
  | cons c r => simp
end
end L2
namespace Wd
open PySem L2 Ow
theorem zwc {K : PySem.W.Frag} {H : Hp} {pen a : Addr} {xs : List V} {o : HO} (h : SqL K H a xs) (hp : H pen = none) : ∀ H', SameX pen (L2.upd H pen o) H' → SqL K H' a xs := fun H' s => by
 have keep : ∀ u, H a = some u → KpX pen (L2.upd H pen o) H' a u := fun u e => s a u (zam e hp) (by rw [zak (zam e hp)]; exact e)
 rcases h with (h | ⟨u, h⟩) | h
 ·exact .inl (.inl (keep _ h))
 ·exact .inl (.inr ⟨u, keep _ h⟩)
 ·exact .inr h
theorem zvj {K : PySem.W.Frag} {H : Hp} {pen sp : Addr} {ns : List Int} (h : SqL K H sp (ns.map V.int)) (hl : ns.length ≤ 63) (hp : H pen = none) : Pen K (L2.upd H pen (.lst [.ref sp, .int 0])) pen sp ns 0 := ⟨zac, hl, zwc h hp⟩
theorem land_yes {s y : Nat} : (s &&& y = y) ↔ ∀ k, y.testBit k = true → s.testBit k = true := by
 constructor
 ·intro h k hk
  have : (s &&& y).testBit k = true := by rw [h]; exact hk
  rw [Nat.testBit_and, Bool.and_eq_true] at this
  exact this.1
 ·intro h
  refine Nat.eq_of_testBit_eq fun k => ?_
  rw [Nat.testBit_and]
  cases e : y.testBit k with
  | false => rw [Bool.and_false]
  | true => rw [h k e]; rfl
theorem land_no {s n : Nat} : (s &&& n = 0) ↔ ∀ k, n.testBit k = true → s.testBit k = false := by
 constructor
 ·intro h k hk
  cases e : s.testBit k with
  | false => rfl
  | true =>
   have : (s &&& n).testBit k = true := by rw [Nat.testBit_and, e, hk]; rfl
   rw [h, Nat.zero_testBit] at this
   cases this
 ·intro h
  refine Nat.eq_of_testBit_eq fun k => ?_
  rw [Nat.testBit_and, Nat.zero_testBit]
  cases e : n.testBit k with
  | false => rw [Bool.and_false]
  | true => rw [h k e]; rfl
end Wd
namespace L2
open PySem PySem.Spec PyProof.Rows
def zxt : Option Stmt → Expr
 | some (Stmt.Return (some e) _) => e
 | _ => .Constant .none 0 ⟨0, 0, 0, 0⟩
section
variable {X : Cx} {tg iter elt : Expr} {cs : List Expr} {sc sc0 : Scope} {pos : Pos} {wi : TI} {g : TG} {tc : TT} {te : TE} {XN N' : List Str} {n : Nat} {kp : List Nat}
theorem piL {K : PySem.W.Frag} {l : Expr} {tl : TE} (hl : PE X l tl) (h : X.K = K := by rfl) : PI X tg l (zvy K tl) := h ▸ zus hl
theorem piT {K : PySem.W.Frag} {l : Expr} {tl : TE} (hl : PE X l tl) (h : X.K = K := by rfl) : PI X tg l (zxf K tl) := h ▸ zw7 hl
end
end L2
namespace Wd
open PySem L2 Ow
def zeh (ts : List Tie) (il : List Nat) (m y n : Nat) : Bool := decide (zbh ts il m 9 y n = none)
theorem zj8 {ts : List Tie} {il : List Nat} {m y n : Nat} (ok : ∀ t ∈ ts, t.Ok m) (m9 : m ≤ 9) (S : Stand m y n) : zeh ts il m y n = true ↔ ∀ s, s < 2 ^ m → InS y n s → zds ts il s = false := by
 have of := zc1 m y n
 have F := zen (il := il) ok 9 y n (by omega) S
 unfold zeh
 rw [decide_eq_true_eq]
 cases h : zbh ts il m 9 y n with
 | none =>
  rw [h] at F
  exact ⟨fun _ => F, fun _ => rfl⟩
 | some g =>
  rw [h] at F
  refine ⟨(fun z => by cases z), fun z => ?_⟩
  have := z g F.1 F.2.1
  rw [F.2.2.1] at this
  cases this
def zwg : Sp := fun vs H Q _ => ∃ (wd : Addr) (m : Nat) (ts : List Tie) (tl : Addr) (il : List Nat) (y n : Nat), vs = [.ref wd, .ref tl, .int y, .int n] ∧ WoodT H wd m ts ∧ m ≤ 9 ∧ H tl = some (.lst (zal il)) ∧ (∀ i ∈ il, i < ts.length) ∧ ∀ H', Same H H' → Q (.bl (zeh ts il m y n)) H'
def zpb : Sp := fun vs H Q _ => ∃ (l : Addr) (il : List Nat) (t : Nat), vs = [.ref l, .int t] ∧ H l = some (.lst (zal il)) ∧ il.length ≤ 1000 ∧ ∀ (p : Addr) (H' : Hp), Same H H' → H p = none → H' p = some (.lst (zal (il.filter fun i => !decide (i = t)))) → Q (.ref p) H'
abbrev zfj (il : List Nat) (t : Nat) : List Nat := il.filter fun i => !decide (i = t)
def zbj (ts : List Tie) (m y n : Nat) (left : List Nat) (t : Nat) : List Nat := if zeh ts (zfj left t) m y n = true then zfj left t else left
def zc6 (ts : List Tie) (m y n : Nat) : List Nat := (zdv ts).foldl (zbj ts m y n) (zdv ts)
theorem zlh {ts : List Tie} {m y n : Nat} {left : List Nat} {t : Nat} : (zbj ts m y n left t).Sublist left := by
 unfold zbj
 split
 ·exact List.filter_sublist
 ·exact List.Sublist.refl _
theorem zgn {ts : List Tie} {m y n : Nat} : ∀ (l left : List Nat), (l.foldl (zbj ts m y n) left).Sublist left
 | [], left => List.Sublist.refl _
 | t :: l, left => (zgn l (zbj ts m y n left t)).trans zlh
structure ztm (H : Hp) (ol : Addr) (ts : List Tie) (m y n : Nat) (left : List Nat) : Prop where
 ex : ∃ xs, H ol = some (.lst xs) ∧ xs.length = left.length ∧ ∀ (j t : Nat), left[j]? = some t → ∃ q, xs[j]? = some (.ref q) ∧ H q = some (.tup [.int (t : Int), zhq (zbh ts (zfj left t) m 9 y n)])
theorem zj9 {ts : List Tie} {m y n : Nat} {left : List Nat} {t : Nat} (h : zeh ts left m y n = true) : zeh ts (zbj ts m y n left t) m y n = true := by
 unfold zbj
 split
 ·next c => exact c
 ·exact h
theorem zks {ts : List Tie} {m y n : Nat} : ∀ (l left : List Nat), zeh ts left m y n = true → zeh ts (l.foldl (zbj ts m y n) left) m y n = true
 | [], _, h => h
 | t :: l, left, h => zks l _ (zj9 h)
theorem leastL_sub {ts : List Tie} {m y n : Nat} : (zc6 ts m y n).Sublist (zdv ts) := zgn _ _
theorem zi4 {ts : List Tie} {m y n : Nat} (h : zeh ts (zdv ts) m y n = true) : zeh ts (zc6 ts m y n) m y n = true := zks _ _ h
theorem zeg (k : Nat) (op : List Nat) : inV (.int (k : Int)) (zal op) = decide (k ∈ op) := by
 induction op with
 | nil => rfl
 | cons a r ih =>
  have e : inV (.int (k : Int)) (zal (a :: r)) = (eqV (.int (a : Int)) (.int (k : Int)) || inV (.int (k : Int)) (zal r)) := rfl
  rw [e, ih]
  have e2 : eqV (.int (a : Int)) (.int (k : Int)) = decide (k = a) := by
   show ((a : Int) == (k : Int)) = _
   by_cases z : k = a
   ·subst z; simp
   ·rw [decide_eq_false z]
    simpa using fun h => z (by omega)
  rw [e2]
  simp [List.mem_cons, Bool.decide_or]
theorem zbu (op : List Nat) : (zal op).all zh1 = true := by
 rw [List.all_eq_true]
 intro x hx
 obtain ⟨i, _, rfl⟩ := List.mem_map.mp hx
 rfl
end Wd
namespace L2
open PySem PySem.Spec PyProof.Rows
def zjz (f : Addr) (qual : Str) (params : Arguments) (body : Expr) (scope : Scope) (cl : List (Str × Addr)) (c : Addr) : Heap → Prop :=
 fun h => ∃ (pm ctv : Value), h.get? f = some (PySem.W.kla_obj "<lambda>" qual params body scope cl pm c ctv)
structure zi7 (mg : Str → Option Value) (base : Heap) (c P : Addr) : Prop where
 code : PySem.W.CodeHd base c P
 blt : ∃ bm ob, mg "__builtins__" = some (.ref bm) ∧ bm ≠ builtinsNs ∧ base.get? bm = some ob ∧ ob.cls = .type "module" ∧ ob.dict = some builtinsNs ∧ ob.data = .plain
theorem zim {P : Program} {w : World} {H : Hp} {h : Heap} {a : Addr} {φ : Heap → Prop} (hH : H a = some (.ext φ)) (ok : HOk P w H h) : φ h := (ok a _ hH).1
section
variable {X : Cx} {params : Arguments} {body : Expr} {scope : Scope} {pos : Pos} {c P : Addr}
theorem zms (hc : X.env.code = .ref c) (B : zi7 X.mg X.base c P) (hdef : defaultsOf params X.env = ([], [])) (hfr : ∀ y ∈ scope.names, y.2 = .free → ∃ c, X.env.cells.lookup y.1 = some c) :
  PE X (.Lambda params body scope pos) (fun σ H Q => zcp H P ∧ ∀ (f c' : Addr) (H1 : Hp), H f = none → Same H H1 →
   H1 f = some (.ext (zjz f (X.env.qual ++ "<lambda>") params body scope (zfh scope X.env) c')) → H1 c' = some (.ext (zfq c')) → Q (.ref f) H1) := by
 intro pins s σ H Q I hq
 obtain ⟨⟨ps, hP, tr, ap⟩, q⟩ := hq
 refine PySem.W.kla_eval hdef ?_
 have ai : s.heap.get? P = some (PySem.W.tabObj ps) := I.hok P _ hP
 have hg : s.heap.Ns mainGlobals X.mg := I.mod.glob.keeps I.bk
 have C : PySem.W.CodeHd s.heap c P := B.code.keeps I.bk
 have ax : mainGlobals ≠ P := fun z => by
  obtain ⟨o, es, ep, e, hd, _⟩ := hg
  rw [z, ai] at e; cases e; cases hd
 have hb : s.heap.BuiltinsAt X.mg P := by
  obtain ⟨bm, ob, b1, b2, b3, b4, b5, b6⟩ := B.blt
  have ag := I.bk _ _ b3
  refine ⟨bm, ob, b1, b2, fun z => ?_, fun z => ?_, ag, b4, b5, b6⟩
  ·obtain ⟨o, es, ep, e, hd, _⟩ := hg
   rw [z, e] at ag; cases ag; rw [hd] at b6; cases b6
  ·rw [z, ai] at ag; cases ag; cases b4
 have au : closureFor scope X.env = pure (zfh scope X.env) := zql hfr
 rcases ap pos with aA | ⟨c', hf, aB⟩
 ·refine PySem.W.kla_makeFunction au I.ok.glob hg hc C ai tr aA ax hb fun c' ah h' tk hx ae al ao av => ?_
  have ar : P < s.heap.objs.size := Heap.lt_size ai
  have aC : H c' = none := I.hok.fresh ae
  have af : H h'.objs.size = none := I.hok.fresh (Nat.le_trans ae (Nat.le_of_lt al))
  have cf : c' ≠ h'.objs.size := Nat.ne_of_lt al
  have cP : c' ≠ P := Nat.ne_of_gt (Nat.lt_of_lt_of_le ar ae)
  have fP : h'.objs.size ≠ P := Nat.ne_of_gt (Nat.lt_of_lt_of_le ar (Nat.le_trans ae (Nat.le_of_lt al)))
  have keep : ∀ b o, b ≠ P → s.heap.get? b = some o → (h'.push (PySem.W.kla_obj "<lambda>" (X.env.qual ++ "<lambda>") params body scope (zfh scope X.env) ((X.mg "__name__").getD .none) c' ah)).get? b = some o := fun b o hb e => Heap.get?_push_of_some _ (hx b o hb e)
  obtain ⟨c2, oc, vs, t, e2, aq, hd, hv⟩ := ao
  cases e2
  let H1 : Hp := upd (upd (upd H P (.tbl (ps ++ #[rawInt pos.line, rawInt pos.col, .ref c']))) c' (.ext (zfq c'))) h'.objs.size (.ext (zjz h'.objs.size (X.env.qual ++ "<lambda>") params body scope (zfh scope X.env) c'))
  have aw : H1 h'.objs.size = some (.ext (zjz h'.objs.size (X.env.qual ++ "<lambda>") params body scope (zfh scope X.env) c')) := zac
  have am : H1 c' = some (.ext (zfq c')) := by show upd _ _ _ c' = _; rw [zak cf, zac]
  have ak : H1 P = some (.tbl (ps ++ #[rawInt pos.line, rawInt pos.col, .ref c'])) := by show upd _ _ _ P = _; rw [zak (Ne.symm fP), zak (Ne.symm cP), zac]
  have ac : ∀ b, b ≠ h'.objs.size → b ≠ c' → b ≠ P → H1 b = H b := fun b n1 n2 n3 => by show upd _ _ _ b = _; rw [zak n1, zak n2, zak n3]
  have aa : ∀ b u, H b = some u → b ≠ h'.objs.size ∧ b ≠ c' := fun b u e => ⟨zam e af, zam e aC⟩
  have aj : ∀ b, H b = some (.ext (zfq b)) → H1 b = some (.ext (zfq b)) := fun b e => by rw [ac b (aa b _ e).1 (aa b _ e).2 (fun z => by rw [z, hP] at e; cases e)]; exact e
  have tabs : zcp H1 P := ⟨_, ak, by rw [Array.toList_append]; exact TriplesOk_snoc _ _ _ _ tr, fun p' => by
   rw [Array.toList_append]
   rcases zj0 (pos := p') (pos' := pos) (c := .ref c') ps.toList tr with z | z
   ·rcases ap p' with y | ⟨d, y1, y2⟩
    ·exact .inl (z.trans y)
    ·exact .inr ⟨d, z.trans y1, aj d y2⟩
   ·exact .inr ⟨c', z, am⟩⟩
  have same : Same H H1 := fun b o e => by
   by_cases ad : b = P
   ·subst ad
    rw [hP] at e
    cases e
    exact ⟨⟨_, ak⟩, fun _ => tabs⟩
   ·exact Kp.of e (by rw [ac b (aa b _ e).1 (aa b _ e).2 ad]; exact e) aj
  have un : Un X.fs [] H H1 s.heap (h'.push (PySem.W.kla_obj "<lambda>" (X.env.qual ++ "<lambda>") params body scope (zfh scope X.env) ((X.mg "__name__").getD .none) c' ah)) := by
   have np : ∀ b, H b = none → b ≠ P := fun b n z => by rw [z, hP] at n; cases n
   refine ⟨fun b o e n _ _ => keep b o (np b n) e, fun b o e n _ _ => ⟨o.slots, keep b o (np b n) e⟩, fun b o e n _ => ?_, fun b o e _ => ?_, fun b xs e => ?_, fun b o u e => ?_, fun b qs e => ?_⟩
   ·have l := Heap.lt_size e
    rw [ac b (Nat.ne_of_lt (Nat.lt_trans (Nat.lt_of_lt_of_le l ae) al)) (Nat.ne_of_lt (Nat.lt_of_lt_of_le l ae)) (np b n)]
    exact n
   ·by_cases ad : b = P
    ·subst ad
     exact ⟨_, Heap.get?_push_of_some _ av⟩
    ·exact ⟨o, keep b o ad e⟩
   ·rw [ac b (aa b _ e).1 (aa b _ e).2 (fun z => by rw [z, hP] at e; cases e)]
    exact e
   ·rw [ac b (aa b _ e).1 (aa b _ e).2 (fun z => by rw [z, hP] at e; cases e)]
    exact e
   ·by_cases ad : b = P
    ·subst ad
     rw [hP] at e
     cases e
     exact ⟨_, ak⟩
    ·exact ⟨#[], by rw [ac b (aa b _ e).1 (aa b _ e).2 ad, e]; simp⟩
  have ay : HOk X.prog X.w H1 (h'.push (PySem.W.kla_obj "<lambda>" (X.env.qual ++ "<lambda>") params body scope (zfh scope X.env) ((X.mg "__name__").getD .none) c' ah)) := fun b u e => by
   by_cases h1 : b = h'.objs.size
   ·subst h1
    rw [aw] at e
    cases e
    exact ⟨⟨_, _, Heap.get?_push_size _ rfl⟩, ⟨_, Heap.get?_push_size _ rfl⟩, fun h1 h2 ⟨pm, cv, z⟩ k => ⟨pm, cv, k _ z⟩⟩
   ·by_cases h2 : b = c'
    ·subst h2
     rw [am] at e
     cases e
     exact ⟨⟨oc, vs, _, t, Heap.get?_push_of_some _ aq, hd, hv⟩, ⟨_, Heap.get?_push_of_some _ aq⟩, fun h1 h2 ⟨o, v, qq, tt, z1, z2, z3⟩ k => ⟨o, v, qq, tt, k _ z1, z2, z3⟩⟩
    ·by_cases h3 : b = P
     ·subst h3
      rw [ak] at e
      cases e
      exact Heap.get?_push_of_some _ av
     ·rw [ac b h1 h2 h3] at e
      refine (I.hok b u e).stay (fun b' o' az e' => ?_) (fun b' e' => ?_) fun b' xs e' => ?_
      ·refine keep b' o' ?_ e'
       rcases az with z | z
       ·rw [z]; exact h3
       ·intro z2; rw [z2, hP] at z; cases z
      ·rw [ac b' (aa b' _ e').1 (aa b' _ e').2 (fun z => by rw [z, hP] at e'; cases e')]; exact e'
      ·rw [ac b' (aa b' _ e').1 (aa b' _ e').2 (fun z => by rw [z, hP] at e'; cases e')]; exact e'
  exact ⟨.ref h'.objs.size, H1, I.un un ay, rfl, q _ c' H1 af same aw am⟩
 ·refine PySem.W.kla_makeFunctionHit au I.ok.glob hg hc C ai tr hf hb fun ah h' tk hk hsz => ?_
  have af : H h'.objs.size = none := I.hok.fresh hsz
  have keep : ∀ b o, s.heap.get? b = some o → (h'.push { cls := .type "function", data := .func (PySem.W.kla_fn "<lambda>" (X.env.qual ++ "<lambda>") params body scope (zfh scope X.env) ((X.mg "__name__").getD .none) (.ref c') ah) }).get? b = some o := fun b o e => Heap.get?_push_of_some _ (hk b o e)
  have same : Same H (upd H h'.objs.size (.ext (zjz h'.objs.size (X.env.qual ++ "<lambda>") params body scope (zfh scope X.env) c'))) := zmo fun b u e => by rw [zak (zam e af)]; exact e
  refine ⟨.ref h'.objs.size, _, I.un (Un.laid keep hsz af) (I.hok.laid keep hsz ?_), rfl, q _ c' _ af same zac (same c' _ aB)⟩
  exact ⟨⟨_, _, Heap.get?_push_size _ rfl⟩, ⟨_, Heap.get?_push_size _ rfl⟩, fun h1 h2 ⟨pm, cv, z⟩ k => ⟨pm, cv, k _ z⟩⟩
end
def zda (h : Heap) (H : Hp) (st : List Env) : Heap := PySem.W.hideAll h (trk h H ++ frs st)
section
variable {X : Cx} {pins : List (Addr × Obj)} {σ : St} {H : Hp} {s : Shared}
theorem zj2 {h : Heap} {H : Hp} {st : List Env} {b : Addr} {o : Obj} (e : (zda h H st).get? b = some o) : h.get? b = some o ∧ H b = none ∧ b ∉ frs st := by
 have e' : h.get? b = some o := PySem.W.of_hideAll _ e
 refine ⟨e', ?_, fun z => ?_⟩
 ·cases q : H b with
  | none => rfl
  | some x =>
   have hm : b ∈ trk h H := List.mem_filter.mpr ⟨List.mem_range.mpr (Heap.lt_size e'), by simp [q]⟩
   have z : (zda h H st).get? b = none := PySem.W.hideAll_none _ (List.mem_append_left _ hm)
   rw [z] at e; cases e
 ·have y : (zda h H st).get? b = none := PySem.W.hideAll_none _ (List.mem_append_right _ z)
  rw [y] at e; cases e
theorem zfw {h : Heap} {H : Hp} {st : List Env} {b : Addr} {o : Obj} (e : h.get? b = some o) (n : H b = none) (hf : b ∉ frs st) : (zda h H st).get? b = some o :=
 PySem.W.hideAll_get _ e fun hm => by
  rcases List.mem_append.mp hm with z | z
  ·have q : (H b).isSome = true := (List.mem_filter.mp z).2
   rw [n] at q; simp at q
  ·exact hf z
theorem Inv.noStk (I : Inv X pins σ H s) {b : Addr} {o : Obj} (e : X.base.get? b = some o) : b ∉ frs X.stack := fun hb => by
 have := (I.stack.mem hb).1
 rw [e] at this; cases this
theorem Inv.now (I : Inv X pins σ H s) : Env0 X.prog X.w X.K X.mg (zda s.heap H X.stack) X.A X.stack s H := by
 have up : ∀ b o, X.base.get? b = some o → (zda s.heap H X.stack).get? b = some o := fun b o e => zfw (I.bs b o e).1 (I.bs b o e).2 (I.noStk e)
 obtain ⟨mb, h1, h2⟩ := I.mod.blt
 refine ⟨I.ok.frames, ⟨I.mod.kin.keeps up, I.mod.glob.keeps up, ⟨mb, h1.keeps up, h2⟩, I.mod.nolimit.keeps up⟩, fun b o e => ⟨(zj2 e).1, (zj2 e).2.1⟩, Nat.le_of_eq (PySem.W.hideAll_size _ _), ?_, I.stkFree, I.hok, I.bare⟩
 have go : ∀ l : List Env, (∀ b ∈ frs l, b ∈ frs X.stack) → s.heap.FunFrames X.base l → s.heap.FunFrames (zda s.heap H X.stack) l := by
  intro l
  induction l with
  | nil => intro _ _; trivial
  | cons env r ih =>
   intro hs hl
   obtain ⟨hk, ⟨L, o, hf, hn, ho, hd⟩, hr⟩ := hl
   have hL : L ∈ frs X.stack := hs L (by unfold frs; rw [List.filterMap_cons, hf]; exact List.mem_cons_self)
   refine ⟨hk, ⟨L, o, hf, ?_, ho, hd⟩, ih (fun b hb => hs b (by unfold frs; rw [List.filterMap_cons, hf]; exact List.mem_cons_of_mem _ hb)) hr⟩
   exact PySem.W.hideAll_none _ (List.mem_append_right _ hL)
 exact go X.stack (fun _ h => h) I.stack
theorem Inv.nowCell (I : Inv X pins σ H s) {x : Str} {c : Addr} {v : Option Value} (hf : X.fn x = true) (hc : X.env.cells.lookup x = some c) (h : s.heap.IsCell c v) : (zda s.heap H X.stack).IsCell c v := by
 obtain ⟨o, ho, hd⟩ := h
 refine ⟨o, zfw ho (I.freeC x c hc) fun z => ?_, hd⟩
 rcases List.mem_cons.mp (I.stkSub c z) with e | e
 ·exact I.cne x c hc e
 ·obtain ⟨_, ob, e2, _⟩ := I.ok.funs.mem e
  exact absurd (Nat.lt_of_lt_of_le (Heap.lt_size e2) (I.ok.cab x c hf hc)) (Nat.lt_irrefl _)
end
section
variable {X : Cx} {k : Nat} {f : Addr} {fd : FuncData} {ps : List Str} {x : Str} {p pos : Pos} {e : Expr} {es : List Expr} {t : TA}
def zjd (X : Cx) (σ : St) (base : Heap) : Prop := ∀ (i : Nat) (y : Str) (v : V), X.N[i]? = some y → σ[i]? = some (some v) → X.env.kindOf y = some .cell → ∃ c u, X.env.cells.lookup y = some c ∧ RelV v u ∧ base.IsCell c (some u)
theorem zs9 (hr : Room k X.A) (hg : Gl X x) (hm : X.mg x = some (.ref f)) (hk : PySem.W.keepIn X.K (.ref f) = true) (hb : Binds X.K fd ps []) (hfn : ∀ y, X.fn y = true)
  (ha : PA X (e :: es) t) (hdb : (x == ("__debug__" : Str)) = false := by decide) (he : starEach (e :: es) X.env = (false, eval e X.env) :: starEach es X.env := by rfl) (hpl : (backTo pos (starEach es X.env)).any (·.1) = false := by rfl) :
  PE X (.Call (.Name x p) (e :: es) [] pos) (fun σ H Q => t σ H fun vs H1 => ∀ base : Heap, zjd X σ base → X.K.In base → base.Ns mainGlobals X.mg → ∃ sp : Sp, FnOk X.prog X.w X.K X.mg base CX0 k f fd ps sp ∧ sp vs H1 Q E0) := by
 intro pins s σ H Q I h
 refine wpAny_Call_Name_kw (ze9 I hg hm ?_ hdb)
 refine PySem.W.callWith_K (h₀ := X.base) I.ok.mod.kin hk (thn (ha pos pins s σ H _ I h) fun us s1 ⟨vs, H1, I1, r, q⟩ => ⟨I1.kIn, ?_⟩) he hpl
 have e0 := I1.now
 have ci : zjd X σ (zda s1.heap H1 X.stack) := fun i y v hN hv hk => by
  obtain ⟨m, hn, hl⟩ := I1.loc
  obtain ⟨u, ru, l⟩ := hl i y v hN hv (.inr (.inl hk))
  rcases l with ⟨ac, _⟩ | ⟨_, c, hc, aa⟩
  ·rw [hk] at ac; cases ac
  ·exact ⟨c, u, hc, ru, I1.nowCell (hfn y) hc aa⟩
 obtain ⟨sp, F, hs⟩ := q _ ci e0.mod.kin e0.mod.glob
 have hl : us.length = ps.length := by rw [← r.length]; exact F.len _ _ _ _ hs
 have ad := hb s1 us I1.kIn (by rw [List.append_nil]; exact hl)
 rw [List.append_nil] at ad
 refine wpAny_call (codeAny_mono (F.run X.A X.stack s1 H1 ⟨us, []⟩ us vs Q E0 hr e0 ad r hs) fun r s' hq => ?_)
 cases r with
 | error e => exact hq.elim
 | ok fl =>
  cases fl with
  | ret u => exact I1.after hq
  | next => exact False.elim hq
  | brk => exact False.elim hq
  | cont => exact False.elim hq
theorem zsg {i : Nat} {φ : Heap → Prop} {sp : Sp} (F : FnOk X.prog X.w X.K X.mg X.base CX0 k f fd ps sp) (hr : Room k X.A) (hN : X.N[i]? = some x) (hv : Vis X.env.scope x) (hb : Binds X.K fd ps [])
  (hφ : ∀ h : Heap, φ h → ∃ o fd', h.get? f = some o ∧ o.data = .func fd') (ha : PA X (e :: es) t)
  (hdb : (x == ("__debug__" : Str)) = false := by decide) (hcd : (x == ("__classdict__" : Str)) = false := by decide) (he : starEach (e :: es) X.env = (false, eval e X.env) :: starEach es X.env := by rfl) (hpl : (backTo pos (starEach es X.env)).any (·.1) = false := by rfl) :
  PE X (.Call (.Name x p) (e :: es) [] pos) (fun σ H Q => σ[i]? = some (some (.ref f)) ∧ t σ H fun vs H1 => H1 f = some (.ext φ) ∧ sp vs H1 Q E0) := by
 intro pins s σ H Q I h
 obtain ⟨hσ, h⟩ := h
 refine wpAny_Call_Name_kw (wpAny_mono (zoz hN hv hdb hcd pins s σ H (fun v H' => v = .ref f ∧ H' = H) I ⟨_, hσ, rfl, rfl⟩) (fun u s1 hu => ?_) fun _ _ z => z)
 obtain ⟨v, H', I', rv, e1, e2⟩ := hu
 subst e1
 subst e2
 obtain rfl : u = Value.ref f := rv
 have h2 : wpAny (model X.prog X.w) X.A (spliced (backTo pos (starEach (e :: es) X.env))) (fun vs s₁ => (∃ o fd', s₁.heap.get? f = some o ∧ o.data = .func fd') ∧ wpAny (model X.prog X.w) X.A (call (.ref f) ([] ++ vs)) (EP X pins σ Q) X.xe s₁) X.xe s1 := by
  refine thn (ha pos pins s1 σ _ _ I' h) fun us s2 ⟨vs, H1, I1, r, e3, q⟩ => ⟨hφ _ (zim e3 I1.hok), ?_⟩
  have hq := zkc (ds := []) (dvs := []) (E := E0) F hr hb .nil zg3 I1 r (by rw [List.append_nil]; exact q)
  exact hq
 rw [he] at h2
 show wpAny _ _ (callWith pos (.ref f) [] (backTo pos (starEach (e :: es) X.env)) []) _ _ s1
 rw [he]
 refine PySem.W.callWith_of (by show ((false || (backTo pos (starEach es X.env)).any (·.1)) || false) = false; rw [hpl]; rfl) (P := fun h => ∃ o fd', h.get? f = some o ∧ o.data = .func fd') (fun h ⟨o, fd', e1, e2⟩ => ?_) (Calls.evalArgs_plain h2)
 obtain ⟨oc, od, aa, os⟩ := o
 cases e2
 exact ⟨.frame, .inl rfl, (PySem.W.Looks.ld (part := none) e1).andThen .now⟩
end
structure zhl (ps fr : List Str) (sc : Scope) : Prop where
 kind : sc.kind = .function
 co : sc.isCoroutine = false
 gen : sc.isGenerator = false
 nd : ps.Nodup
 par : ∀ x ∈ ps, sc.names.lookup x = some .local
 fre : ∀ x ∈ fr, sc.names.lookup x = some .free
 nocell : ∀ y ∈ sc.names, y.2 ≠ .cell
theorem zfs {ps : List Str} {us : List Value} {i : Nat} {x : Str} {u : Value} (nd : ps.Nodup) (h1 : ps[i]? = some x) (h2 : us[i]? = some u) : (ps.zip us).reverse.lookup x = some u := by
 have hm : (x, u) ∈ (ps.zip us).reverse := List.mem_reverse.mpr (List.mem_of_getElem? (i := i) (by rw [List.getElem?_zip_eq_some]; exact ⟨h1, h2⟩))
 obtain ⟨c, hc⟩ := zgd hm
 have h3 := List.mem_reverse.mp (PySem.mem_of_lookup hc)
 obtain ⟨j, hj⟩ := List.getElem?_of_mem h3
 rw [List.getElem?_zip_eq_some] at hj
 have aa : j = i := by
  obtain ⟨l1, e1⟩ := List.getElem?_eq_some_iff.mp h1
  obtain ⟨l2, e2⟩ := List.getElem?_eq_some_iff.mp hj.1
  rw [List.nodup_iff_pairwise_ne, List.pairwise_iff_getElem] at nd
  rcases Nat.lt_trichotomy j i with z | z | z
  ·exact absurd (e2.trans e1.symm) (nd j i l2 l1 z)
  ·exact z
  ·exact absurd (e1.trans e2.symm) (nd i j l1 l2 z)
 rw [aa, h2] at hj
 rw [hc, hj.2]
def zqh (P : Program) (w : World) (K : PySem.W.Frag) (mg : Str → Option Value) (base : Heap) (N : List Str) (q : Str) (scope : Scope) (f c : Addr) (cl : List (Str × Addr)) (A : Around) (outer : List Env) (s : Shared) (H : Hp) : Cx where
 prog := P
 w := w
 K := K
 mg := mg
 base := base
 A := A.deeper (PySem.W.envX q scope s.heap.objs.size f (.ref c) cl)
 N := N
 s₀ := s
 H₀ := H
 env := PySem.W.envX q scope s.heap.objs.size f (.ref c) cl
 outer := outer
 stack := PySem.W.envX q scope s.heap.objs.size f (.ref c) cl :: outer
 ex := []
 calm := true
 fn := fun _ => false
 pn := []
 xe := fun _ _ => False
theorem zn4 {prog : Program} {w : World} {A : Around} {R : Result → Shared → Prop} {s : Shared} {a : Addr} {args : Args} {o : Obj} {fd : FuncData} {body : Expr} {q : Str} (hroom : A.depth < recursionLimit)
  (ho : s.heap.get? a = some o)
  (hd' : o.data = .func fd) (hco : fd.scope.isCoroutine = false) (hgen : fd.scope.isGenerator = false) (hbody : fd.body = .expr body) (hcd : ∃ c oc vs t, fd.code = .ref c ∧ s.heap.get? c = some oc ∧ oc.data = .fields vs ∧ vs[1]? = some (.str q t))
  (h : wpAny (model prog w) A.in1 (bindArgs fd args) (fun binds s₁ =>
   wpAny (model prog w) A.in1 (newFunctionEnv fd.scope fd.globals fd.closure binds (q ++ ".<locals>.") (some a) fd.code none fd.builtins)
    (fun env s₂ => s₂.heap.NoLimit ∧ codeAny (model prog w) A (.expr body env) R s₂) (fun e s' => R (.error e) s') s₁) (fun e s' => R (.error e) s') s) :
  codeAny (model prog w) A (.call (.ref a) args) R s := by
 refine codeAny_of_tree ?_
 show wpAny _ A.in1 (callAny (.ref a) args) _ _ s
 simp only [callAny]
 refine wpAny_bind (wpAny_load ho ?_)
 obtain ⟨c, oc, vs, tq, hc, ac, aa, hq⟩ := hcd
 simp only [hd', callFunction, hco, hgen, hbody, hc]
 rw [hc] at h
 refine wpAny_bind (m := field (.ref c) 1) (wpAny_field ac aa hq (wpAny_bind (wpAny_pure ?_)))
 exact wpAny_bind (wpAny_mono h (fun binds s₁ h₁ => wpAny_bind (wpAny_mono h₁ (fun env s₂ h₂ => wpAny_bind (wpAny_enterFrame h₂.1 hroom
  (wpAny_pure (And.intro rfl h₂.2)))) fun _ _ h' => h')) fun _ _ h' => h')
theorem zwf {P : Program} {w : World} {K : PySem.W.Frag} {mg : Str → Option Value} {base : Heap} {f c : Addr} {qual : Str} {params : Arguments} {body : Expr} {scope : Scope} {cl : List (Str × Addr)} {ps fr : List Str} {fv : List V} {k : Nat} {sp : Sp}
  (S : zhl ps fr scope) (hcl : ∀ x cc, cl.lookup x = some cc → ∃ v, base.IsCell cc v) (inj : ∀ x y cc, cl.lookup x = some cc → cl.lookup y = some cc → x = y) (has : ∀ y ∈ scope.names, y.2 = .free → ∃ cc, cl.lookup y.1 = some cc)
  (hfv : ∀ (i : Nat) (x : Str) (v : V), fr[i]? = some x → fv[i]? = some v → ∃ cc u, cl.lookup x = some cc ∧ RelV v u ∧ base.IsCell cc (some u)) (hlen : fv.length = fr.length)
  (hsame : ∀ pm ctv args, bindArgs (PySem.W.kla_fn "<lambda>" qual params body scope cl pm (.ref c) ctv) args = bindArgs (PySem.W.kla_fn "<lambda>" qual params body scope cl .none (.ref c) .none) args)
  (len : ∀ vs H Q E, sp vs H Q E → vs.length = ps.length)
  (lam : ∀ vs H Q E, sp vs H Q E → H f = some (.ext (zjz f qual params body scope cl c)) ∧ H c = some (.ext (zfq c)))
  (hbody : ∀ (q : Str) (A : Around) (outer : List Env) (s : Shared) (H : Hp) (vs : List V) (Q : VK) (E : XK), Room k (A.deeper (PySem.W.envX q scope s.heap.objs.size f (.ref c) cl)) → sp vs H Q E →
   ∃ t, PE (zqh P w K mg base (ps ++ fr) q scope f c cl A outer s H) body t ∧ t (vs.map some ++ fv.map some) H Q) :
  FnOk P w K mg base CX0 (k + 1) f (PySem.W.kla_fn "<lambda>" qual params body scope cl .none (.ref c) .none) ps sp := by
 refine ⟨len, fun A outer s H args us vs Q E hr e0 hb r af => ?_⟩
 have hl := len _ _ _ _ af
 obtain ⟨hf, hc⟩ := lam _ _ _ _ af
 obtain ⟨pm, ctv, ho⟩ := zim hf e0.hok
 obtain ⟨oc, aj, q, t, ap, al, ak⟩ := zim hc e0.hok
 have am : s.heap.NoLimit := e0.mod.nolimit.keeps fun b o e => (e0.bs b o e).1
 have ae : ∀ {cc v}, base.IsCell cc v → s.heap.IsCell cc v ∧ H cc = none := fun {cc v} ⟨o, e, d⟩ => ⟨⟨o, (e0.bs _ _ e).1, d⟩, (e0.bs _ _ e).2⟩
 refine zn4 hr.depth ho rfl S.co S.gen rfl ⟨c, oc, aj, t, rfl, ap, al, ak⟩ ?_
 rw [hsame]
 refine hb _ _ _ _ ?_
 have ah : ∀ y ∈ ps.zip us, scope.names.lookup y.1 = some .local := fun ⟨n, v⟩ hy => S.par n (List.of_mem_zip hy).1
 refine wpAny_newFunctionEnv S.nocell ah (fun h₁ ao ai => ?_) S.kind
 have ac : ∀ b o, s.heap.get? b = some o → h₁.get? b = some o := fun b o e => ai.extBut b o (Nat.ne_of_lt (Heap.lt_size e)) (Heap.get?_push_of_some _ e)
 refine ⟨am.keeps ac, ?_⟩
 obtain ⟨tt, ht, hq⟩ := hbody q A outer s H vs Q E (hr.deeper _) af
 have ag : ∀ b : Addr, b ∉ ([] : List Addr) := fun b z => by simp at z
 have ad : ∀ x, (scope.names.lookup x = some .cell ∨ scope.names.lookup x = some .free) → ∃ cc, cl.lookup x = some cc := fun x hx => by
  rcases hx with z | z
  ·exact absurd rfl (S.nocell _ (PySem.mem_of_lookup z))
  ·exact has _ (PySem.mem_of_lookup z) rfl
 have I : Inv (zqh P w K mg base (ps ++ fr) q scope f c cl A outer s H) [] (vs.map some ++ fv.map some) H { s with heap := h₁, toks := s.toks + (ps.zip us).length } := by
  refine ⟨⟨e0.mod, S.kind, rfl, rfl, Nat.le_refl _, inj, ad, fun x cc z => (by cases z), fun _ => hr.hd, Around.frames_deeper e0.frames, .inr ⟨rfl, rfl⟩, fun b z => absurd z (ag b), e0.bs, e0.bsz, fun b _ _ => ag b, fun b z => absurd z (ag b), e0.funs, e0.frf⟩,
   rfl, e0.bare, Un.kept ac, ⟨_, ao, fun i x v h1 h2 h3 => ?_⟩, fun x cc e => ?_, e0.hok.fresh (Nat.le_refl _), fun x cc e => ?_, fun p hp => absurd (show p ∈ ([] : List (Addr × Obj)) from hp) (by simp), e0.hok.kept ac, ?_⟩
  ·have aa : (ps ++ fr)[i]? = some x := h1
   by_cases hi : i < ps.length
   ·rw [List.getElem?_append_left hi] at aa
    rw [List.getElem?_append_left (by rw [List.length_map, hl]; exact hi), List.getElem?_map] at h2
    obtain ⟨v', hv, e⟩ := Option.map_eq_some_iff.mp h2
    cases e
    obtain ⟨u, hu, rv⟩ := r.get hv
    exact ⟨u, rv, .inl ⟨S.par x (List.mem_of_getElem? aa), zfs S.nd aa hu⟩⟩
   ·rw [List.getElem?_append_right (by omega)] at aa
    rw [List.getElem?_append_right (by rw [List.length_map, hl]; omega), List.getElem?_map, List.length_map, hl] at h2
    obtain ⟨v', hv, e⟩ := Option.map_eq_some_iff.mp h2
    cases e
    obtain ⟨cc, u, e1, ru, ic⟩ := hfv _ _ _ aa hv
    exact ⟨u, ru, .inr ⟨.inr (S.fre x (List.mem_of_getElem? aa)), cc, e1, (ae ic).1.keeps ac⟩⟩
  ·obtain ⟨v, ic⟩ := hcl x cc e
   exact ⟨v, (ae ic).1.keeps ac⟩
  ·obtain ⟨v, ic⟩ := hcl x cc e
   exact (ae ic).2
  ·show (vs.map some ++ fv.map some).length = (ps ++ fr).length
   rw [List.length_append, List.length_append, List.length_map, List.length_map, hl, hlen]
 refine PySem.W.kla_codeExpr (wpAny_mono (ht [] _ _ H _ I hq) (fun u s' hs => ?_) fun e s' hs => hs.elim)
 obtain ⟨v, H', J, rv, qq⟩ := hs
 exact ⟨v, H', J.os, J.bare, J.base, J.hok, rv, qq⟩
theorem Fun.okC {P : Program} {w : World} {K : PySem.W.Frag} {mg : Str → Option Value} {base : Heap} {x qual : Str} {st : Stmt} {f : Addr} {fd : FuncData} {N ps : List Str} {k : Nat} {sp : Sp} (F : Fun K x qual st f fd) (S : zay N ps (zah st)) (len : ∀ vs H Q E, sp vs H Q E → vs.length = ps.length)
  (hbody : ∀ (cdv : Value) (A : Around) (outer : List Env) (s : Shared) (H : Hp) (vs : List V) (Q : VK) (E : XK), fd.code = cdv → Room k (A.deeper (envOfC qual (zah st) s.heap.objs.size f cdv)) → sp vs H Q E →
   ∃ t, PSs (zb3 CX0 P w K mg base N qual (zah st) f cdv A outer s H E).nox (za2 st) t ∧ t { nx := fun _ H' => Q .non H', rt := Q } (zg4 N vs) H) : FnOk P w K mg base CX0 (k + 1) f fd ps sp := by
 obtain ⟨oc, od, kV, doc, pm, an, cdv, ct, osl, rfl, lk, aa⟩ := F.ex
 refine zsx lk aa S len fun A outer s H vs Q E hr ac => ?_
 obtain ⟨t, h, q⟩ := hbody cdv A outer s H vs Q E rfl hr ac
 exact ⟨t, h.nox, q⟩
theorem zrj {P : Program} {w : World} {K : PySem.W.Frag} {mg mb : Str → Option Value} {k : Nat} {fa a : Addr} {fd : FuncData} {x : Str} {sp : Sp} {s₁ : Shared} {vs : List Value} {ns : List Int} {tabs : List (Addr × Addr)}
  (KX : K.In s₁.heap) (hns : s₁.heap.Ns mainGlobals mg) (hb : s₁.heap.Ns builtinsNs mb) (hbb : ∀ x : Str, x ≠ "__name__" → mb x = bootBuiltins x) (hlim : s₁.heap.NoLimit) (hg : s₁.gens = #[])
  (hT : PySem.W.TabsAt tabs s₁.heap) (hK0 : PySem.W.noTabs K = true)
  (hbm : ∃ bm ob, mg "__builtins__" = some (.ref bm) ∧ bm ≠ builtinsNs ∧ s₁.heap.get? bm = some ob ∧ ob.cls = .type "module" ∧ ob.dict = some builtinsNs ∧ ob.data = .plain)
  (ha : s₁.heap.get? a = some { cls := .type "list", data := .seq vs.toArray }) (hi : IntsAre vs ns) (hl : ns.length ≤ sizeLine) (hr : Room k callerA)
  (F : ∀ base : Heap, K.In base → base.Ns mainGlobals mg → (∀ q ∈ tabs, zi7 mg base q.1 q.2) → FnOk P w K mg base CX0 k fa fd [x] sp) (hbind : ∀ (s : Shared) (u : Value), BindsTo s fd ⟨[u], []⟩ [(x, u)])
  (hsp : ∀ H : Hp, (∀ q ∈ tabs, zcp H q.2) → SqL K H a (ns.map V.int) → sp [.ref a] H (fun v _ => v = .bl true) fun _ _ _ => False) :
  codeAny (model P w) callerA (.call (.ref fa) ⟨[.ref a], []⟩) (fun r s' => r = .ok (.ret (.bool true)) ∧ OldK s₁.heap s'.heap ∧ s'.os = s₁.os ∧ AllBare s'.gens) s₁ := by
 have rv := zls hi
 have aj := hi.length
 have ax : ∀ q ∈ tabs, q.2 ≠ a := fun q hq z => by
  have e := (hT q hq).2
  rw [z, ha] at e; cases e
 have aq : ∀ q ∈ tabs, K.lookup q.2 = none := fun q hq => by
  cases e : K.lookup q.2 with
  | none => rfl
  | some o =>
   have e1 := KX _ _ e
   rw [(hT q hq).2] at e1
   cases e1
   have h2 := List.all_eq_true.mp hK0 (q.2, _) (PySem.W.mem_of_lookupK e)
   exact absurd (show false = true from h2) Bool.false_ne_true
 have ah : ∀ H : Hp, (∀ b, H b = none ∨ (∃ o xs, H b = some (.frz o (.lst xs)) ∧ b = a ∧ K.lookup a = none) ∨ (H b = some (.tbl #[]) ∧ b ∈ tabs.map (·.2))) → (∀ q ∈ tabs, H q.2 = some (.tbl #[])) → SqL K H a (ns.map V.int) → HOk P w H s₁.heap →
   codeAny (model P w) callerA (.call (.ref fa) ⟨[.ref a], []⟩) (fun r s' => r = .ok (.ret (.bool true)) ∧ OldK s₁.heap s'.heap ∧ s'.os = s₁.os ∧ AllBare s'.gens) s₁ := by
  intro H hO aw hS ao
  have ak : ∀ {b : Addr} {o : Obj}, s₁.heap.get? b = some o → o ≠ PySem.W.tabObj #[] → b ≠ a → H b = none := fun {b o} e hne hba => by
   rcases hO b with z | ⟨_, _, _, z, _⟩ | ⟨_, z⟩
   ·exact z
   ·exact absurd z hba
   ·obtain ⟨q, hq, rfl⟩ := List.mem_map.mp z
    rw [(hT q hq).2] at e
    exact absurd (Option.some.inj e).symm hne
  have aa : ∀ {b : Addr} {o : Obj}, s₁.heap.get? b = some o → H b = none → (zlk s₁.heap H).get? b = some o := fun e n => zsh e n
  have ar : ∀ {b : Addr} {o : Obj} {es : Array DictEntry} {ep : Nat}, s₁.heap.get? b = some o → o.data = .dict es ep → H b = none := fun {b o es ep} e d => by
   refine ak e (fun z => by rw [z] at d; cases d) fun z => ?_
   subst z
   rw [ha] at e; cases e; cases d
  have ai : ∀ {b : Addr} {m : Str → Option Value}, s₁.heap.Ns b m → (zlk s₁.heap H).Ns b m := fun {b m} ⟨o, es, ep, e, d, r⟩ => ⟨o, es, ep, aa e (ar e d), d, r⟩
  have ap : K.In (zlk s₁.heap H) := fun b o e => aa (KX b o e) (by
   rcases hO b with z | ⟨_, _, _, z, y⟩ | ⟨_, z⟩
   ·exact z
   ·rw [z, y] at e; cases e
   ·obtain ⟨q, hq, rfl⟩ := List.mem_map.mp z
    rw [aq q hq] at e; cases e)
  have hM : Mod K mg (zlk s₁.heap H) := ⟨ap, ai hns, ⟨mb, ai hb, hbb⟩, let ⟨mc, h1, h2⟩ := hlim; ⟨mc, ai h1, h2⟩⟩
  have hL : ∀ q ∈ tabs, zi7 mg (zlk s₁.heap H) q.1 q.2 := fun q hq => by
   refine ⟨?_, ?_⟩
   ·obtain ⟨o, ws, al, tf, ae, tg, au, am, tt, e, e1, r⟩ := (hT q hq).1
    refine ⟨o, ws, al, tf, ae, tg, au, am, tt, aa e (ak e (fun z => by rw [z] at e1; cases e1) fun z => ?_), e1, r⟩
    rw [z, ha] at e; cases e; exact absurd e1 (by simp)
   ·obtain ⟨bm, ob, b1, b2, b3, b4, b5⟩ := hbm
    refine ⟨bm, ob, b1, b2, aa b3 (ak b3 (fun z => by rw [z] at b4; cases b4) fun z => ?_), b4, b5⟩
    rw [z, ha] at b3; cases b3; exact absurd b4 (by simp)
  have e0 : Env0 P w K mg (zlk s₁.heap H) callerA [] s₁ H := ⟨rfl, hM, fun b o e => zuv e, Nat.le_of_eq (zrn _ _), trivial, fun b hb => absurd (show b ∈ ([] : List Addr) from hb) (by simp), ao, .of_eq hg⟩
  have tk : ∀ q ∈ tabs, zcp H q.2 := fun q hq => ⟨#[], aw q hq, trivial, fun _ => .inl rfl⟩
  refine codeAny_mono ((F _ ap (ai hns) hL).run callerA [] s₁ H ⟨[.ref a], []⟩ [.ref a] [.ref a] _ _ hr e0 (hbind s₁ (.ref a)) (.cons rfl .nil) (hsp H tk hS)) fun r s' h => ?_
  cases r with
  | error e => exact h.elim
  | ok fl =>
   cases fl with
   | next => exact False.elim h
   | brk => exact False.elim h
   | cont => exact False.elim h
   | ret u =>
    obtain ⟨v, H', os, bare, un, af, r', q⟩ := h
    have q' : v = .bl true := q
    subst q'
    obtain rfl : u = Value.bool true := r'
    have ac : ∀ b o, s₁.heap.get? b = some o → s'.heap.get? b = some o ∨ (∃ q ∈ tabs, b = q.2 ∧ ∃ ps, s'.heap.get? b = some (PySem.W.tabObj ps)) := fun b o e => by
     rcases hO b with z | ⟨ob, xs, z, _⟩ | ⟨z, y⟩
     ·exact .inl (un.keep b o e z (by intro z; exact absurd (show b ∈ ([] : List Addr) from z) (by simp)) (by simp))
     ·have z2 := un.frzs b ob _ z
      obtain ⟨e1, _⟩ := ao b _ z
      obtain ⟨e2, _⟩ := af b _ z2
      rw [e] at e1; cases e1
      exact .inl e2
     ·obtain ⟨q, hq, rfl⟩ := List.mem_map.mp y
      obtain ⟨av, z2⟩ := un.tbls _ _ z
      exact .inr ⟨q, hq, rfl, _, af _ _ z2⟩
    refine ⟨rfl, ⟨fun b o e => ?_, fun b o e => ?_⟩, os, bare⟩
    ·rcases ac b o e with z | ⟨q, hq, rfl, ps, z⟩
     ·exact .inl z
     ·have e2 := (hT q hq).2
      rw [e] at e2
      cases e2
      exact .inr (.inl ⟨((hT q hq).1.tab (hT q hq).2).isCodeTable, rfl, #[], ps, rfl, by rw [Array.empty_append]; exact z⟩)
    ·rcases ac b o e with z | ⟨q, hq, rfl, ps, z⟩
     ·exact ⟨_, z⟩
     ·exact ⟨_, z⟩
 have ag : ∀ b, b ∈ tabs.map (·.2) → s₁.heap.get? b = some (PySem.W.tabObj #[]) := fun b hb => by
  obtain ⟨q, hq, rfl⟩ := List.mem_map.mp hb
  exact (hT q hq).2
 cases hk : K.lookup a with
 | some o =>
  have e := KX a o hk
  rw [ha] at e
  cases e
  refine ah (fun b => if b ∈ tabs.map (·.2) then some (.tbl #[]) else none) (fun b => ?_) (fun q hq => if_pos (List.mem_map_of_mem hq)) (.inr ⟨_, vs.toArray, _, hk, rfl, rfl, rfl, by rw [List.size_toArray, aj]; exact hl, by simpa using rv⟩) (fun b u z => ?_)
  ·by_cases hb : b ∈ tabs.map (·.2)
   ·exact .inr (.inr ⟨if_pos hb, hb⟩)
   ·exact .inl (if_neg hb)
  ·by_cases hb : b ∈ tabs.map (·.2)
   ·have z' := (if_pos hb).symm.trans z
    cases z'
    exact ag b hb
   ·have z' := (if_neg hb).symm.trans z
    cases z'
 | none =>
  refine ah (fun b => if b = a then some (.frz { cls := .type "list", data := .seq vs.toArray } (.lst (ns.map V.int))) else if b ∈ tabs.map (·.2) then some (.tbl #[]) else none) (fun b => ?_) (fun q hq => ?_) (.inl (.inr ⟨{ cls := .type "list", data := .seq vs.toArray }, if_pos rfl⟩)) (fun b u z => ?_)
  ·by_cases hb : b = a
   ·exact .inr (.inl ⟨_, _, if_pos hb, hb, hk⟩)
   ·by_cases ad : b ∈ tabs.map (·.2)
    ·exact .inr (.inr ⟨(if_neg hb).trans (if_pos ad), ad⟩)
    ·exact .inl ((if_neg hb).trans (if_neg ad))
  ·exact (if_neg (ax q hq)).trans (if_pos (List.mem_map_of_mem hq))
  ·by_cases hb : b = a
   ·have z' := (if_pos hb).symm.trans z
    cases z'
    subst hb
    exact ⟨ha, by rw [List.length_map]; exact hl, vs, _, rv, ha⟩
   ·have z1 := (if_neg hb).symm.trans z
    by_cases ad : b ∈ tabs.map (·.2)
    ·have z' := (if_pos ad).symm.trans z1
     cases z'
     exact ag b ad
    ·have z' := (if_neg ad).symm.trans z1
     cases z'
theorem walk_ofT {l : PySem.W.OpenLaw} {n k : Nat} {q : Program} {loose : List Str} {XP : (Str → Option Value) → Heap → Prop} {YP : World → Heap → Prop} {d : DefRec} {K : Params → PySem.W.Frag} {sp : World → Sp} {x : Str} {tabs : World → List (Addr × Addr)}
  (hn : l.most = some n) (hn2 : n ≤ sizeLine) (hdf : d.params.defaults = []) (hr : Room k callerA)
  (hY : ∀ (w : World) (h : Heap), YP w h → (K w.params).In h) (hK0 : ∀ w : World, PySem.W.noTabs (K w.params) = true)
  (hT : ∀ (w : World) (h : Heap), YP w h → PySem.W.TabsAt (tabs w) h)
  (F : ∀ (w : World) (mg : Str → Option Value) (fa : Addr) (h : Heap), (K w.params).In h → h.Ns mainGlobals mg → mg d.name = some (.ref fa) →
   ∃ fd : FuncData, (∀ (s : Shared) (u : Value), BindsTo s fd ⟨[u], []⟩ [(x, u)]) ∧
    ∀ base : Heap, (K w.params).In base → base.Ns mainGlobals mg → (∀ p ∈ tabs w, zi7 mg base p.1 p.2) → FnOk l.prog w (K w.params) mg base CX0 k fa fd [x] (sp w))
  (hsp : ∀ (w : World) (H : Hp) (a : Addr) (ns : List Int), ns.length ≤ n → (∀ p ∈ tabs w, zcp H p.2) → SqL (K w.params) H a (ns.map V.int) → sp w [.ref a] H (fun v _ => v = .bl true) fun _ _ _ => False) :
  PySem.W.WalkO q loose XP YP l.row.toRowW d [] (fun f vs => PySem.call f vs) := by
 refine Att.attach_call hn hdf fun w s₀ s₁ mg mb fa o pm cd doc a vs ns G Y ho hd ag ae ad aa ac hg => ?_
 have KX := hY w _ Y
 obtain ⟨fd, hb, hF⟩ := F w mg fa _ KX G.T.g ae
 have af := hT w _ Y
 exact zrj KX G.T.g G.T.b G.T.builtins G.T.nolimit hg af (hK0 w) G.T.bmain ad aa (Nat.le_trans ac hn2) hr hF hb fun H hO hS => hsp w H a ns ac hO hS
def zem : Expr → Expr
 | .Call _ args _ _ => args.getLastD (.Constant .none 0 ⟨0, 0, 0, 0⟩)
 | e => e
def zdd : Expr → Scope
 | .Lambda _ _ sc _ => sc
 | _ => { kind := .function, names := [], isGenerator := false, isCoroutine := false }
theorem zg6 {x y : Str} {c cc : Addr} (h : [(y, c)].lookup x = some cc) : x = y ∧ cc = c := by
 have m := PySem.mem_of_lookup h
 rw [List.mem_singleton] at m
 cases m
 exact ⟨rfl, rfl⟩
end L2
namespace Wd
open PySem L2 Ow
theorem zt4 {b : Bool} {A B : Prop} (hb : b = true) (h : A) : if b = true then A else B := by
 rw [if_pos hb]
 exact h
theorem zj5 {b : Bool} {A B : Prop} (hb : b = false) (h : B) : if b = true then A else B := by
 rw [if_neg (by rw [hb]; simp)]
 exact h
def spT (P0 : Addr) (sp : Sp) : Sp := fun vs H Q E => zcp H P0 ∧ sp vs H Q E
def zfp (ts : List Tie) (il : List Nat) (m : Nat) (leaf : Nat → Nat → Option PyData) : Nat → Nat → Nat → PyData
 | f, y, n => match za6 ts il y n with
  | some t => .tuple [.str ("broken" : Str), .int (t : Int)]
  | none => match leaf y n with
   | some d => d
   | none => match zas m y n, f with
    | k :: _, f + 1 => .tuple [.str ("split" : Str), .int (k : Int), zfp ts il m leaf f (y ||| 2 ^ k) n, zfp ts il m leaf f y (n ||| 2 ^ k)]
    | _, _ => .tuple []
section
variable {ts : List Tie} {il : List Nat} {m f y n : Nat} {leaf : Nat → Nat → Option PyData}
theorem zht {i : Nat} (hb : za6 ts il y n = some i) : zfp ts il m leaf f y n = .tuple [.str ("broken" : Str), .int (i : Int)] := by
 unfold zfp
 simp [hb]
theorem zkh {d : PyData} (hb : za6 ts il y n = none) (hl : leaf y n = some d) : zfp ts il m leaf f y n = d := by
 unfold zfp
 simp [hb, hl]
theorem zis {k : Nat} {r : List Nat} (hb : za6 ts il y n = none) (hl : leaf y n = none) (ho : zas m y n = k :: r) : zfp ts il m leaf (f + 1) y n = .tuple [.str ("split" : Str), .int (k : Int), zfp ts il m leaf f (y ||| 2 ^ k) n, zfp ts il m leaf f y (n ||| 2 ^ k)] := by
 conv => lhs; unfold zfp
 simp only [hb, hl, ho]
end
def zl1 (leaf : Nat → Nat → Option PyData) (y n : Nat) (H : Hp) (v : V) : Prop := match leaf y n with
 | none => v = .non
 | some d => Dn H d v ∧ ∃ p, v = .ref p
def zv7 (C : Hp → Prop) (leaf : Nat → Nat → Option PyData) : Sp := fun vs H Q _ => ∃ y n : Nat, vs = [.int y, .int n] ∧ C H ∧ ∀ (v : V) (H' : Hp), Same H H' → zl1 leaf y n H' v → Q v H'
def EndsR (ts : List Tie) (il : List Nat) (m : Nat) (leaf : Nat → Nat → Option PyData) (y n : Nat) : Prop := ∃ R : Nat → Nat → Prop, R y n ∧ (∀ y n k, R y n → k ∈ zas m y n → R (y ||| 2 ^ k) n ∧ R y (n ||| 2 ^ k)) ∧ ∀ y n, R y n → za6 ts il y n = none → zas m y n = [] → leaf y n ≠ none
theorem EndsR.all {ts : List Tie} {il : List Nat} {m : Nat} {leaf : Nat → Nat → Option PyData} (h : ∀ y n, za6 ts il y n = none → zas m y n = [] → leaf y n ≠ none) (y n : Nat) : EndsR ts il m leaf y n := ⟨fun _ _ => True, trivial, fun _ _ _ _ _ => ⟨trivial, trivial⟩, fun y n _ => h y n⟩
def zmn (f : Nat) (p : Addr) (C : Hp → Prop) (m : Nat) (leaf : Nat → Nat → Option PyData) : Sp := fun vs H Q _ => ∃ (wd : Addr) (ts : List Tie) (tl : Addr) (il : List Nat) (y n : Nat), vs = [.ref wd, .ref tl, .int y, .int n, .ref p] ∧ WoodT H wd m ts ∧ H tl = some (.lst (zal il)) ∧ (∀ i ∈ il, i < ts.length) ∧ (zas m y n).length ≤ f ∧ C H ∧ EndsR ts il m leaf y n ∧ ∀ (v : V) (H' : Hp), Same H H' → Dn H' (zfp ts il m leaf f y n) v → Q v H'
theorem zwe {P : Program} {w : World} {K : PySem.W.Frag} {mg : Str → Option Value} {base : Heap} {p c : Addr} {qual : Str} {params : Arguments} {body : Expr} {scope : Scope} {cl : List (Str × Addr)} {H1 : Hp} {ps fr : List Str} {fv : List V} {k : Nat} {leaf : Nat → Nat → Option PyData} (C0 : Hp → Prop)
  (hp : H1 p = some (.ext (zjz p qual params body scope cl c)))
  (S : zhl ps fr scope) (hcl : ∀ x cc, cl.lookup x = some cc → ∃ v, base.IsCell cc v) (inj : ∀ x y cc, cl.lookup x = some cc → cl.lookup y = some cc → x = y) (has : ∀ y ∈ scope.names, y.2 = .free → ∃ cc, cl.lookup y.1 = some cc)
  (hfv : ∀ (i : Nat) (x : Str) (v : V), fr[i]? = some x → fv[i]? = some v → ∃ cc u, cl.lookup x = some cc ∧ RelV v u ∧ base.IsCell cc (some u)) (hlen : fv.length = fr.length)
  (hsame : ∀ pm ctv args, bindArgs (PySem.W.kla_fn "<lambda>" qual params body scope cl pm (.ref c) ctv) args = bindArgs (PySem.W.kla_fn "<lambda>" qual params body scope cl .none (.ref c) .none) args)
  (len2 : ps.length = 2)
  (hbody : ∀ (q : Str) (A : Around) (outer : List Env) (s : Shared) (H : Hp) (y n : Nat) (Q : VK), Room k (A.deeper (PySem.W.envX q scope s.heap.objs.size p (.ref c) cl)) → C0 H → (∀ (v : V) (H' : Hp), Same H H' → zl1 leaf y n H' v → Q v H') →
   ∃ t, PE (zqh P w K mg base (ps ++ fr) q scope p c cl A outer s H) body t ∧ t ([some (.int y), some (.int n)] ++ fv.map some) H Q) :
  FnOk P w K mg base CX0 (k + 1) p (PySem.W.kla_fn "<lambda>" qual params body scope cl .none (.ref c) .none) ps (zv7 (fun H => C0 H ∧ H p = some (.ext (zjz p qual params body scope cl c)) ∧ H c = some (.ext (zfq c))) leaf) := by
 refine zwf S hcl inj has hfv hlen hsame (fun vs H Q E h => ?_) (fun vs H Q E h => ?_) (fun q A outer s H vs Q E hr h => ?_)
 ·obtain ⟨y, n, rfl, _⟩ := h
  exact len2.symm
 ·obtain ⟨y, n, rfl, ⟨_, h1, h2⟩, _⟩ := h
  exact ⟨h1, h2⟩
 ·obtain ⟨y, n, rfl, ⟨h0, _, _⟩, q'⟩ := h
  exact hbody q A outer s H y n Q hr h0 q'
theorem zei {p : Addr} {qual : Str} {params : Arguments} {body : Expr} {scope : Scope} {cl : List (Str × Addr)} {c : Addr} (h : Heap) (x : zjz p qual params body scope cl c h) : ∃ o fd', h.get? p = some o ∧ o.data = .func fd' := by
 obtain ⟨pm, aa, e⟩ := x
 exact ⟨_, _, e, rfl⟩
def zdg (m : Nat) (y n : Nat) : Option PyData := if zas m y n = [] then some (.tuple [.str ("ware" : Str)]) else none
theorem zha {ts : List Tie} {il : List Nat} {m : Nat} : ∀ (f y n : Nat), (zas m y n).length ≤ f → zfp ts il m (zdg m) f y n = (zbk ts il m f y n).toD
 | f, y, n, hf => by
  cases hb : za6 ts il y n with
  | some i => rw [zht hb, zg1 hb]; rfl
  | none =>
   cases ho : zas m y n with
   | nil => rw [zkh hb (by unfold zdg; rw [if_pos ho]), zix hb ho]; rfl
   | cons k r =>
    cases f with
    | zero => rw [ho] at hf; simp at hf
    | succ f =>
     have hk : k ∈ zas m y n := by rw [ho]; exact List.mem_cons_self
     have l1 := zc5 hk
     have l2 := zc8 hk
     rw [zis hb (by unfold zdg; rw [if_neg (by rw [ho]; simp)]) ho, zhm hb ho, zha f _ _ (by omega), zha f _ _ (by omega)]
     rfl
def zhp (m : Nat) (ts : List Tie) : List Nat := (List.range (2 ^ m)).filter fun s => zbg ts s
theorem mem_wareL {m : Nat} {ts : List Tie} {s : Nat} : s ∈ zhp m ts ↔ s < 2 ^ m ∧ zbg ts s = true := by
 unfold zhp
 rw [List.mem_filter, List.mem_range]
end Wd
namespace L2
open PySem PySem.Spec PyProof.Rows
variable {X : Cx}
end L2
namespace Wd
open PySem L2 Ow
structure Bg where
 u : Nat
 lo : Int
 hi : Int
 ks : List Nat
def Bg.tie (b : Bg) : Tie := .bough b.u b.lo b.hi b.ks
def Bg.ind (b : Bg) (j : Nat) : Nat := if decide (b.lo ≤ (j : Int)) && decide ((j : Int) ≤ b.hi) then 1 else 0
def zjb (w : Nat → Nat) : List Nat → (Nat → Nat) → Nat
 | [], g => g 0
 | c :: cs, g => zjb w cs g + w c * zjb w cs fun j => g (j + 1)
def Bg.F (b : Bg) (w : Nat → Nat) : Nat := zjb w b.ks b.ind
theorem zju (w : Nat → Nat) : ∀ (ks : List Nat) (g : Nat → Nat), (∀ j, g (j + 1) = 0) → zjb w ks g = g 0
 | [], _, _ => rfl
 | c :: cs, g, h => by
  show zjb w cs g + w c * zjb w cs (fun j => g (j + 1)) = g 0
  rw [zju w cs g h, zju w cs _ fun j => h (j + 1), h 0, Nat.mul_zero, Nat.add_zero]
def zgi (w : Nat → Nat) (b : Bg) : Nat → Nat := fun k => if k = b.u then w k * b.F w else w k
theorem zoo {w : Nat → Nat} {b : Bg} {k : Nat} (h : k ≠ b.u) : zgi w b k = w k := if_neg h
theorem zsw {w : Nat → Nat} {b : Bg} : zgi w b b.u = w b.u * b.F w := if_pos rfl
def sub : List Nat → Nat → (Nat → Nat) → Nat
 | [], m, f => f m
 | k :: ks, m, f => sub ks m f + sub ks (m ||| 2 ^ k) f
theorem zjj : ∀ (a b : List Nat) (m : Nat) (f : Nat → Nat), sub (a ++ b) m f = sub a m fun m' => sub b m' f
 | [], _, _, _ => rfl
 | k :: ks, b, m, f => by
  show sub (ks ++ b) m f + sub (ks ++ b) _ f = _
  rw [zjj ks b, zjj ks b]
  rfl
theorem zdz : ∀ {V : List Nat} {m : Nat} {f g : Nat → Nat}, (∀ s, (∀ k, k ∉ V → s.testBit k = m.testBit k) → f s = g s) → sub V m f = sub V m g
 | [], m, f, g, h => h m fun _ _ => rfl
 | c :: cs, m, f, g, h => by
  show sub cs m f + sub cs _ f = sub cs m g + sub cs _ g
  congr 1
  ·exact zdz fun s hs => h s fun k hk => hs k fun z => hk (List.mem_cons_of_mem _ z)
  ·refine zdz fun s hs => h s fun k hk => ?_
   rw [hs k fun z => hk (List.mem_cons_of_mem _ z), Nat.testBit_or, Nat.testBit_two_pow]
   rw [decide_eq_false (fun z : c = k => hk (z ▸ List.mem_cons_self)), Bool.or_false]
theorem zjh (x : Nat) : ∀ (V : List Nat) (m : Nat) (f : Nat → Nat), sub V m (fun s => x * f s) = x * sub V m f
 | [], _, _ => rfl
 | c :: cs, m, f => by
  show sub cs m _ + sub cs _ _ = x * (sub cs m f + sub cs _ f)
  rw [zjh x cs, zjh x cs, Nat.mul_add]
theorem zot {a b : List Nat} (p : a.Perm b) : ∀ (m : Nat) (f : Nat → Nat), sub a m f = sub b m f := by
 induction p with
 | nil => intro m f; rfl
 | cons x _ ih => intro m f; show sub _ m f + sub _ _ f = sub _ m f + sub _ _ f; rw [ih, ih]
 | swap x y l =>
  intro m f
  show sub l m f + sub l (m ||| 2 ^ x) f + (sub l (m ||| 2 ^ y) f + sub l (m ||| 2 ^ y ||| 2 ^ x) f) = sub l m f + sub l (m ||| 2 ^ y) f + (sub l (m ||| 2 ^ x) f + sub l (m ||| 2 ^ x ||| 2 ^ y) f)
  rw [show m ||| 2 ^ y ||| 2 ^ x = m ||| 2 ^ x ||| 2 ^ y by rw [Nat.or_assoc, Nat.or_comm (2 ^ y), ← Nat.or_assoc]]
  omega
 | trans _ _ h1 h2 => intro m f; rw [h1, h2]
def wt (w : Nat → Nat) : List Nat → Nat → Nat
 | [], _ => 1
 | c :: cs, s => (if s.testBit c = true then w c else 1) * wt w cs s
theorem ztz (w : Nat → Nat) : ∀ (a b : List Nat) (s : Nat), wt w (a ++ b) s = wt w a s * wt w b s
 | [], b, s => (Nat.one_mul _).symm
 | c :: cs, b, s => by
  show _ * wt w (cs ++ b) s = _ * wt w cs s * wt w b s
  rw [ztz w cs b s, Nat.mul_assoc]
theorem zjx {w w' : Nat → Nat} {s s' : Nat} : ∀ {a : List Nat}, (∀ k ∈ a, s.testBit k = s'.testBit k ∧ w k = w' k) → wt w a s = wt w' a s'
 | [], _ => rfl
 | c :: cs, h => by
  show _ * wt w cs s = _ * wt w' cs s'
  rw [zjx fun k hk => h k (List.mem_cons_of_mem _ hk), (h c List.mem_cons_self).1, (h c List.mem_cons_self).2]
theorem zp3 {w : Nat → Nat} {b : Bg} {s : Nat} : ∀ {a : List Nat}, a.Nodup → b.u ∈ a → wt (zgi w b) a s = wt w a s * (if s.testBit b.u = true then b.F w else 1)
 | c :: cs, nd, h => by
  obtain ⟨n1, n2⟩ := List.nodup_cons.mp nd
  show (if s.testBit c = true then zgi w b c else 1) * wt (zgi w b) cs s = (if s.testBit c = true then w c else 1) * wt w cs s * _
  by_cases e : c = b.u
  ·rw [zjx (w := zgi w b) (w' := w) (s := s) (s' := s) fun k hk => ⟨rfl, zoo fun z => n1 (e ▸ z ▸ hk)⟩, e, zsw]
   by_cases t : s.testBit b.u = true
   ·rw [if_pos t, if_pos t, if_pos t, Nat.mul_assoc, Nat.mul_comm (b.F w), ← Nat.mul_assoc]
   ·rw [if_neg t, if_neg t, if_neg t, Nat.mul_one]
  ·rw [zoo e, zp3 n2 ((List.mem_cons.mp h).resolve_left (Ne.symm e)), Nat.mul_assoc]
theorem zp5 {w : Nat → Nat} (h : ∀ k, w k = 1) (s : Nat) : ∀ (a : List Nat), wt w a s = 1
 | [] => rfl
 | c :: cs => by
  show _ * wt w cs s = 1
  rw [zp5 h s cs, h c, ite_self, Nat.mul_one]
theorem zm0 (w : Nat → Nat) : ∀ {ks : List Nat} {m : Nat} {g : Nat → Nat}, ks.Nodup → (∀ k ∈ ks, m.testBit k = false) → sub ks m (fun s => g (cnt ks s) * wt w ks s) = zjb w ks g
 | [], m, g, _, _ => Nat.mul_one _
 | c :: cs, m, g, nd, h => by
  obtain ⟨n1, n2⟩ := List.nodup_cons.mp nd
  have hc := h c List.mem_cons_self
  show sub cs m _ + sub cs (m ||| 2 ^ c) _ = zjb w cs g + w c * zjb w cs _
  congr 1
  ·rw [← zm0 w (m := m) (g := g) n2 fun k hk => h k (List.mem_cons_of_mem _ hk)]
   refine zdz fun s hs => ?_
   have e := hs c n1
   rw [hc] at e
   have e2 : wt w (c :: cs) s = 1 * wt w cs s := by
    show (if s.testBit c = true then w c else 1) * wt w cs s = _
    rw [e]; rfl
   rw [zb9, e, e2, Nat.one_mul, if_neg Bool.false_ne_true, Nat.zero_add]
  ·rw [← zm0 w (m := m ||| 2 ^ c) (g := fun j => g (j + 1)) n2 fun k hk => ?_, ← zjh]
   ·refine zdz fun s hs => ?_
    have e := hs c n1
    rw [Nat.testBit_or, Nat.testBit_two_pow_self, Bool.or_true] at e
    have e2 : wt w (c :: cs) s = w c * wt w cs s := by
     show (if s.testBit c = true then w c else 1) * wt w cs s = _
     rw [e]; rfl
    rw [zb9, e, e2, if_pos rfl, Nat.add_comm 1, Nat.mul_left_comm]
   ·rw [Nat.testBit_or, h k (List.mem_cons_of_mem _ hk), Nat.testBit_two_pow, decide_eq_false (fun z : c = k => n1 (z ▸ hk))]; rfl
def zbi (L : List Bg) : List Nat := L.flatMap (·.ks)
def Fit (r : Nat) : List Bg → Prop
 | [] => True
 | b :: R => b.u ∈ r :: zbi R ∧ (∀ k ∈ b.ks, k ≠ b.u ∧ ∀ b' ∈ R, b'.u ≠ k) ∧ Fit r R
def zmr (L : List Bg) (s : Nat) : Bool := L.all fun b => b.tie.keep s
def bit (p : Bool) : Nat := if p then 1 else 0
def zs3 (r : Nat) (L : List Bg) (w : Nat → Nat) : Nat := sub (r :: zbi L) 0 fun s => bit (s.testBit r && zmr L s) * wt w (r :: zbi L) s
theorem zvp {b : Bg} {s s' : Nat} (h1 : s.testBit b.u = s'.testBit b.u) (h2 : ∀ k ∈ b.ks, s.testBit k = s'.testBit k) : b.tie.keep s = b.tie.keep s' := by
 show Tie.keep (.bough _ _ _ _) s = Tie.keep (.bough _ _ _ _) s'
 simp only [Tie.keep]
 rw [h1, zgl h2]
theorem zri {r : Nat} {b : Bg} {R : List Bg} {w : Nat → Nat} (nd : (r :: zbi (b :: R)).Nodup) (ft : Fit r (b :: R)) : zs3 r (b :: R) w = zs3 r R (zgi w b) := by
 obtain ⟨hu, hk, _⟩ := ft
 have eV : zbi (b :: R) = b.ks ++ zbi R := List.flatMap_cons
 have pV : (r :: zbi (b :: R)).Perm ((r :: zbi R) ++ b.ks) := by
  rw [eV]
  show (r :: (b.ks ++ zbi R)).Perm (r :: (zbi R ++ b.ks))
  exact List.Perm.cons _ List.perm_append_comm
 have af := (pV.nodup_iff).mp nd
 obtain ⟨ag, aj, ac⟩ := List.nodup_append.mp af
 unfold zs3
 rw [zot pV, zjj]
 refine zdz fun m hm => ?_
 have ai : ∀ k ∈ b.ks, m.testBit k = false := fun k aa => by rw [hm k fun z => ac k z k aa rfl, Nat.zero_testBit]
 have ad : ∀ s, wt w (r :: zbi (b :: R)) s = wt w (r :: zbi R) s * wt w b.ks s := fun s => by
  rw [eV]
  show _ * wt w (b.ks ++ zbi R) s = _ * wt w (zbi R) s * wt w b.ks s
  rw [ztz, Nat.mul_comm (wt w b.ks s), Nat.mul_assoc]
 have un : b.u ∉ b.ks := fun z => (hk b.u z).1 rfl
 have rn : r ∉ b.ks := fun z => ac r List.mem_cons_self r z rfl
 have key : sub b.ks m (fun s => bit (s.testBit r && zmr (b :: R) s) * wt w (r :: zbi (b :: R)) s) = sub b.ks m fun s => (bit (m.testBit r && zmr R m) * wt w (r :: zbi R) m) * ((fun j => if m.testBit b.u = true then b.ind j else bit (decide (j = 0))) (cnt b.ks s) * wt w b.ks s) := by
  refine zdz fun s hs => ?_
  rw [ad, hs r rn]
  have e1 : wt w (r :: zbi R) s = wt w (r :: zbi R) m := zjx fun k aa => ⟨hs k fun z => ac k aa k z rfl, rfl⟩
  have e2 : zmr R s = zmr R m := by
   unfold zmr
   rw [Bool.eq_iff_iff, List.all_eq_true, List.all_eq_true]
   have ee : ∀ b' ∈ R, b'.tie.keep s = b'.tie.keep m := fun b' ae => zvp (hs _ fun z => (hk _ z).2 b' ae rfl) fun k aa => hs k fun z => ac k (List.mem_cons_of_mem _ (List.mem_flatMap.mpr ⟨b', ae, aa⟩)) k z rfl
   exact ⟨fun h x hx => by rw [← ee x hx]; exact h x hx, fun h x hx => by rw [ee x hx]; exact h x hx⟩
  have e3 : zmr (b :: R) s = (b.tie.keep s && zmr R m) := by rw [← e2]; rfl
  have e4 : bit (b.tie.keep s) = (fun j => if m.testBit b.u = true then b.ind j else bit (decide (j = 0))) (cnt b.ks s) := by
   have ah := hs b.u un
   show bit (Tie.keep (.bough _ _ _ _) s) = _
   simp only [Tie.keep]
   rw [ah]
   by_cases t : m.testBit b.u = true
   ·rw [if_pos t, if_pos t]; rfl
   ·rw [if_neg t, if_neg t]
  have bm : ∀ p q : Bool, bit (p && q) = bit p * bit q := fun p q => by cases p <;> cases q <;> rfl
  rw [e1, e3, ← e4, bm, bm, bm]
  simp only [Nat.mul_assoc, Nat.mul_comm, Nat.mul_left_comm]
 rw [key, zjh, zm0 w (g := fun j => if m.testBit b.u = true then b.ind j else bit (decide (j = 0))) aj ai, zp3 ag hu, Nat.mul_assoc]
 congr 1
 congr 1
 by_cases t : m.testBit b.u = true
 ·simp only [if_pos t]; rfl
 ·simp only [if_neg t]
  exact zju w b.ks _ fun j => rfl
theorem zn6 {r : Nat} : ∀ {L : List Bg} {w : Nat → Nat}, (r :: zbi L).Nodup → Fit r L → zs3 r L w = L.foldl zgi w r
 | [], w, _, _ => by
  show sub [r] 0 (fun s => bit (s.testBit r && true) * ((if s.testBit r = true then w r else 1) * 1)) = w r
  show bit ((0 : Nat).testBit r && true) * ((if (0 : Nat).testBit r = true then w r else 1) * 1) + bit ((0 ||| 2 ^ r).testBit r && true) * ((if (0 ||| 2 ^ r).testBit r = true then w r else 1) * 1) = w r
  rw [Nat.zero_testBit, Nat.zero_or, Nat.testBit_two_pow_self]
  simp [bit]
 | b :: R, w, nd, ft => by
  have nd' : (r :: zbi R).Nodup := by
   rw [show zbi (b :: R) = b.ks ++ zbi R from List.flatMap_cons] at nd
   obtain ⟨n1, n2⟩ := List.nodup_cons.mp nd
   exact List.nodup_cons.mpr ⟨fun z => n1 (List.mem_append_right _ z), (List.nodup_append.mp n2).2.1⟩
  rw [zri nd ft, zn6 nd' ft.2.2]
  rfl
def zua (L : List Bg) (k : Nat) : List Bg := L.filter fun b => b.u == k
def zhn (m : Nat) (L : List Bg) : List Bg := (List.range m).reverse.flatMap (zua L)
theorem mem_atUp {L : List Bg} {k : Nat} {b : Bg} : b ∈ zua L k ↔ b ∈ L ∧ b.u = k := by
 unfold zua
 rw [List.mem_filter, beq_iff_eq]
theorem zf7 {m : Nat} {L : List Bg} (ok : ∀ b ∈ L, b.u < m) {b : Bg} : b ∈ zhn m L ↔ b ∈ L := by
 unfold zhn
 rw [List.mem_flatMap]
 constructor
 ·rintro ⟨k, _, h⟩
  exact (mem_atUp.mp h).1
 ·intro h
  exact ⟨b.u, List.mem_reverse.mpr (List.mem_range.mpr (ok b h)), mem_atUp.mpr ⟨h, rfl⟩⟩
theorem znm (m : Nat) (L : List Bg) : zhn (m + 1) L = zua L m ++ zhn m L := by
 unfold zhn
 rw [List.range_succ, List.reverse_append]
 rfl
theorem zol (L : List Bg) : ∀ (m : Nat), (zhn m L).Perm (L.filter fun b => decide (b.u < m))
 | 0 => by
  have e : (L.filter fun b => decide (b.u < 0)) = [] := List.filter_eq_nil_iff.mpr fun b hb => by simp
  rw [e]
  exact List.Perm.refl _
 | m + 1 => by
  rw [znm]
  refine (List.Perm.append_left _ (zol L m)).trans ?_
  induction L with
  | nil => exact List.Perm.refl _
  | cons b L ih =>
   unfold zua at ih ⊢
   by_cases h1 : b.u = m
   ·rw [List.filter_cons_of_pos (by simpa using h1), List.filter_cons_of_neg (by simp; omega), List.filter_cons_of_pos (by simp; omega)]
    exact List.Perm.cons _ ih
   ·rw [List.filter_cons_of_neg (by simpa using h1)]
    by_cases h2 : b.u < m
    ·rw [List.filter_cons_of_pos (by simpa using h2), List.filter_cons_of_pos (by simp; omega)]
     exact List.perm_middle.trans (List.Perm.cons _ ih)
    ·rw [List.filter_cons_of_neg (by simpa using h2), List.filter_cons_of_neg (by simp; omega)]
     exact ih
theorem zmk {m : Nat} {L : List Bg} (ok : ∀ b ∈ L, b.u < m) : (zhn m L).Perm L := by
 have e : (L.filter fun b => decide (b.u < m)) = L := List.filter_eq_self.mpr fun b hb => by simpa using ok b hb
 have := zol L m
 rwa [e] at this
theorem znv {L : List Bg} : ∀ {m : Nat}, (zhn m L).Pairwise fun b b' => b'.u ≤ b.u
 | 0 => List.Pairwise.nil
 | m + 1 => by
  rw [znm, List.pairwise_append]
  refine ⟨?_, znv, fun b hb b' hb' => ?_⟩
  ·exact List.Pairwise.imp_of_mem (R := fun _ _ => True) (fun {a b} ha hb _ => by rw [(mem_atUp.mp ha).2, (mem_atUp.mp hb).2]; exact Nat.le_refl _) (List.pairwise_of_forall fun _ _ => trivial)
  ·rw [(mem_atUp.mp hb).2]
   unfold zhn at hb'
   obtain ⟨k, hk, hk'⟩ := List.mem_flatMap.mp hb'
   rw [(mem_atUp.mp hk').2]
   exact Nat.le_of_lt (List.mem_range.mp (List.mem_reverse.mp hk))
structure TreeB (m : Nat) (L : List Bg) : Prop where
 ok : ∀ b ∈ L, Tie.BoughOk m b.u b.lo b.hi b.ks
 kids : (zbi L).Perm (List.range' 1 (m - 1))
 m1 : 1 ≤ m
theorem ztg {m : Nat} : ∀ {L : List Bg}, (∀ b ∈ L, Tie.BoughOk m b.u b.lo b.hi b.ks) → (L.Pairwise fun b b' => b'.u ≤ b.u) → (∀ b ∈ L, b.u = 0 ∨ b.u ∈ zbi L) → Fit 0 L
 | [], _, _, _ => trivial
 | b :: R, ok, pw, ups => by
  obtain ⟨p1, p2⟩ := List.pairwise_cons.mp pw
  have okb := ok b List.mem_cons_self
  have eV : zbi (b :: R) = b.ks ++ zbi R := List.flatMap_cons
  have upR : ∀ b' ∈ b :: R, b'.u = 0 ∨ b'.u ∈ zbi R := fun b' hb' => by
   rcases ups b' hb' with z | z
   ·exact .inl z
   ·rw [eV] at z
    rcases List.mem_append.mp z with z | z
    ·have h1 := (okb.up _ z).1
     rcases List.mem_cons.mp hb' with e | e
     ·subst e; omega
     ·have := p1 b' e; omega
    ·exact .inr z
  refine ⟨?_, fun k hk => ⟨?_, fun b' hb' => ?_⟩, ztg (fun b' hb' => ok b' (List.mem_cons_of_mem _ hb')) p2 fun b' hb' => upR b' (List.mem_cons_of_mem _ hb')⟩
  ·rcases upR b List.mem_cons_self with z | z
   ·rw [z]; exact List.mem_cons_self
   ·exact List.mem_cons_of_mem _ z
  ·have := (okb.up k hk).1; omega
  ·have h1 := (okb.up k hk).1
   have h2 := p1 b' hb'
   omega
theorem zq6 {A B : List Bg} (p : A.Perm B) : (zbi A).Perm (zbi B) := List.Perm.flatMap_right _ p
theorem TreeB.lt {m : Nat} {L : List Bg} (T : TreeB m L) : ∀ b ∈ L, b.u < m := fun b hb => (T.ok b hb).um
theorem TreeB.perm0 {m : Nat} {L : List Bg} (T : TreeB m L) : (0 :: zbi (zhn m L)).Perm (List.range m) := by
 have h1 := (zq6 (zmk T.lt)).trans T.kids
 have m1 := T.m1
 have e : List.range m = 0 :: List.range' 1 (m - 1) := by
  rw [List.range_eq_range']
  obtain ⟨n, rfl⟩ : ∃ n, m = n + 1 := ⟨m - 1, by omega⟩
  rfl
 rw [e]
 exact List.Perm.cons _ h1
theorem TreeB.nd {m : Nat} {L : List Bg} (T : TreeB m L) : (0 :: zbi (zhn m L)).Nodup := (T.perm0.nodup_iff).mpr List.nodup_range
theorem TreeB.fit {m : Nat} {L : List Bg} (T : TreeB m L) : Fit 0 (zhn m L) := by
 refine ztg (m := m) (fun b hb => T.ok b ((zf7 T.lt).mp hb)) znv fun b hb => ?_
 have h1 := T.lt b ((zf7 T.lt).mp hb)
 have h2 : b.u ∈ 0 :: zbi (zhn m L) := T.perm0.mem_iff.mpr (List.mem_range.mpr h1)
 rcases List.mem_cons.mp h2 with z | z
 ·exact .inl z
 ·exact .inr z
def zx5 : Nat → Nat := fun _ => 1
def zsk (m : Nat) (L : List Bg) : Nat → Nat := (zhn m L).foldl zgi zx5
theorem zrq (f : Nat → Nat) (n : Nat) : ((List.range (n + n)).map f).sum = ((List.range n).map fun s => f s + f (n + s)).sum := by
 rw [List.range_add, List.map_append, List.sum_append, List.map_map]
 have h : ∀ (l : List Nat) (f g : Nat → Nat), (l.map f).sum + (l.map g).sum = (l.map fun s => f s + g s).sum := fun l f g => by
  induction l with
  | nil => rfl
  | cons x l ih => simp only [List.map_cons, List.sum_cons]; rw [← ih]; omega
 exact h _ _ _
theorem zlt (f : Nat → Nat) : ∀ (m : Nat) (g : Nat → Nat), (∀ s, s < 2 ^ m → f s = g s) → sub (List.range m) 0 f = ((List.range (2 ^ m)).map g).sum
 | 0, g, h => by
  show f 0 = g 0 + 0
  rw [h 0 (by decide)]; rfl
 | m + 1, g, h => by
  rw [List.range_succ, zjj, Nat.pow_succ, Nat.mul_two, zrq]
  refine zlt _ m _ fun s hs => ?_
  show f s + f (s ||| 2 ^ m) = g s + g (2 ^ m + s)
  have e : s ||| 2 ^ m = 2 ^ m + s := by
   rw [Nat.or_comm]
   have := Nat.two_pow_add_eq_or_of_lt hs 1
   simpa using this.symm
  have p : 2 ^ (m + 1) = 2 ^ m + 2 ^ m := by rw [Nat.pow_succ, Nat.mul_two]
  rw [e, h s (by omega), h (2 ^ m + s) (by omega)]
theorem zkl (p : Nat → Bool) : ∀ (l : List Nat), (l.filter p).length = (l.map fun s => bit (p s)).sum
 | [] => rfl
 | x :: l => by
  rw [List.map_cons, List.sum_cons, ← zkl p l]
  cases h : p x
  ·rw [List.filter_cons_of_neg (by rw [h]; exact Bool.false_ne_true)]; show _ = 0 + _; omega
  ·rw [List.filter_cons_of_pos h, List.length_cons]; show _ = 1 + _; omega
theorem zpn {m : Nat} {L : List Bg} (T : TreeB m L) : (zhp m (L.map Bg.tie)).length = zsk m L 0 := by
 unfold zsk
 rw [← zn6 T.nd T.fit]
 unfold zs3
 rw [zot T.perm0, zlt _ m (fun s => bit (zbg (L.map Bg.tie) s)) fun s hs => ?_]
 ·unfold zhp
  rw [zkl]
 ·rw [zp5 (w := zx5) (fun _ => rfl), Nat.mul_one]
  congr 1
  unfold zbg zmr
  congr 1
  rw [Bool.eq_iff_iff, List.all_eq_true, List.all_eq_true]
  constructor
  ·intro h t ht
   obtain ⟨b, hb, rfl⟩ := List.mem_map.mp ht
   exact h b ((zf7 T.lt).mpr hb)
  ·intro h b hb
   exact h b.tie (List.mem_map.mpr ⟨b, (zf7 T.lt).mp hb, rfl⟩)
structure WoodB (H : Hp) (wd : Addr) (m : Nat) (L : List Bg) : Prop where
 ex : ∃ xs, WoodAt H wd m xs [] ∧ DnL H (L.map fun b => b.tie.toD) xs
 T : TreeB m L
 few : L.length ≤ 9
 m9 : m ≤ 9
theorem zt6 {m : Nat} : ∀ {bs : List PyData}, (∀ b ∈ bs, zfc m b = true) → ∃ L : List Bg, bs = L.map (fun b => b.tie.toD) ∧ ∀ b ∈ L, Tie.BoughOk m b.u b.lo b.hi b.ks
 | [], _ => ⟨[], rfl, fun _ h => nomatch h⟩
 | b :: bs, h => by
  obtain ⟨u, lo, hi, ks, e, ok⟩ := zhs (h b List.mem_cons_self)
  obtain ⟨L, e2, ok2⟩ := zt6 fun x hx => h x (List.mem_cons_of_mem _ hx)
  refine ⟨⟨u, lo, hi, ks⟩ :: L, ?_, fun x hx => ?_⟩
  ·rw [e, e2]; rfl
  ·rcases List.mem_cons.mp hx with rfl | hx
   ·exact ok
   ·exact ok2 x hx
theorem zvn (b : Bg) : zkx b.tie.toD = b.ks.map fun k : Nat => (k : Int) := by
 show List.map toI (b.ks.map fun k : Nat => PyData.int (k : Int)) = _
 rw [List.map_map]
 rfl
theorem zrr : ∀ {A B : List Nat}, (A.map fun k : Nat => (k : Int)).Perm (B.map fun k : Nat => (k : Int)) → A.Perm B := fun {A B} h => by
 have := h.map Int.toNat
 rw [List.map_map, List.map_map] at this
 have e : ∀ l : List Nat, l.map (Int.toNat ∘ fun k : Nat => (k : Int)) = l := fun l => by
  induction l with
  | nil => rfl
  | cons x l ih => rw [List.map_cons, ih]; rfl
 rwa [e, e] at this
theorem zub {H : Hp} {wd : Addr} {m : Nat} {bs cs : List PyData} (h : WoodX H wd m bs cs) (hc : cs = []) : ∃ L : List Bg, bs = L.map (fun b => b.tie.toD) ∧ ∀ H', zc7 H H' → WoodB H' wd m L := by
 subst hc
 obtain ⟨L, e, ok⟩ := zt6 h.gb.each
 have m1 := h.m1
 have b8 := h.b8
 refine ⟨L, e, fun H' t => ?_⟩
 obtain ⟨xs, ys, WA, db, dc⟩ := (h.tupS t).ex
 cases (show ys = [] from dc)
 refine ⟨⟨xs, WA, by rw [← e]; exact db⟩, ⟨ok, zrr ?_, m1⟩, by rw [e, List.length_map] at b8; exact b8, h.m9⟩
 have k := h.gb.kids
 have e1 : bs.flatMap zkx = (zbi L).map fun k : Nat => (k : Int) := by
  rw [e]
  unfold zbi
  rw [List.map_flatMap, List.flatMap_map]
  congr 1
  funext b
  exact zvn b
 have e2 : ((List.range' 0 ((m : Int) - 1).toNat).map fun i : Nat => (1 : Int) + i) = (List.range' 1 (m - 1)).map fun k : Nat => (k : Int) := by
  rw [show ((m : Int) - 1).toNat = m - 1 by omega]
  apply List.ext_getElem
  ·rw [List.length_map, List.length_map, List.length_range', List.length_range']
  ·intro i h1 h2
   rw [List.getElem_map, List.getElem_map, List.getElem_range', List.getElem_range']
   omega
 rw [e1, e2] at k
 exact k
theorem zvs {m k : Nat} {f : Nat → Nat} (h : k < m) : atI (zal ((List.range m).map f)) (k : Int) = some (.int (f k : Int)) := zdx (by rw [List.getElem?_map, List.getElem?_map, List.getElem?_range h]; rfl)
theorem zif (A B : List Nat) : zal (A ++ B) = zal A ++ zal B := List.map_append
theorem zsi {m k : Nat} {f g : Nat → Nat} (e : ∀ j, g j = if j = k then g k else f j) (h : k < m) : (zal ((List.range m).map f)).set k (.int (g k : Int)) = zal ((List.range m).map g) := by
 apply List.ext_getElem
 ·simp
 ·intro i h1 h2
  rw [List.getElem_set]
  simp only [List.getElem_map, List.getElem_range]
  by_cases z : k = i
  ·subst z
   rw [if_pos rfl]
  ·rw [if_neg z, e i, if_neg (Ne.symm z)]
theorem WoodB.woodT {H : Hp} {wd : Addr} {m : Nat} {L : List Bg} (h : WoodB H wd m L) : WoodT H wd m (L.map Bg.tie) := by
 obtain ⟨xs, h1, h2⟩ := h.ex
 have f := h.few
 have m9 := h.m9
 refine ⟨⟨xs, [], h1, by rw [List.append_nil, List.map_map]; exact h2⟩, fun t ht => ?_, by rw [List.length_map]; omega, by omega⟩
 obtain ⟨b, hb, rfl⟩ := List.mem_map.mp ht
 exact (h.T.ok b hb).toBoughOkW
end Wd
namespace L2
open PySem PySem.Spec PyProof.Rows
section
variable {prog : Program} {w : World} {A : Around} {E : Value → Shared → Prop} {s : Shared}
theorem zly {it l : Addr} {items : Array Value} (hne : l ≠ it) : ∀ (n i : Nat) (s : Shared) (Q : List Value → Shared → Prop), s.heap.IsListIter it l i → s.heap.IsList l items → i + n ≤ items.size →
  (∀ h' : Heap, h'.IsListIter it l (i + n) → Heap.SameBut it s.heap h' → Q ((items.toList.drop i).take n) { s with heap := h' }) → wpAny (model prog w) A (draw (.ref it) n) Q E s
 | 0, i, s, Q, hit, _, _, hQ => by
  show wpAny _ _ (pure []) Q E s
  exact wpAny_pure (by simpa using hQ s.heap hit (Heap.SameBut.refl ..))
 | n + 1, i, s, Q, hit, ht, hle, hQ => by
  have hlt : i < items.size := by omega
  show wpAny _ _ (pyNext (.ref it) >>= _) Q E s
  refine wpAny_bind (wpAny_pyNext_list_item hit ht (x := items[i]) (by simp [hlt]) fun h1 ac ad => ?_)
  refine wpAny_bind (wpAny_holding (zly hne n (i + 1) _ _ ac (ht.extBut ad.extBut hne) (by omega) fun h2 aa ae => wpAny_pure ?_))
  have hd : items.toList.drop i = items[i] :: items.toList.drop (i + 1) := by simp [List.drop_eq_getElem_cons, hlt]
  have := hQ h2 (by rw [show i + (n + 1) = i + 1 + n by omega]; exact aa) (ad.trans ae)
  rw [hd, List.take_succ_cons] at this
  exact this
theorem znx {l : Addr} {items : Array Value} {targets : List (Bool × (Value → Sem Unit))} {Q : Unit → Shared → Prop} (hh : A.handled = none) (ht : s.heap.IsList l items)
  (hn : targets.length = items.size) (hstar : targets.findIdx? (·.1) = none)
  (h : ∀ h', Heap.ExtBut s.heap.objs.size s.heap h' → wpAny (model prog w) A (assignInOrder (targets.map (·.2)) items.toList) Q E { s with heap := h' }) :
  wpAny (model prog w) A (unpack (.ref l) targets) Q E s := by
 unfold unpack
 rw [hn, hstar]
 refine wpAny_bind (wpAny_holding ?_)
 have ae : l ≠ s.heap.objs.size := by obtain ⟨o, ho, _⟩ := ht; exact Nat.ne_of_lt (Heap.lt_size ho)
 have hT : s.TypeIs (.ref l) "list" := by obtain ⟨o, ho, hc, _⟩ := ht; exact ⟨o, ho, hc⟩
 unfold unpackItems
 refine wpAny_bind ?_
 unfold notIterableAtAll
 refine wpAny_bind (wpAny_specialOf hT F.slot_list_iter.lookup ?_)
 refine wpAny_pure ?_
 simp only [Bool.false_eq_true, if_false]
 refine wpAny_bind (wpAny_holding (wpAny_pyIter_list ht ?_))
 refine wpAny_bind (wpAny_holding (zly ae items.size 0 _ _ ⟨_, Heap.get?_push_size _ rfl, rfl, rfl⟩ (ht.push _) (by omega) fun h1 ac ad => ?_))
 have aa : List.take items.size (List.drop 0 items.toList) = items.toList := by
  rw [List.drop_zero]; exact List.take_of_length_le (by simp)
 rw [aa]
 rw [if_neg (by simp)]
 have ag : h1.IsList l items := (ht.push _).extBut ad.extBut ae
 refine wpAny_bind (wpAny_holding (wpAny_pyNext_list_end hh ac ag (by simp) fun h2 af => ?_))
 simp only [Option.isSome_none, Bool.false_eq_true, if_false]
 exact wpAny_pure (h h2 fun b o hb e => af b o hb (ad.extBut b o hb (Heap.get?_push_of_some _ e)))
end
section
variable {X : Cx} {pos : Pos}
def zyq (K : PySem.W.Frag) (n : Nat) (t : TGs) : TG := fun v σ H Q => ∃ a xs, v = .ref a ∧ SqL K H a xs ∧ xs.length = n ∧ t xs σ H Q
theorem zwb {K : PySem.W.Frag} {es : List Expr} {k : Nat} {t : TGs} {n : Nat} (hc : X.calm = true) (h : PGs X es t)
  (hn : (assignEach es X.env).length = n := by rfl) (hst : (assignEach es X.env).findIdx? (·.1) = none := by rfl) (hK : X.K = K := by rfl) : PG X (.Tuple es k pos) (zyq K n t) := by
 subst hK
 intro pins s σ H v u Q I r hw
 obtain ⟨a, xs, e1, hq, hl, hw⟩ := hw
 subst e1
 cases r
 obtain ⟨aa, rv, ht, hz⟩ := I.list hq
 rw [assign_Tuple]
 refine wpAny_bind (wpAny_standAt (znx (I.ok.hd hc) ht.isList (by simp [hn, ← hl, rv.length]) hst fun h' hx => ?_))
 have I1 : Inv X pins σ H { s with heap := h' } := I.kept (t' := s.toks) fun b o e => hx b o (Nat.ne_of_lt (Heap.lt_size e)) e
 exact h pins _ σ H xs _ Q I1 (by simpa using rv) hw
end
section
variable {X : Cx}
def zvi : V → List V → Hp → VK → Prop := fun x vs H Q => ∃ (l : Addr) (xs : List V) (i : Int) (y : V), x = .ref l ∧ vs = [.int i, y] ∧ H l = some (.lst xs) ∧ 0 ≤ i ∧ i ≤ xs.length ∧ xs.length < sizeLine ∧ Q .non (upd H l (.lst (xs.take i.toNat ++ y :: xs.drop i.toNat)))
theorem zrf : MtM X "list.insert" zvi := by
 intro pins s σ H x vs v us Q I rx rv h
 obtain ⟨l, xs, i, y, rfl, rfl, hH, h0, hk, hz, q⟩ := h
 cases rx
 obtain ⟨u1, ac, rfl, r1, rr⟩ : ∃ u1 ac, us = u1 :: ac ∧ RelV (.int i) u1 ∧ Vals [y] ac := by
  cases rv with
  | cons a b => exact ⟨_, _, rfl, a, b⟩
 obtain ⟨u2, rfl, ru⟩ := rr.one
 obtain ⟨t, rfl⟩ := r1
 obtain ⟨z, aa, n, r, hl, e⟩ := I.lstM hH
 have hsz : aa.toArray.size ≤ sizeLine := by rw [List.size_toArray, ← hl]; exact z
 have b1 : -(2 ^ 63) ≤ i := Int.le_trans (by decide) h0
 have b2 : i < 2 ^ 63 := by
  have ad : ((xs.length : Nat) : Int) < ((2 ^ 63 : Nat) : Int) := Int.ofNat_lt.mpr (Nat.lt_of_le_of_lt z zkg)
  exact Int.lt_of_le_of_lt hk ad
 have fit : ¬ (!Builtin.List.listFitsIndex i) = true := by
  rw [fitsIndex_both b1 b2]
  exact Bool.false_ne_true
 refine call_meets F.slot_list_insert ⟨_, e, rfl⟩ F.entry_list_insert (F.args_list_insert_3 _ _ _) (AutoListH.list_insert_list_int_val_1 l aa.toArray n i t u2 fit hsz) ⟨e, ?_⟩
 have r2 : Vals (xs.take i.toNat ++ y :: xs.drop i.toNat) (aa.take i.toNat ++ u2 :: aa.drop i.toNat) := (r.take i.toNat).append (.cons ru (r.drop i.toNat))
 refine ⟨.non, _, I.lset (its' := aa.take i.toNat ++ u2 :: aa.drop i.toNat) hH e ?_ r2 ?_, rfl, q⟩
 ·have hn : ¬ (i < 0) := Int.not_lt.mpr h0
  have hm : i.toNat ≤ aa.length := by omega
  simp [hn, Nat.min_eq_left hm]
  exact List.take_of_length_le (by rw [List.length_drop]; exact Nat.le_refl _)
 ·rw [List.length_append, List.length_cons, List.length_take, List.length_drop]
  omega
end
end L2
namespace Wd
open PySem L2 Ow
def zu7 (l : List Stmt) : List (Nat × Bool) → List Stmt
 | [] => l
 | (i, e) :: p => match l[i]? with
  | some (Stmt.For _ _ b _ _) => zu7 b p
  | some (Stmt.If _ b o _) => zu7 (if e then o else b) p
  | _ => []
def zqy (K : PySem.W.Frag) : Sp := fun vs H Q _ => ∃ (pen sp : Addr) (ns : List Int) (m : Nat) (k : Int), vs = [.ref pen, .int (m : Int)] ∧ Pen K H pen sp ns k ∧ 0 ≤ k ∧ k ≤ 900000 ∧ 1 ≤ m ∧ m ≤ 9 ∧
 ∀ (l : Addr) (bs : List PyData) (xs : List V) (k' : Int) (H' : Hp), SameX pen H H' → H' pen = some (.lst [.ref sp, .int k']) → k ≤ k' → k' ≤ k + 80 → H' l = some (.lst xs) → H l = none → DnL H' bs xs → zvw m bs → bs.length ≤ 8 → bs.all (zbn 3) = true → Q (.ref l) H'
def zpw (K : PySem.W.Frag) : Sp := fun vs H Q _ => ∃ (pen sp : Addr) (ns : List Int) (m : Nat) (most : Int) (k : Int), vs = [.ref pen, .int (m : Int), .int most] ∧ Pen K H pen sp ns k ∧ 0 ≤ k ∧ k ≤ 900000 ∧ 1 ≤ m ∧ m ≤ 9 ∧ 0 ≤ most ∧ most ≤ 8 ∧
 ∀ (l : Addr) (cs : List PyData) (xs : List V) (k' : Int) (H' : Hp), SameX pen H H' → H' pen = some (.lst [.ref sp, .int k']) → k ≤ k' → k' ≤ k + 210 → H' l = some (.lst xs) → H l = none → DnL H' cs xs → (∀ c ∈ cs, ziv m c = true) → (cs.length : Int) ≤ most → cs.all (zbn 3) = true → Q (.ref l) H'
theorem _root_.Ow.GAt.ins {H0 H : Hp} {g l t : Addr} {pre post : List Grp} {u k : Int} (G : GAt H0 H g (pre ++ post)) (hf : H0 l = none) (hl : H l = none) (ht : upd H l (.lst [.int k]) t = none) :
  GAt H0 (upd (upd (upd H l (.lst [.int k])) t (.tup [.int u, .ref l])) g (.lst ((pre.map fun x => V.ref x.t) ++ V.ref t :: (post.map fun x => V.ref x.t)))) g (pre ++ ⟨t, u, l, [k]⟩ :: post) := by
 have A := GAt.add2 (u := u) (k := k) G hf hl ht
 have aa : ∀ x, x ∈ pre ++ ⟨t, u, l, [k]⟩ :: post ↔ x ∈ (pre ++ post) ++ [⟨t, u, l, [k]⟩] := fun x => by
  simp only [List.mem_append, List.mem_cons, List.not_mem_nil, or_false]
  constructor
  ·rintro (h | h | h)
   ·exact .inl (.inl h)
   ·exact .inr h
   ·exact .inl (.inr h)
  ·rintro ((h | h) | h)
   ·exact .inl h
   ·exact .inr (.inr h)
   ·exact .inr (.inl h)
 have other : ∀ (o o' : HO) (b : Addr), b ≠ g → (upd (upd (upd H l (.lst [.int k])) t (.tup [.int u, .ref l])) g o) b = (upd (upd (upd H l (.lst [.int k])) t (.tup [.int u, .ref l])) g o') b := fun o o' b n => by rw [zak n, zak n]
 refine ⟨?_, A.new, fun x hx => ?_, fun x hx => ?_, ?_⟩
 ·rw [zac, List.map_append]
  rfl
 ·have h := A.tup x ((aa x).mp hx)
  have n : x.t ≠ g := fun z => by rw [z, zac] at h; cases h
  rw [other _ _ _ n]
  exact h
 ·have h := A.lst x ((aa x).mp hx)
  refine ⟨?_, h.2⟩
  rw [other _ _ _ (Ne.symm h.2.2)]
  exact h.1
 ·have p : (pre ++ (⟨t, u, l, [k]⟩ : Grp) :: post).Perm ((pre ++ post) ++ [⟨t, u, l, [k]⟩]) := by
   rw [List.append_assoc]
   exact List.Perm.append_left _ (List.perm_append_singleton _ _).symm
  exact ((p.map (·.l)).nodup_iff).mpr A.nd
theorem _root_.Ow.GOk.ins {k : Nat} {pre post : List Grp} {t l : Addr} {u : Int} (G : GOk ((k : Int) + 1) (pre ++ post)) (u0 : 0 ≤ u) (u1 : u < (k : Int) + 1) : GOk ((k : Int) + 2) (pre ++ ⟨t, u, l, [(k : Int) + 1]⟩ :: post) := by
 have A := GOk.new (t := t) (l := l) G u0 u1
 have p : (pre ++ (⟨t, u, l, [(k : Int) + 1]⟩ : Grp) :: post).Perm ((pre ++ post) ++ [⟨t, u, l, [(k : Int) + 1]⟩]) := by
  rw [List.append_assoc]
  exact List.Perm.append_left _ (List.perm_append_singleton _ _).symm
 exact ⟨fun x hx => A.each x (p.mem_iff.mp hx), (List.Perm.flatMap_right _ p).trans A.perm⟩
def zo7 (x : Grp) : PyData := .tuple [.int x.up, .list (x.kids.map PyData.int)]
theorem znr : ∀ ks : List Int, PyData.canLayAll0 (ks.map PyData.int) = true ∧ PyData.depthAll (ks.map PyData.int) ≤ 1
 | [] => ⟨by simp [PyData.canLayAll0], by simp [PyData.depthAll]⟩
 | k :: ks => by
  have h := znr ks
  refine ⟨by simp [PyData.canLayAll0, PyData.canLay0, h.1], ?_⟩
  simp only [List.map_cons, PyData.depthAll, PyData.depth]
  omega
theorem znl : ∀ gs : List Grp, PyData.canLayAll0 (gs.map zo7) = true ∧ PyData.depthAll (gs.map zo7) ≤ 5
 | [] => ⟨by simp [PyData.canLayAll0], by simp [PyData.depthAll]⟩
 | x :: gs => by
  have h := znl gs
  have hx := znr x.kids
  refine ⟨by simp [zo7, PyData.canLayAll0, PyData.canLay0, h.1, hx.1], ?_⟩
  simp only [List.map_cons, zo7, PyData.depthAll, PyData.depth]
  omega
theorem zoq (gs : List Grp) : SeqAt.shaped (.list (gs.map zo7)) = true := by
 have h := znl gs
 unfold SeqAt.shaped
 rw [Bool.and_eq_true]
 refine ⟨by simp [PyData.canLay0, h.1], decide_eq_true ?_⟩
 simp only [PyData.depth]
 omega
theorem zoy : SeqAt.shaped (.list []) = true := by decide
theorem zu4 : ∀ ds : List PyData, PyData.eqv (.list ds) (.list []) = decide (ds = [])
 | [] => by simp [PyData.eqv, PyData.eqvAll]
 | d :: ds => by simp [PyData.eqv, PyData.eqvAll]
theorem zqb {H : Hp} : ∀ ks : List Int, DnL H (ks.map PyData.int) (ks.map V.int)
 | [] => rfl
 | k :: ks => ⟨_, _, rfl, rfl, zqb ks⟩
theorem zqm {H0 H : Hp} {g : Addr} {gs : List Grp} (G : GAt H0 H g gs) : ∀ l : List Grp, (∀ x ∈ l, x ∈ gs) → DnL H (l.map zo7) (l.map fun x => V.ref x.t)
 | [], _ => rfl
 | x :: l, h => by
  have hx := h x List.mem_cons_self
  exact ⟨_, _, rfl, ⟨x.t, _, rfl, G.tup x hx, _, _, rfl, rfl, _, _, rfl, ⟨x.l, _, rfl, (G.lst x hx).1, zqb x.kids⟩, rfl⟩, zqm G l fun y hy => h y (List.mem_cons_of_mem _ hy)⟩
end Wd
namespace L2
open PySem PySem.Spec PyProof.Rows
section
variable {X : Cx} {e st : Expr} {te tst : TE} {pos p2 : Pos}
theorem zjy (hu : X.A.units + 64 < cLine) : OpR X (compareOp .Eq) (fun x y H Q => ∃ d e : PyData, Dn H d x ∧ Dn H e y ∧ SeqAt.shaped d = true ∧ SeqAt.shaped e = true ∧ Q (.bl (PyData.eqv d e)) H) := by
 intro pins s σ H x y v u Q I rx ry h
 obtain ⟨d, e, hd, he, sd, se, q⟩ := h
 obtain ⟨as, ra⟩ := Dn.reads I d x v hd (SeqAt.canLay_of_shaped sd) rx
 obtain ⟨bs, rb⟩ := Dn.reads I e y u he (SeqAt.canLay_of_shaped se) ry
 exact SeqAt.compareEq_shaped ra rb sd se hu ⟨.bl _, H, I, rfl, q⟩
end
end L2
namespace Wd
open PySem L2 Ow
mutual
theorem zsq : ∀ (n : Nat) (d : PyData), zbn n d = true → PyData.canLay0 d = true ∧ PyData.depth d ≤ n + 1
 | _, .int i, _ => ⟨by simp [PyData.canLay0], by simp only [PyData.depth]; omega⟩
 | n, .str s, h => ⟨by cases n <;> simpa [PyData.canLay0] using (show PyData.strOk s = true from h), by simp only [PyData.depth]; omega⟩
 | n + 1, .tuple ds, h => by
  have z : (decide (ds.length ≤ 1000) && ds.all (zbn n)) = true := h
  rw [Bool.and_eq_true] at z
  obtain ⟨a, b⟩ := ziu n ds z.2
  exact ⟨by simpa [PyData.canLay0] using a, by simp only [PyData.depth]; omega⟩
 | 0, .tuple _, h => by cases h
 | 0, .none, h => by cases h
 | n + 1, .none, h => by cases h
 | 0, .bool _, h => by cases h
 | n + 1, .bool _, h => by cases h
 | 0, .list _, h => by cases h
 | n + 1, .list _, h => by cases h
 | 0, .dict _, h => by cases h
 | n + 1, .dict _, h => by cases h
theorem ziu : ∀ (n : Nat) (ds : List PyData), ds.all (zbn n) = true → PyData.canLayAll0 ds = true ∧ PyData.depthAll ds ≤ n + 1
 | _, [], _ => ⟨by simp [PyData.canLayAll0], by simp only [PyData.depthAll]; omega⟩
 | n, d :: ds, h => by
  rw [List.all_cons, Bool.and_eq_true] at h
  obtain ⟨a1, b1⟩ := zsq n d h.1
  obtain ⟨a2, b2⟩ := ziu n ds h.2
  exact ⟨by simp [PyData.canLayAll0, a1, a2], by simp only [PyData.depthAll]; omega⟩
end
theorem zut (a b : Bool) : decide ((if a = true then (1 : Int) else 0) ≤ (if b = true then (1 : Int) else 0)) = (!a || b) := by
 cases a <;> cases b <;> rfl
theorem two_bits (n x y : Nat) : decide (V.int (Builtin.bitAnd (Builtin.bitAnd ((n : Int) / 2 ^ ((x : Nat) : Int).toNat) ((n : Int) / 2 ^ ((y : Nat) : Int).toNat)) 1) = V.int 0) = (!n.testBit x || !n.testBit y) := by
 have e : ∀ k : Nat, (n : Int) / 2 ^ ((k : Nat) : Int).toNat = ((n >>> k : Nat) : Int) := fun k => by
  rw [Int.toNat_natCast, Nat.shiftRight_eq_div_pow, Int.natCast_ediv, Int.natCast_pow]
  rfl
 rw [e, e, ze2, show (1 : Int) = ((1 : Nat) : Int) from rfl, ze2, Nat.and_one_is_mod]
 have b : ((n >>> x &&& n >>> y) % 2 = 1) ↔ (n.testBit x = true ∧ n.testBit y = true) := by
  have h := Nat.testBit_zero (n >>> x &&& n >>> y)
  rw [Nat.testBit_and, Nat.testBit_shiftRight, Nat.testBit_shiftRight, Nat.add_zero, Nat.add_zero] at h
  constructor
  ·intro z
   rw [decide_eq_true z, Bool.and_eq_true] at h
   exact h
  ·intro z
   rw [z.1, z.2] at h
   exact of_decide_eq_true h.symm
 rcases Nat.mod_two_eq_zero_or_one (n >>> x &&& n >>> y) with z | z
 ·rw [z, decide_eq_true (by rfl)]
  symm
  rw [← Bool.not_and, Bool.not_eq_true']
  rw [Bool.eq_false_iff]
  intro w
  rw [Bool.and_eq_true] at w
  have := b.mpr w
  omega
 ·rw [z, (b.mp z).1, (b.mp z).2]
  rfl
def brk (ts : List Tie) (s : Nat) : Nat → Nat
 | 0 => 0
 | i + 1 => brk ts s i ||| (if (ts[i]?.map fun t => t.keep s).getD true = true then 0 else 2 ^ i)
theorem znh (ts : List Tie) (s : Nat) : ∀ (i k : Nat), (brk ts s i).testBit k = (decide (k < i) && !((ts[k]?.map fun t => t.keep s).getD true))
 | 0, k => by
  show (0 : Nat).testBit k = _
  rw [Nat.zero_testBit]
  rfl
 | i + 1, k => by
  show (brk ts s i ||| _).testBit k = _
  rw [Nat.testBit_or, znh ts s i k]
  by_cases e : k = i
  ·subst e
   rw [decide_eq_false (Nat.lt_irrefl _), Bool.false_and, Bool.false_or, decide_eq_true (Nat.lt_succ_self _), Bool.true_and]
   cases (ts[k]?.map fun t => t.keep s).getD true
   ·rw [if_neg (by decide), Nat.testBit_two_pow_self]; rfl
   ·rw [if_pos rfl, Nat.zero_testBit]; rfl
  ·have e2 : (if (ts[i]?.map fun t => t.keep s).getD true = true then 0 else 2 ^ i : Nat).testBit k = false := by
    split
    ·exact Nat.zero_testBit _
    ·rw [Nat.testBit_two_pow]; exact decide_eq_false (Ne.symm e)
   rw [e2, Bool.or_false]
   congr 1
   by_cases z : k < i
   ·rw [decide_eq_true z, decide_eq_true (by omega)]
   ·rw [decide_eq_false z, decide_eq_false (by omega)]
theorem znz (ts : List Tie) (s : Nat) : brk ts s ts.length = 0 ↔ ∀ t ∈ ts, t.keep s = true := by
 constructor
 ·intro h t ht
  obtain ⟨k, hk, e⟩ := List.getElem_of_mem ht
  have b := znh ts s ts.length k
  rw [h, Nat.zero_testBit, decide_eq_true hk, Bool.true_and, List.getElem?_eq_getElem hk, e] at b
  simpa using b.symm
 ·intro h
  refine Nat.eq_of_testBit_eq fun k => ?_
  rw [Nat.zero_testBit, znh]
  by_cases hk : k < ts.length
  ·rw [List.getElem?_eq_getElem hk]
   show (_ && !(ts[k].keep s)) = false
   rw [h _ (List.getElem_mem hk)]
   exact Bool.and_false _
  ·rw [decide_eq_false hk]
   rfl
def zqw : Sp := fun vs H Q _ => ∃ (wd : Addr) (m : Nat) (ts : List Tie), vs = [.ref wd] ∧ WoodT H wd m ts ∧ m ≤ 9 ∧ ts.length ≤ 60 ∧ ∀ (l : Addr) (H' : Hp), Same H H' → H l = none → H' l = some (.lst (zal ((List.range (2 ^ m)).map fun s => brk ts s ts.length))) → Q (.ref l) H'
end Wd
namespace L2
open PySem PySem.Spec
theorem zta {X : Cx} {K : PySem.W.Frag} (h : X.K = K := by rfl) : OpR X (compareOp .NotIn) (rIn K true) := h ▸ zby
@[irreducible] def PEi (X : Cx) (e : Expr) (t : TE) : Prop := PE X e t
@[irreducible] def PSi (X : Cx) (e : Stmt) (t : TS) : Prop := PS X e t
@[irreducible] def PLi (X : Cx) (l : List Stmt) (t : TS) : Prop := PSs X l t
end L2
namespace Wd
open PySem L2 Ow
theorem zav {H H1 H2 : Hp} (a : zc7 H H1) (b : zc7 H1 H2) : zc7 H H2 := fun c xs h => b c xs (a c xs h)
end Wd
namespace L2
open PySem PySem.Spec PyProof.Rows
abbrev zg8 : List Value := [.type "ValueError", .type "Exception", .type "BaseException", .type "object"]
abbrev zgv : String := "ValueError.__new__"
structure XCls (h : Heap) (C : Addr) (bm : List Value) : Prop where
 ex : ∃ N nm qn bs hd sn sub ab col dd k0 k1 k2 k3 k5 mN, h.get? C = some (excClassObj nm qn C N bs bm hd sn sub ab col dd k0 k1 k2 k3 k5 zgv) ∧ h.Ns N mN ∧ mN "__init__" = none ∧ OwnTail h zg8 bm
theorem XCls.mk' {K : PySem.W.Frag} {h : Heap} {C : Addr} (X : K.In h) (q : PySem.W.excIn K C zg8 zgv = true) : ∃ bm, XCls h C bm := by
 unfold PySem.W.excIn at q
 split at q
 case h_2 => cases q
 case h_1 od cd sl hl =>
  split at q
  case h_2 => cases q
  case h_1 C2 bm a0 a1 a2 a3 nw a5 hm hs =>
   rw [Bool.and_eq_true, Bool.and_eq_true, Bool.and_eq_true, Bool.and_eq_true, Bool.and_eq_true, beq_iff_eq, beq_iff_eq, beq_iff_eq, Bool.not_eq_true'] at q
   obtain ⟨⟨⟨⟨⟨q1, q2⟩, q3⟩, q4⟩, q5⟩, q6⟩ := q
   subst q1 q2
   obtain ⟨f1, f2, f3, f4, f5, f6, f7, f8, f9, fa, fb⟩ := cd
   replace hm : f3 = .ref C2 :: bm := hm
   replace q3 : fb = false := q3
   subst hm q3
   obtain ⟨ls⟩ := sl
   replace hs : ls = [a0, a1, a2, a3, some (.builtin zgv), a5] := hs
   subst hs
   exact ⟨bm, ⟨_, _, _, _, _, _, _, _, _, _, _, _, _, _, _, _, X _ _ hl, .of_isNs (PySem.W.isNs_of_in X q5), PySem.W.nsMap_none_of_in X q5 q6, PySem.W.tail_of_in X q4⟩⟩
theorem znn {M : Model} {A : Around} {E : Value → Shared → Prop} {s : Shared} {C D e : Addr} {bC bD : List Value} {oe : Obj} {Q : Bool → Shared → Prop} (xC : XCls s.heap C bC) (xD : XCls s.heap D bD)
  (he : s.heap.get? e = some oe) (hcls : oe.cls = .ref D) (hin : (Value.ref D :: bD).contains (.ref C) = true) (hq : Q true s) : wpAny M A (excMatches (.ref e) (.ref C)) Q E s := by
 obtain ⟨N, nm, qn, bs, hd, sn, sub, ab, col, dd, k0, k1, k2, k3, k5, mN, hC, _, _, tC⟩ := xC.ex
 obtain ⟨N', ap, aj, ah, ai, am, aa, ad, ac, ao, ag, aq, ae, al, ak, af, hD, _, _, tD⟩ := xD.ex
 obtain ⟨h, g, d, t, os⟩ := s
 have hB : (Value.ref C :: bC).contains (.type "BaseException") = true := by rw [List.contains_cons, tC.hasType (b := true) (by decide), Bool.or_true]
 have f := tc_notTuple
 unfold excMatches
 repeat (first | (with_reducible refine wpAny_loadPart_at he ?_; rw [hcls]) | with_reducible refine wpAny_loadPart_at hC ?_ | (with_reducible refine wpAny_isSubtype_exc hC ?_; rw [hB]) | (with_reducible refine wpAny_isSubtype_exc hD ?_; rw [hin]) | wp_step)
 exact hq
section
variable {X : Cx} {pins : List (Addr × Obj)} {σ : St} {H H' : Hp} {s s' : Shared} {h2 : Heap}
theorem zqf {h h' : Heap} {c : Addr} {v : Option Value} (u : h.UpToSlots h') (x : h.IsCell c v) : h'.IsCell c v := by
 obtain ⟨o, e, d⟩ := x
 obtain ⟨sl, e'⟩ := u c o e fun vs q => by rw [d] at q; cases q
 exact ⟨_, e', d⟩
theorem Inv.upto (I0 : Inv X pins σ H s) (I1 : Inv X pins σ H' s') (k : ∀ b o, s'.heap.get? b = some o → b ∉ frs X.stack → (H' b ≠ none ∨ ∃ u, s.heap.get? b = some u) → h2.get? b = some o) (u : s'.heap.UpToSlots h2) : Inv X pins σ H' { s' with heap := h2 } where
 ok := I1.ok
 os := I1.os
 bare := I1.bare
 base := by
  have aa : ∀ b o, X.s₀.heap.get? b = some o → b ∉ X.fs → b ∉ frs X.stack := fun b o e n z => by
   rcases List.mem_cons.mp (I1.stkSub b z) with r | r
   ·have h1 := Heap.lt_size e
    have h2 := I1.ok.above
    rw [r] at h1
    exact absurd (Nat.lt_of_lt_of_le h1 h2) (Nat.lt_irrefl _)
   ·exact n r
  refine ⟨fun b o e n hf hx => ?_, fun b o e n hf hx => ?_, I1.base.free, fun b o e hx => ?_, I1.base.tups, I1.base.frzs, I1.base.tbls⟩
  ·exact k b o (I1.base.keep b o e n hf hx) (aa b o e hf) (.inr ⟨_, I0.base.keep b o e n hf hx⟩)
  ·obtain ⟨sl, e1⟩ := I1.base.slot b o e n hf hx
   obtain ⟨_, o2, e2, d2⟩ := I1.funs.mem hf
   rw [e1] at e2
   cases e2
   obtain ⟨ac, e3⟩ := u b _ e1 d2
   exact ⟨ac, e3⟩
  ·obtain ⟨o1, e1⟩ := I1.base.there b o e hx
   by_cases hb : b ∈ frs X.stack
   ·obtain ⟨_, o2, e2, d2⟩ := I1.stack.mem hb
    obtain ⟨sl, e3⟩ := u b o2 e2 d2
    exact ⟨_, e3⟩
   ·obtain ⟨o0, e0⟩ := I0.base.there b o e hx
    exact ⟨o1, k b o1 e1 hb (.inr ⟨_, e0⟩)⟩
 loc := by
  obtain ⟨m, hn, hl⟩ := I1.loc
  refine ⟨m, u.ns hn, fun i x v h1 h2 h3 => ?_⟩
  obtain ⟨w, r, l⟩ := hl i x v h1 h2 h3
  refine ⟨w, r, ?_⟩
  rcases l with l | ⟨l, c, h4, h5⟩
  ·exact .inl l
  ·exact .inr ⟨l, c, h4, zqf u h5⟩
 cell := fun x c e => let ⟨v, h⟩ := I1.cell x c e; ⟨v, zqf u h⟩
 free := I1.free
 freeC := I1.freeC
 pin := fun p hp => by
  obtain ⟨h1, h2, h3, h4, h5⟩ := I1.pin p hp
  have aa : p.1 ∉ frs X.stack := fun z => by
   rcases List.mem_cons.mp (I1.stkSub _ z) with r | r
   ·exact h3 r
   ·exact h4 r
  exact ⟨k _ _ h1 aa (.inr ⟨_, (I0.pin p hp).1⟩), h2, h3, h4, h5⟩
 hok := fun a o e => by
  refine (I1.hok a o e).stay (fun b w hb q => ?_) (fun _ q => q) fun _ _ q => q
  have hn : H' b ≠ none := by
   rcases hb with rfl | hb
   ·rw [e]; exact Option.some_ne_none _
   ·rw [hb]; exact Option.some_ne_none _
  exact k b w q (fun z => hn (I1.stkFree b z)) (.inl hn)
 len := I1.len
end
def CXR (P : Program) (w : World) : CXT := fun outer H s E e s' => ∃ (ea D : Addr) (a0 : Value) (H' : Hp) (B : Heap), e = .ref ea ∧ s'.os = s.os ∧ AllBare s'.gens ∧ Un (frs outer) [] H H' s.heap s'.heap ∧ HOk P w H' s'.heap ∧
 Heap.FlyingW B outer ea (.ref D) a0 s'.heap ∧ (∀ b o, s'.heap.get? b = some o → b ∉ frs outer → (H' b ≠ none ∨ ∃ u, s.heap.get? b = some u) → B.get? b = some o) ∧ H' ea = none ∧ E (.ref D) none H'
theorem zsr {P : Program} {w : World} {H : Hp} {h : Heap} {a : Addr} {o : HO} (x : ObjOk P w H h a o) : ∃ u, h.get? a = some u := by
 cases o with
 | lst xs => obtain ⟨_, _, _, _, e⟩ := x; exact ⟨_, e⟩
 | tup xs => obtain ⟨_, _, _, ob, e, _⟩ := x; exact ⟨_, e⟩
 | dK kvs => obtain ⟨_, _, _, _, ob, _, _, e, _⟩ := x; exact ⟨_, e⟩
 | dT kvs => obtain ⟨_, _, _, _, ob, _, _, e, _⟩ := x; exact ⟨_, e⟩
 | set S n => obtain ⟨ob, _, _, _, e, _⟩ := x; exact ⟨_, e⟩
 | ins C dx fs => obtain ⟨_, _, _, e, _⟩ := x; exact ⟨_, e⟩
 | own y => exact x
 | xd fs => obtain ⟨_, ⟨_, _, _, e, _⟩, _⟩ := x; exact ⟨_, e⟩
 | rng lo hi => obtain ⟨_, _, _, e⟩ := x; exact ⟨_, e⟩
 | frz ob u => obtain ⟨e, _⟩ := x; exact ⟨_, e⟩
 | tbl ps => exact ⟨_, (show h.get? a = some _ from x)⟩
 | met f y => exact ⟨_, (show h.get? a = some _ from x)⟩
 | ext φ => obtain ⟨_, e, _⟩ := x; exact e
theorem zvm {l : List Env} : ∀ env ∈ l, ∀ b, env.frame = some b → b ∈ frs l := fun env he b hb => List.mem_filterMap.mpr ⟨env, he, hb⟩
theorem zni {P : Program} {w : World} {K : PySem.W.Frag} {mg : Str → Option Value} {base : Heap} {N : List Str} {qual : Str} {scope : Scope} {f : Addr} {cd : Value} {A : Around} {outer : List Env} {s0 : Shared} {H0 : Hp} {E : XK}
  {pins : List (Addr × Obj)} {σ : St} {H : Hp} {s : Shared} (I : Inv (zb3 (CXR P w) P w K mg base N qual scope f cd A outer s0 H0 E) pins σ H s) {h1 : Heap} {e D : Addr} {vs : List Value} (hx : Heap.MadeExcOf s.heap h1 e (.ref D) vs) (hE : E (.ref D) none H) :
  (zb3 (CXR P w) P w K mg base N qual scope f cd A outer s0 H0 E).xe (.ref e) { s with heap := h1 } := by
 have ad : ∀ b o, s0.heap.get? b = some o → b ∉ frs outer → b ∉ frs (envOfC qual scope s0.heap.objs.size f cd :: outer) := fun b o e n z => by
  rcases List.mem_cons.mp (I.stkSub b z) with r | r
  ·have h1 := Heap.lt_size e
   rw [r] at h1
   exact absurd h1 (Nat.lt_irrefl _)
  ·exact n r
 have hB : ∀ b o, s.heap.get? b = some o → b ∉ frs (envOfC qual scope s0.heap.objs.size f cd :: outer) → (PySem.W.hideAll s.heap (frs (envOfC qual scope s0.heap.objs.size f cd :: outer))).get? b = some o := fun b o e n => PySem.W.hideAll_get _ e n
 refine wpAny_leaves_madeW (base := PySem.W.hideAll s.heap (frs (envOfC qual scope s0.heap.objs.size f cd :: outer))) (h := s.heap) (L := s0.heap.objs.size) I.ok.frames rfl (fun b o q => PySem.W.of_hideAll _ q) (PySem.W.funFrames_hide I.stack zvm) hx fun h2 t x1 x2 x3 x4 => ?_
 have tr : ∀ b o, H b = some o → ∃ u, s.heap.get? b = some u ∧ (PySem.W.hideAll s.heap (frs (envOfC qual scope s0.heap.objs.size f cd :: outer))).get? b = some u := fun b o q => by
  obtain ⟨u, hu⟩ := zsr (I.hok b o q)
  exact ⟨u, hu, hB b u hu fun z => by have := I.stkFree b z; rw [q] at this; cases this⟩
 refine ⟨e, D, .ref t, H, _, rfl, I.os, I.bare, ⟨fun b o q n hf hx => ?_, fun b o q n hf ac => ?_, fun b o q n hx => I.base.free b o q n hx, fun b o q ac => ?_, I.base.tups, I.base.frzs, I.base.tbls⟩, fun a o q => ?_, x1, fun b o q hf hb => ?_, ?_, hE⟩
 ·exact x1.1 _ _ (hB b o (I.base.keep b o q n hf hx) (ad b o q hf))
 ·obtain ⟨sl, e1⟩ := I.base.slot b o q n hf ac
  obtain ⟨_, o2, e2, d2⟩ := I.funs.mem hf
  rw [e1] at e2
  cases e2
  obtain ⟨ae, e3⟩ := x4 b _ (hx.keeps _ _ e1) d2
  exact ⟨ae, e3⟩
 ·obtain ⟨o1, e1⟩ := I.base.there b o q ac
  by_cases hb : b ∈ frs (envOfC qual scope s0.heap.objs.size f cd :: outer)
  ·obtain ⟨_, o2, e2, d2⟩ := I.stack.mem hb
   obtain ⟨sl, e3⟩ := x4 b o2 (hx.keeps _ _ e2) d2
   exact ⟨_, e3⟩
  ·exact ⟨o1, x1.1 _ _ (hB b o1 e1 hb)⟩
 ·refine (I.hok a o q).stay (fun b u hb r => ?_) (fun _ r => r) fun _ _ r => r
  have hn : b ∉ frs (envOfC qual scope s0.heap.objs.size f cd :: outer) := fun z => by
   have fr := I.stkFree b z
   rcases hb with rfl | hb
   ·rw [q] at fr; cases fr
   ·rw [hb] at fr; cases fr
  exact x1.1 _ _ (hB b u r hn)
 ·rcases hb with hb | ⟨u, hu⟩
  ·cases hq : H b with
   | none => exact absurd hq hb
   | some ho =>
    obtain ⟨u, _, aa⟩ := tr b ho hq
    have := x1.1 _ _ aa
    rw [q] at this
    cases this
    exact aa
  ·obtain ⟨o1, e1⟩ := I.base.there b u hu (by intro z; cases z)
   have aa := hB b o1 e1 (ad b u hu hf)
   have := x1.1 _ _ aa
   rw [q] at this
   cases this
   exact aa
 ·cases hq : H e with
  | none => rfl
  | some ho =>
   obtain ⟨u, hu, _⟩ := tr e ho hq
   rw [hx.new] at hu
   cases hu
theorem Fun.okR {P : Program} {w : World} {K : PySem.W.Frag} {mg : Str → Option Value} {base : Heap} {x qual : Str} {st : Stmt} {f : Addr} {fd : FuncData} {N ps : List Str} {k : Nat} {sp : Sp} (F : Fun K x qual st f fd) (S : zay N ps (zah st)) (len : ∀ vs H Q E, sp vs H Q E → vs.length = ps.length)
  (hb : ∀ (cdv : Value) (A : Around) (outer : List Env) (s : Shared) (H : Hp) (vs : List V) (Q : VK) (E : XK), Room k (A.deeper (envOfC qual (zah st) s.heap.objs.size f cdv)) → sp vs H Q E →
   ∃ t, PSs (zb3 (CXR P w) P w K mg base N qual (zah st) f cdv A outer s H E) (za2 st) t ∧ t { nx := fun _ H' => Q .non H', rt := Q } (zg4 N vs) H) : FnOk P w K mg base (CXR P w) (k + 1) f fd ps sp := by
 obtain ⟨_, _, _, _, _, _, cdv, _, _, rfl, lk, aa⟩ := F.ex
 refine zsx lk aa S len fun A outer s H vs Q E hr ac => ?_
 exact hb cdv A outer s H vs Q E hr ac
def zwy (D : Addr) (W : XK) (t : TA) : TS := fun _ σ H => t σ H fun vs H1 => vs.length ≤ 1000 ∧ W (.ref D) none H1
theorem zkz {X : Cx} {x : Str} {D : Addr} {np cpos pos : Pos} {e : Expr} {es : List Expr} {ta : TA} {W : XK} (hc : X.calm = true) (hg : Gl X x) (hm : X.mg x = some (.ref D)) (hD : PySem.W.excIn X.K D zg8 zgv = true) (ha : PA X (e :: es) ta)
  (hxe : ∀ (pins : List (Addr × Obj)) (σ : St) (H : Hp) (s : Shared) (h1 : Heap) (ea : Addr) (vs : List Value), Inv X pins σ H s → Heap.MadeExcOf s.heap h1 ea (.ref D) vs → W (.ref D) none H → X.xe (.ref ea) { s with heap := h1 })
  (he : starEach (e :: es) X.env = (false, eval e X.env) :: starEach es X.env := by rfl) (hplain : (backTo cpos (starEach es X.env)).any (·.1) = false := by rfl) (hd : (x == ("__debug__" : Str)) = false := by decide) :
  PS X (.Raise (some (.Call (.Name x np) (e :: es) [] cpos)) none pos) (zwy D W ta) := by
 intro pins s σ H Dn I h
 obtain ⟨bm, xc⟩ := XCls.mk' I.mod.kin hD
 obtain ⟨N, nm, qn, bs, aa, sn, sub, ab, col, dd, k0, k1, k2, k3, k5, mN, eC, eN, ei, eT⟩ := xc.ex
 have hs := ha cpos pins s σ H _ I h
 refine wpAny_Raise_call_subT (C := D) (nm := nm) (q := qn) (N := N) (bs := bs) (bm := bm) (hdct := aa) (sn := sn) (sub := sub) (ab := ab) (col := col) (dd := dd) (k0 := k0) (k1 := k1) (k2 := k2) (k3 := k3) (k5 := k5) PySem.F.excBase_ValueError (mN := mN) (eT.hasType (b := true) (by decide)) (I.ok.hd hc)
  (by rw [he]; show (false || (backTo cpos (starEach es X.env)).any (·.1)) = false; rw [hplain]; rfl) ei (ze9 I hg hm ⟨rfl, ?_⟩ hd)
 rw [he] at hs ⊢
 refine Calls.evalArgs_plain (wpAny_mono hs (fun us s2 ⟨vs, H1, I1, r, q1, q2⟩ => ?_) fun _ _ z => z)
 refine ⟨rfl, ?_, I1.bk _ _ eC, eN.keeps I1.bk, eT.keeps I1.bk, fun h1 ea hx => hxe pins σ H1 s2 h1 ea _ I1 hx q2⟩
 rw [← r.length]
 exact Nat.le_of_lt (zbd q1)
section
variable {X : Cx} {pins : List (Addr × Obj)} {σ : St} {H H' : Hp} {s s' : Shared} {h2 : Heap}
def XE (X : Cx) (pins : List (Addr × Obj)) (W : XK) : Value → Shared → Prop := fun e s' => ∃ (σ : St) (H : Hp) (s : Shared) (H' : Hp) (ea D : Addr) (a0 : Value) (B : Heap), e = .ref ea ∧ Inv X pins σ H s ∧ Inv X pins σ H' s' ∧ Heap.FlyingW B X.stack ea (.ref D) a0 s'.heap ∧
 (∀ b o, s'.heap.get? b = some o → b ∉ frs X.stack → (H' b ≠ none ∨ ∃ u, s.heap.get? b = some u) → B.get? b = some o) ∧ H' ea = none ∧ W (.ref D) none H'
abbrev Cx.tryX (X : Cx) (pins : List (Addr × Obj)) (W : XK) : Cx := { X with pn := X.pn ++ pins, xe := XE X pins W }
abbrev Cx.markX (X : Cx) (ea : Addr) : Cx := { X with A := X.A.mark (some (.ref ea)), calm := false, xe := fun _ _ => False }
theorem Inv.toTry (I : Inv X pins σ H s) (W : XK) : Inv (X.tryX pins W) [] σ H s :=
 ⟨⟨I.ok.mod, I.ok.kind, I.ok.glob, I.ok.blt, I.ok.above, I.ok.inj, I.ok.has, I.ok.cab, I.ok.hd, I.ok.frames, I.ok.stk, I.ok.exf, I.ok.bs, I.ok.bsz, I.ok.noex, I.ok.exfs, I.ok.funs, I.ok.frf⟩, I.os, I.bare, I.base, I.loc, I.cell, I.free, I.freeC, fun p hp => I.pin p (by rw [List.append_nil] at hp; exact hp), I.hok, I.len⟩
theorem Inv.ofTry {W : XK} {pins' : List (Addr × Obj)} (I : Inv (X.tryX pins W) pins' σ H s) : Inv X pins σ H s :=
 ⟨⟨I.ok.mod, I.ok.kind, I.ok.glob, I.ok.blt, I.ok.above, I.ok.inj, I.ok.has, I.ok.cab, I.ok.hd, I.ok.frames, I.ok.stk, I.ok.exf, I.ok.bs, I.ok.bsz, I.ok.noex, I.ok.exfs, I.ok.funs, I.ok.frf⟩, I.os, I.bare, I.base, I.loc, I.cell, I.free, I.freeC, fun p hp => I.pin p (List.mem_append_left _ hp), I.hok, I.len⟩
theorem Inv.toMark (I : Inv X pins σ H s) (ea : Addr) : Inv (X.markX ea) pins σ H s :=
 ⟨⟨I.ok.mod, I.ok.kind, I.ok.glob, I.ok.blt, I.ok.above, I.ok.inj, I.ok.has, I.ok.cab, fun z => (by cases z), I.ok.frames, I.ok.stk, I.ok.exf, I.ok.bs, I.ok.bsz, I.ok.noex, I.ok.exfs, I.ok.funs, I.ok.frf⟩, I.os, I.bare, I.base, I.loc, I.cell, I.free, I.freeC, I.pin, I.hok, I.len⟩
theorem Inv.ofMark {ea : Addr} (I : Inv (X.markX ea) pins σ H s) (hd : X.calm = true → X.A.handled = none) : Inv X pins σ H s :=
 ⟨⟨I.ok.mod, I.ok.kind, I.ok.glob, I.ok.blt, I.ok.above, I.ok.inj, I.ok.has, I.ok.cab, hd, I.ok.frames, I.ok.stk, I.ok.exf, I.ok.bs, I.ok.bsz, I.ok.noex, I.ok.exfs, I.ok.funs, I.ok.frf⟩, I.os, I.bare, I.base, I.loc, I.cell, I.free, I.freeC, I.pin, I.hok, I.len⟩
theorem SP.ofTry {W : XK} {D : zgt} {f : Flow} (h : SP (X.tryX pins W) [] D f s') : SP X pins D f s' := by
 cases f with
 | next => obtain ⟨a, b, I, q⟩ := h; exact ⟨a, b, I.ofTry, q⟩
 | brk => obtain ⟨a, b, I, q⟩ := h; exact ⟨a, b, I.ofTry, q⟩
 | cont => obtain ⟨a, b, I, q⟩ := h; exact ⟨a, b, I.ofTry, q⟩
 | ret u => obtain ⟨v, a, b, I, r, q⟩ := h; exact ⟨v, a, b, I.ofTry, r, q⟩
theorem zx3 {W : XK} : zer (CXR X.prog X.w) (X.tryX pins W) W := fun pins' σ H s e s' I h => by
 obtain ⟨ea, D, a0, H', B, rfl, os, bare, un, hok, fl, kB, hn, hW⟩ := h
 exact ⟨σ, H, s, H', ea, D, a0, B, rfl, I.ofTry, I.ofTry.call' os un hok bare (fun b z => by cases z), fl, kB, hn, hW⟩
theorem Inv.track {ea : Addr} {o : HO} (I0 : Inv X pins σ H s) (I1 : Inv X pins σ H' s') (hn : H' ea = none) (hp : s.heap.get? ea = none) (new : ObjOk X.prog X.w (upd H' ea o) s'.heap ea o) : Inv X pins σ (upd H' ea o) s' where
 ok := I1.ok
 os := I1.os
 bare := I1.bare
 base := ⟨I1.base.keep, I1.base.slot, fun b u e n hx => by
  rw [zak fun z => by
   obtain ⟨u', e'⟩ := I0.base.there b u e hx
   rw [z, hp] at e'
   cases e']
  exact I1.base.free b u e n hx, I1.base.there, fun b xs q => by
   have := I1.base.tups b xs q
   rw [zak (zam this hn)]; exact this, fun b u xs q => by
   have := I1.base.frzs b u xs q
   rw [zak (zam this hn)]; exact this, fun b ps q => by
   obtain ⟨more, e⟩ := I1.base.tbls b ps q
   exact ⟨more, by rw [zak (zam e hn)]; exact e⟩⟩
 loc := I1.loc
 cell := I1.cell
 free := by
  rw [zak fun z => by
   obtain ⟨m, ⟨u, _, _, e, _⟩, _⟩ := I0.loc
   rw [z, hp] at e
   cases e]
  exact I1.free
 freeC := fun x c e => by
  rw [zak fun z => by
   obtain ⟨v, u, e', _⟩ := I0.cell x c e
   rw [z, hp] at e'
   cases e']
  exact I1.freeC x c e
 pin := fun p hq => by
  obtain ⟨h1, h2, h3⟩ := I1.pin p hq
  refine ⟨h1, ?_, h3⟩
  rw [zak fun z => by
   have := (I0.pin p hq).1
   rw [z, hp] at this
   cases this]
  exact h2
 hok := fun b u e => by
  by_cases hb : b = ea
  ·subst hb; rw [zac] at e; cases e; exact new
  ·rw [zak hb] at e
   exact (I1.hok b u e).stay (fun _ _ _ q => q) (fun c q => by rw [zak (zam q hn)]; exact q) fun c xs q => by rw [zak (zam q hn)]; exact q
 len := I1.len
theorem Inv.gone {i t : Nat} {n : Str} {v : Option Value} (I : Inv X pins σ H s) (hN : X.N.Nodup) (hi : X.N[i]? = some n) (hk : X.env.kindOf n = some .local) {m : Str → Option Value} (hm : s.heap.Ns X.env.locals m) (hn : h2.Ns X.env.locals (fun x => if x = n then v else m x)) (hs : Heap.SameBut X.env.locals s.heap h2) : Inv X pins (σ.set i none) H { s with heap := h2, toks := t } := by
 obtain ⟨m', aa, hl⟩ := I.loc
 have em : m' = m := by
  obtain ⟨o1, ag, ac, e1, d1, _, f1⟩ := aa
  obtain ⟨o2, af, ad, e2, d2, _, f2⟩ := hm
  rw [e1] at e2
  cases e2
  rw [d1] at d2
  cases d2
  funext x
  rw [← f1 x, f2 x]
 subst em
 obtain ⟨oL, _, _, ae, _⟩ := id hm
 have lt : ∀ b o, X.s₀.heap.get? b = some o → b ≠ X.env.locals := fun b o e => Nat.ne_of_lt (Nat.lt_of_lt_of_le (Heap.lt_size e) I.ok.above)
 refine ⟨I.ok, I.os, I.bare, ⟨fun b o e n hb hx => (hs.2 b (lt b o e)).trans (I.base.keep b o e n hb hx), fun b o e n hb hx => ?_, I.base.free, fun b o e hx => ?_, I.base.tups, I.base.frzs, I.base.tbls⟩, ⟨_, hn, fun j y v' e1 e2 e3 => ?_⟩, fun y c e => ?_, I.free, I.freeC, fun p hp => ?_, fun b ob e => ?_, by rw [List.length_set]; exact I.len⟩
 ·obtain ⟨sl, e1⟩ := I.base.slot b o e n hb hx
  exact ⟨sl, (hs.2 b (lt b o e)).trans e1⟩
 ·obtain ⟨o', e1⟩ := I.base.there b o e hx
  exact ⟨o', (hs.2 b (lt b o e)).trans e1⟩
 ·have hj : j ≠ i := fun z => by
   rw [z, List.getElem?_set_self (by rw [I.len]; exact (List.getElem?_eq_some_iff.mp hi).1)] at e2
   cases e2
  rw [List.getElem?_set_ne (Ne.symm hj)] at e2
  obtain ⟨u', r', q⟩ := hl j y v' e1 e2 e3
  refine ⟨u', r', ?_⟩
  rcases q with ⟨k, e⟩ | ⟨k, c, e, z⟩
  ·refine .inl ⟨k, ?_⟩
   have : y ≠ n := fun e => hj (zk1 hN e1 (e ▸ hi))
   show (if y = n then v else m' y) = some u'
   rw [if_neg this]
   exact e
  ·exact .inr ⟨k, c, e, z.sameBut hs (I.cne y c e)⟩
 ·obtain ⟨w', z⟩ := I.cell y c e
  exact ⟨w', z.sameBut hs (I.cne y c e)⟩
 ·obtain ⟨e, n', ne, nf, d⟩ := I.pin p hp
  exact ⟨(hs.2 p.1 ne).trans e, n', ne, nf, d⟩
 ·refine (I.hok b ob e).stay (fun c w' hc q => (hs.2 c ?_).trans q) (fun _ q => q) fun _ _ q => q
  rintro rfl
  have fr := I.free
  rcases hc with rfl | hc
  ·rw [fr] at e; cases e
  ·rw [fr] at hc; cases hc
end
def zon (K : PySem.W.Frag) (D C : Addr) : Bool := match K.lookup D with
 | some ⟨_, _, .cls cd, _⟩ => cd.mro.contains (.ref C)
 | _ => false
theorem zur {K : PySem.W.Frag} {h : Heap} {D C : Addr} {bD : List Value} (X : K.In h) (x : XCls h D bD) (q : zon K D C = true) : (Value.ref D :: bD).contains (.ref C) = true := by
 unfold zon at q
 split at q
 case h_2 => cases q
 case h_1 oc od cd sl hl =>
  obtain ⟨_, _, _, _, _, _, _, _, _, _, _, _, _, _, _, _, e, _⟩ := x.ex
  have := X _ _ hl
  rw [e] at this
  cases this
  exact q
def zln (ea D : Addr) : Heap → Prop := fun h => ∃ ob, h.get? ea = some ob ∧ ob.cls = .ref D
def zwz (i : Nat) (W : XK) (K : PySem.W.Frag) (C : Addr) (tb ts : TS) : TS := fun D σ H => tb D σ H ∧ ∀ (σ' : St) (H' : Hp) (ea Dc : Addr), σ'.length = σ.length → W (.ref Dc) none H' → H' ea = none →
 PySem.W.excIn K Dc zg8 zgv = true ∧ zon K Dc C = true ∧ ts { nx := fun σ2 H2 => D.nx (σ2.set i none) H2, rt := fun _ _ => False } (σ'.set i (some (.ref ea))) (upd H' ea (.ext (zln ea Dc)))
theorem zt7 {X : Cx} {body suite : List Stmt} {b0 : Stmt} {x n : Str} {i : Nat} {C : Addr} {tb ts : TS} {W : XK} {np hpos pos : Pos} (hst : X.stack = X.env :: X.outer) (hfr : X.env.frame = some X.env.locals) (hb : ∀ pins, PSs (X.tryX pins W) body tb) (hg : Gl X x) (hm : X.mg x = some (.ref C)) (hC : PySem.W.excIn X.K C zg8 zgv = true)
  (hN : X.N.Nodup) (hi : X.N[i]? = some n) (hk : X.env.kindOf n = some .local) (hl : Loc X.env.scope n) (hs : ∀ ea, PSs (X.markX ea) (b0 :: suite) ts) (hf : X.fn n = true ∨ X.env.scope.names.lookup n = some .local := by first | exact .inl rfl | exact .inr rfl | assumption) (hd : (x == ("__debug__" : Str)) = false := by decide) :
  PS X (.Try body [.ExceptHandler (some (.Name x np)) (some n) (b0 :: suite) hpos] [] [] pos) (zwz i W X.K C tb ts) := by
 intro pins s σ H D I h
 refine wpAny_Try_except (wpAny_mono (hb pins [] s σ H D (I.toTry W) h.1) (fun f s1 q => ?_) fun e s1 q => ?_)
 ·cases f with
  | next => exact wpAny_execs_nil (SP.ofTry q)
  | brk => exact SP.ofTry q
  | cont => exact SP.ofTry q
  | ret u => exact SP.ofTry q
 obtain ⟨σ1, H0, s0, H1, ea, Dc, a0, B, rfl, I0, I1, fl, kB, ag, hW⟩ := q
 obtain ⟨r1, r2, r3⟩ := h.2 σ1 H1 ea Dc (I1.len.trans I.len.symm) hW ag
 rw [hst] at fl
 have aj : s0.heap.get? ea = none := by
  cases hq : s0.heap.get? ea with
  | none => rfl
  | some u =>
   obtain ⟨oe, vs, _, _, _, he, _, ao, _⟩ := fl.2.2.2
   have ap : ea ∉ frs X.stack := fun z => by
    obtain ⟨_, o2, e2, d2⟩ := I1.stack.mem z
    rw [he] at e2
    cases e2
    exact d2 vs ao
   have := kB ea oe he ap (.inr ⟨u, hq⟩)
   rw [fl.2.1] at this
   cases this
 refine wpAny_looks_onW (by rw [← hst]; exact I.ok.frames) hfr fl fun h2 al u2 => ?_
 refine wpAny_landsW al fun h3 ac u3 => ?_
 have I3 := I0.upto I1 (fun b o e n hb => ac.1 _ _ (kB b o e n hb)) (u2.trans u3)
 obtain ⟨bC, xC⟩ := XCls.mk' I3.kIn hC
 obtain ⟨bD, xD⟩ := XCls.mk' I3.kIn r1
 obtain ⟨oe, he, ad⟩ := ac.there
 refine wpAny_handleBy_cons (codeAny_handlers_test (ze9 (I3.toMark ea) hg hm ?_ hd)) (by intro q; cases q)
 refine znn xC xD he ad (zur I3.kIn xD r2) ?_
 refine codeAny_handlers_suite_as ?_
 refine lands_againW ac fun h4 ai u4 => ?_
 have I4 := I0.upto I1 (fun b o e n hb => ai.1 _ _ (kB b o e n hb)) ((u2.trans u3).trans u4)
 obtain ⟨af, ah, aa⟩ := ai.there
 have I5 := I0.track (o := .ext (zln ea Dc)) I4 ag aj ⟨⟨af, ah, aa⟩, ⟨af, ah⟩, fun g1 g2 ⟨ob, e1, e2⟩ k => ⟨ob, k ob e1, e2⟩⟩
 refine zkd I5 hN hi hl (show RelV (.ref ea) (.ref ea) from rfl) (fun s5 I6 => ?_) hf
 refine wpAny_mono (hs ea pins s5 _ _ _ (I6.toMark ea) r3) (fun f s6 q => ?_) fun _ _ z => False.elim z
 cases f with
 | next =>
  obtain ⟨σ7, H7, I7, q7⟩ := q
  obtain ⟨m, ae, _⟩ := id I7.loc
  exact wpAny_nameGoes_keeps hk ae (by rw [I.ok.kind]; rfl) fun h8 v ak am => ⟨_, H7, (I7.ofMark I.ok.hd).gone hN hi hk ae ak am, q7⟩
 | brk => obtain ⟨_, _, _, q7⟩ := q; exact False.elim q7
 | cont => obtain ⟨_, _, _, q7⟩ := q; exact False.elim q7
 | ret u => obtain ⟨_, _, _, _, _, q7⟩ := q; exact False.elim q7
structure zhi (K : PySem.W.Frag) (D : Addr) : Prop where
 cl : PySem.W.excIn K D zg8 zgv = true
 ga : PySem.W.findIn K (.ref D) "__getattribute__" = some (some (.builtin "BaseException.__getattribute__"))
 gt : PySem.W.findIn K (.ref D) "__getattr__" = some none
 ck : PySem.W.findIn K (.ref D) "__class__" = some (some (.builtin "object.__class__"))
section
variable {prog : Program} {w : World} {A : Around} {E : Value → Shared → Prop} {h : Heap} {g : Array GenState} {d : Drawn} {t : Nat} {os : OsState} {a D : Addr} {o : Obj} {K : PySem.W.Frag} {bD : List Value}
theorem zwu {R : Result → Shared → Prop} (xD : XCls h D bD) (hx : h.get? a = some o) (hc : o.cls = .ref D) (hq : R (.ok (.ret (.ref D))) ⟨h, g, d, t, os⟩) :
  codeAny (model prog w) A (.call (.builtin "getset_descriptor.__get__") ⟨[.builtin "object.__class__", .ref a, .ref D], []⟩) R ⟨h, g, d, t, os⟩ := by
 obtain ⟨_, _, _, _, _, _, _, _, _, _, _, _, _, _, _, _, hD, _, _, tD⟩ := xD.ex
 have hb : (Value.ref D :: bD).contains (.type (".".intercalate ("object.__class__".cutAt '.').dropLast)) = true := by
  rw [PySem.F.owner_object_class, List.contains_cons, tD.hasType (b := true) (by decide)]; rfl
 refine codeAny_call_builtin PySem.F.slot_gs_get.plain PySem.F.entry_gs_get (PySem.F.slot_gs_get.check _ _ _ _ _ _ _ _ (show (⟨h, g, d, t, os⟩ : Shared).TypeIs (.builtin "object.__class__") "getset_descriptor" from PySem.F.typeOf_object_class) (PySem.F.args_gs_get _ _ _) ?_)
 repeat (any_goals (first | assumption | (with_reducible refine wpAny_loadPart_at hx ?_; rw [hc]) | (with_reducible refine wpAny_isSubtype_exc hD ?_; rw [hb]) | wp_step))
 refine ⟨Code.quiet_builtin _ (by decide +kernel), codeAny_builtin PySem.F.entry_object_class ?_⟩
 repeat (any_goals (first | assumption | (with_reducible refine wpAny_loadPart_at hx ?_; rw [hc]) | wp_step))
theorem zti {tk : Tok} {Q : Fin → Shared → Prop} (X : K.In h) (G : zhi K D) (xD : XCls h D bD) (hx : h.get? a = some o) (hc : o.cls = .ref D) (hq : Q (.done (.ret (.ref D))) ⟨h, g, d, t, os⟩) :
  wpAny (model prog w) A (Builtin.«object.__getattribute__» ⟨[.ref a, .str "__class__" tk], []⟩) Q E ⟨h, g, d, t, os⟩ := by
 have aa : (⟨h, g, d, t, os⟩ : Shared).TypeIs (.builtin "object.__class__") "getset_descriptor" := PySem.F.typeOf_object_class
 have f5 := PySem.F.typeOf_object_class
 have f6 := PySem.F.slot_gs_get.lookup
 have f7 := PySem.F.slot_gs_set.lookup
 repeat (any_goals (first | assumption | (with_reducible refine wpAny_loadPart_at hx ?_; rw [hc]) | (with_reducible refine (PySem.W.looks_findIn X G.ck).at ?_) | wp_step))
 refine zwu xD hx hc ?_
 repeat (any_goals (first | assumption | wp_step | done))
theorem zsm {M : Model} {v : Value} {Q : Unit → Shared → Prop} (xD : XCls h D bD) (hx : h.get? a = some o) (hc : o.cls = .ref D) (hq : Q () ⟨h, g, d, t, os⟩) : wpAny M A (checkBuiltinCall "BaseException.__getattribute__" ⟨[.ref a, v], []⟩) Q E ⟨h, g, d, t, os⟩ := by
 obtain ⟨_, _, _, _, _, _, _, _, _, _, _, _, _, _, _, _, hD, _, _, tD⟩ := xD.ex
 have h1 : builtinKind "BaseException.__getattribute__" = some .slot := by decide +kernel
 have h2 : splitId "BaseException.__getattribute__" = some ("BaseException", "__getattribute__") := by decide +kernel
 have hb : (Value.ref D :: bD).contains (.type "BaseException") = true := by rw [List.contains_cons, tD.hasType (b := true) (by decide), Bool.or_true]
 have ha := PySem.F.args_bexc_ga (.ref a) v
 simp only [checkBuiltinCall, h1, h2]
 refine wpAny_bind ?_
 unfold isInstance
 repeat (first | (with_reducible refine wpAny_loadPart_at hx ?_; rw [hc]) | (with_reducible refine wpAny_isSubtype_exc hD ?_; rw [hb]) | wp_step)
 exact hq
theorem zx8 {tk : Tok} {Q : Value → Shared → Prop} (X : K.In h) (G : zhi K D) (xD : XCls h D bD) (FG : Slot "ValueError" "__getattribute__" "BaseException.__getattribute__") (hx : h.get? a = some o) (hc : o.cls = .ref D) (hq : Q (.ref D) ⟨h, g, d, t, os⟩) :
  wpAny (model prog w) A (getAttrBy (.ref a) (.str "__class__" tk) false) Q E ⟨h, g, d, t, os⟩ := by
 have f3 := FG.bind (.ref a)
 have aa : (Value.builtin "BaseException.__getattribute__" == Value.builtin "object.__getattribute__") = false := by decide +kernel
 have ac : (onTheHeap (Value.ref D) && Value.builtin "BaseException.__getattribute__" == Value.builtin "object.__getattribute__") = false := by rw [aa]; rfl
 repeat (any_goals (first | assumption | (with_reducible refine wpAny_loadPart_at hx ?_; rw [hc]) | (with_reducible refine (PySem.W.looks_findIn X G.ga).at ?_) | (with_reducible refine (PySem.W.looks_findIn X G.gt).at ?_) | wp_step))
 refine codeAny_call_builtin FG.plain PySem.F.entry_bexc_ga (zsm xD hx hc (zti X G xD hx hc ?_))
 repeat (any_goals (first | assumption | wp_step | done))
theorem zul {Q : Option Value → Shared → Prop} (X : K.In h) (G : zhi K D) (xD : XCls h D bD) (FG : Slot "ValueError" "__getattribute__" "BaseException.__getattribute__") (hx : h.get? a = some o) (hc : o.cls = .ref D) (hq : Q (some (.ref D)) ⟨h, g, d, t + 1, os⟩) :
  wpAny (model prog w) A (getAttr? (.ref a) "__class__") Q E ⟨h, g, d, t, os⟩ := by
 unfold getAttr? getAttrBy?
 repeat (any_goals (first | assumption | with_reducible apply zx8 X G xD FG hx hc | wp_step))
end
theorem zns {K : PySem.W.Frag} {a D : Addr} (G : zhi K D) : PySem.W.KitX K (.ref a) (.ref D) (zln a D) where
 ty := fun M h _ ⟨_, h1, h2⟩ => h2 ▸ (PySem.W.Looks.ld h1).andThen .now
 it := fun _ h X _ => by
  obtain ⟨_, xD⟩ := XCls.mk' X G.cl
  obtain ⟨_, _, _, _, _, _, _, _, _, _, _, _, _, _, _, _, hD, _⟩ := xD.ex
  intro A' Q' E' s' k q
  unfold isType loadHead
  exact wpAny_bind (wpAny_loadPart (k _ _ hD) (wpAny_pure q))
 ne := fun h tp dd its n sl X htp => Bool.eq_false_iff.mpr fun q => by
  cases Value.ref.inj (beq_iff_eq.mp q)
  obtain ⟨_, xD⟩ := XCls.mk' X G.cl
  obtain ⟨_, _, _, _, _, _, _, _, _, _, _, _, _, _, _, _, hD, _⟩ := xD.ex
  have z := congrArg Obj.data (Option.some.inj (hD.symm.trans htp))
  cases z
 ca := fun {_ _ _ _ _ s} X p k => by
  obtain ⟨_, xD⟩ := XCls.mk' X G.cl
  obtain ⟨o, h1, h2⟩ := p
  obtain ⟨h, g, d, t, os⟩ := s
  exact zul X G xD PySem.F.attr_ValueError.ga h1 h2 k
theorem zk6 {X : Cx} {K : PySem.W.Frag} (hK : X.K = K := by rfl) : zd8 X (.builtin "isinstance") (fun xs H Q => ∃ (a D : Addr) (c : V) (b : Bool), xs = [.ref a, c] ∧ H a = some (.ext (zln a D)) ∧ zhi K D ∧
  ((∃ C, c = .ref C ∧ PySem.W.kitOne K (.ref D) (.ref C) = some b) ∨ ∃ T, c = .ty T ∧ PySem.W.kitOne K (.ref D) (.type T) = some b) ∧ Q (.bl b) H) := by
 subst hK
 intro pins s σ H xs us Q I r h
 obtain ⟨a, D, c, b, rfl, ha, G, hc, q⟩ := h
 obtain ⟨u, w', rfl, rx, ry⟩ := zs1 r
 cases (show u = Value.ref a from rx)
 have p : zln a D s.heap := (show ObjOk X.prog X.w H s.heap a (.ext (zln a D)) from I.hok a _ ha).1
 rcases hc with ⟨C, rfl, e⟩ | ⟨T, rfl, e⟩
 ·cases (show w' = Value.ref C from ry)
  exact PySem.W.kia_one (zns G) I.kIn p e (fun z => nomatch z) fun tk => ⟨.bl b, H, I.tok tk, rfl, q⟩
 ·cases (show w' = Value.type T from ry)
  exact PySem.W.kia_one (zns G) I.kIn p e (fun z => nomatch z) fun tk => ⟨.bl b, H, I.tok tk, rfl, q⟩
theorem zu0 : bootBuiltins "ValueError" = some (.type "ValueError") := by decide +kernel
end L2
namespace Wd
open PySem L2 Ow
theorem zyl {α : Type} : ∀ {l : List α}, l.length = 4 → ∃ a b c d, l = [a, b, c, d]
 | [a, b, c, d], _ => ⟨a, b, c, d, rfl⟩
end Wd
namespace L2
open PySem PySem.Spec PyProof.Rows
def zmp (P : Program) (w : World) (K : PySem.W.Frag) (mg : Str → Option Value) (base : Heap) (N : List Str) (q : Str) (scope : Scope) (f c : Addr) (cl : List (Str × Addr)) (A : Around) (outer : List Env) (s : Shared) (H : Hp) (E : XK) : Cx :=
 { zqh P w K mg base N q scope f c cl A outer s H with xe := fun e s' => wpAny (model P w) (A.deeper (PySem.W.envX q scope s.heap.objs.size f (.ref c) cl)) (leaving (PySem.W.envX q scope s.heap.objs.size f (.ref c) cl) e) (fun _ s'' => CXR P w outer H s E e s'') (fun e' s'' => CXR P w outer H s E e' s'') s' }
theorem zfk {P : Program} {w : World} {K : PySem.W.Frag} {mg : Str → Option Value} {base : Heap} {N : List Str} {qual : Str} {scope : Scope} {f c : Addr} {cl : List (Str × Addr)} {A : Around} {outer : List Env} {s0 : Shared} {H0 : Hp} {E : XK} :
  zer (CXR P w) (zmp P w K mg base N qual scope f c cl A outer s0 H0 E) E := fun pins σ H s e s' I h => by
 obtain ⟨ea, D, a0, H', B, rfl, os, bare, un, hok, fl, kB, hn, hW⟩ := h
 have I1 := I.call' os un hok bare (fun b z => by cases z)
 refine wpAny_leaves_onW I.ok.frames rfl fl fun h2 fl2 u2 => ?_
 have I2 := I.upto I1 (fun b o e n hb => fl2.1 _ _ (kB b o e n hb)) u2
 refine ⟨ea, D, a0, H', B, rfl, I2.os, I2.bare, I2.base, I2.hok, fl2, fun b o q hf hb => ?_, hn, hW⟩
 have nst : b ∉ frs (PySem.W.envX qual scope s0.heap.objs.size f (.ref c) cl :: outer) := fun z => by
  rcases hb with hb | ⟨u, hu⟩
  ·exact hb (I1.stkFree b z)
  ·rcases List.mem_cons.mp (I.stkSub b z) with r | r
   ·have h1 := Heap.lt_size hu
    rw [r] at h1
    exact absurd h1 (Nat.lt_irrefl _)
   ·exact hf r
 rcases hb with hb | ⟨u, hu⟩
 ·cases hq : H' b with
  | none => exact absurd hq hb
  | some ho =>
   obtain ⟨u, hu⟩ := zsr (I1.hok b ho hq)
   have h1 := kB b u hu nst (.inl hb)
   have h3 := fl2.1 _ _ h1
   rw [q] at h3
   cases h3
   exact h1
 ·obtain ⟨o1, e1⟩ := I.base.there b u hu (by intro z; cases z)
  obtain ⟨o2, e2⟩ := I1.base.there b u hu (by intro z; cases z)
  have h1 := kB b o2 e2 nst (.inr ⟨o1, e1⟩)
  have h3 := fl2.1 _ _ h1
  rw [q] at h3
  cases h3
  exact h1
theorem zue {P : Program} {w : World} {K : PySem.W.Frag} {mg : Str → Option Value} {base : Heap} {f c : Addr} {qual : Str} {params : Arguments} {body : Expr} {scope : Scope} {cl : List (Str × Addr)} {ps fr : List Str} {fv : List V} {k : Nat} {sp : Sp}
  (S : zhl ps fr scope) (hcl : ∀ x cc, cl.lookup x = some cc → ∃ v, base.IsCell cc v) (inj : ∀ x y cc, cl.lookup x = some cc → cl.lookup y = some cc → x = y) (has : ∀ y ∈ scope.names, y.2 = .free → ∃ cc, cl.lookup y.1 = some cc)
  (hfv : ∀ (i : Nat) (x : Str) (v : V), fr[i]? = some x → fv[i]? = some v → ∃ cc u, cl.lookup x = some cc ∧ RelV v u ∧ base.IsCell cc (some u)) (hlen : fv.length = fr.length)
  (hsame : ∀ pm ctv args, bindArgs (PySem.W.kla_fn "<lambda>" qual params body scope cl pm (.ref c) ctv) args = bindArgs (PySem.W.kla_fn "<lambda>" qual params body scope cl .none (.ref c) .none) args)
  (len : ∀ vs H Q E, sp vs H Q E → vs.length = ps.length)
  (lam : ∀ vs H Q E, sp vs H Q E → H f = some (.ext (zjz f qual params body scope cl c)) ∧ H c = some (.ext (zfq c)))
  (hbody : ∀ (q : Str) (A : Around) (outer : List Env) (s : Shared) (H : Hp) (vs : List V) (Q : VK) (E : XK), Room k (A.deeper (PySem.W.envX q scope s.heap.objs.size f (.ref c) cl)) → sp vs H Q E →
   ∃ t, PE (zmp P w K mg base (ps ++ fr) q scope f c cl A outer s H E) body t ∧ t (vs.map some ++ fv.map some) H Q) :
  FnOk P w K mg base (CXR P w) (k + 1) f (PySem.W.kla_fn "<lambda>" qual params body scope cl .none (.ref c) .none) ps sp := by
 refine ⟨len, fun A outer s H args us vs Q E hr e0 hb r af => ?_⟩
 have hl := len _ _ _ _ af
 obtain ⟨hf, hc⟩ := lam _ _ _ _ af
 obtain ⟨pm, ctv, ho⟩ := zim hf e0.hok
 obtain ⟨oc, aj, q, t, ap, al, ak⟩ := zim hc e0.hok
 have am : s.heap.NoLimit := e0.mod.nolimit.keeps fun b o e => (e0.bs b o e).1
 have ae : ∀ {cc v}, base.IsCell cc v → s.heap.IsCell cc v ∧ H cc = none := fun {cc v} ⟨o, e, d⟩ => ⟨⟨o, (e0.bs _ _ e).1, d⟩, (e0.bs _ _ e).2⟩
 refine zn4 hr.depth ho rfl S.co S.gen rfl ⟨c, oc, aj, t, rfl, ap, al, ak⟩ ?_
 rw [hsame]
 refine hb _ _ _ _ ?_
 have ah : ∀ y ∈ ps.zip us, scope.names.lookup y.1 = some .local := fun ⟨n, v⟩ hy => S.par n (List.of_mem_zip hy).1
 refine wpAny_newFunctionEnv S.nocell ah (fun h₁ ao ai => ?_) S.kind
 have ac : ∀ b o, s.heap.get? b = some o → h₁.get? b = some o := fun b o e => ai.extBut b o (Nat.ne_of_lt (Heap.lt_size e)) (Heap.get?_push_of_some _ e)
 refine ⟨am.keeps ac, ?_⟩
 obtain ⟨tt, ht, hq⟩ := hbody q A outer s H vs Q E (hr.deeper _) af
 have ag : ∀ b : Addr, b ∉ ([] : List Addr) := fun b z => by simp at z
 have ad : ∀ x, (scope.names.lookup x = some .cell ∨ scope.names.lookup x = some .free) → ∃ cc, cl.lookup x = some cc := fun x hx => by
  rcases hx with z | z
  ·exact absurd rfl (S.nocell _ (PySem.mem_of_lookup z))
  ·exact has _ (PySem.mem_of_lookup z) rfl
 have I : Inv (zmp P w K mg base (ps ++ fr) q scope f c cl A outer s H E) [] (vs.map some ++ fv.map some) H { s with heap := h₁, toks := s.toks + (ps.zip us).length } := by
  refine ⟨⟨e0.mod, S.kind, rfl, rfl, Nat.le_refl _, inj, ad, fun x cc z => (by cases z), fun _ => hr.hd, Around.frames_deeper e0.frames, .inr ⟨rfl, rfl⟩, fun b z => absurd z (ag b), e0.bs, e0.bsz, fun b _ _ => ag b, fun b z => absurd z (ag b), e0.funs, e0.frf⟩,
   rfl, e0.bare, Un.kept ac, ⟨_, ao, fun i x v h1 h2 h3 => ?_⟩, fun x cc e => ?_, e0.hok.fresh (Nat.le_refl _), fun x cc e => ?_, fun p hp => absurd (show p ∈ ([] : List (Addr × Obj)) from hp) (by simp), e0.hok.kept ac, ?_⟩
  ·have aa : (ps ++ fr)[i]? = some x := h1
   by_cases hi : i < ps.length
   ·rw [List.getElem?_append_left hi] at aa
    rw [List.getElem?_append_left (by rw [List.length_map, hl]; exact hi), List.getElem?_map] at h2
    obtain ⟨v', hv, e⟩ := Option.map_eq_some_iff.mp h2
    cases e
    obtain ⟨u, hu, rv⟩ := r.get hv
    exact ⟨u, rv, .inl ⟨S.par x (List.mem_of_getElem? aa), zfs S.nd aa hu⟩⟩
   ·rw [List.getElem?_append_right (by omega)] at aa
    rw [List.getElem?_append_right (by rw [List.length_map, hl]; omega), List.getElem?_map, List.length_map, hl] at h2
    obtain ⟨v', hv, e⟩ := Option.map_eq_some_iff.mp h2
    cases e
    obtain ⟨cc, u, e1, ru, ic⟩ := hfv _ _ _ aa hv
    exact ⟨u, ru, .inr ⟨.inr (S.fre x (List.mem_of_getElem? aa)), cc, e1, (ae ic).1.keeps ac⟩⟩
  ·obtain ⟨v, ic⟩ := hcl x cc e
   exact ⟨v, (ae ic).1.keeps ac⟩
  ·obtain ⟨v, ic⟩ := hcl x cc e
   exact (ae ic).2
  ·show (vs.map some ++ fv.map some).length = (ps ++ fr).length
   rw [List.length_append, List.length_append, List.length_map, List.length_map, hl, hlen]
 refine PySem.W.kla_codeExpr (wpAny_mono (ht [] _ _ H _ I hq) (fun u s' hs => ?_) fun e s' hs => hs)
 obtain ⟨v, H', J, rv, qq⟩ := hs
 exact ⟨v, H', J.os, J.bare, J.base, J.hok, rv, qq⟩
section
variable {X : Cx} {k : Nat} {f : Addr} {fd : FuncData} {ps : List Str} {x : Str} {p pos : Pos} {e : Expr} {es : List Expr} {t : TA}
theorem zry {CX : CXT} {E : XK} {i : Nat} {φ : Heap → Prop} {sp : Sp} (F : FnOk X.prog X.w X.K X.mg X.base CX k f fd ps sp) (hr : Room k X.A) (hN : X.N[i]? = some x) (hv : Vis X.env.scope x) (hb : Binds X.K fd ps [])
  (hφ : ∀ h : Heap, φ h → ∃ o fd', h.get? f = some o ∧ o.data = .func fd') (hx : zer CX X E)
  (hdb : (x == ("__debug__" : Str)) = false := by decide) (hcd : (x == ("__classdict__" : Str)) = false := by decide) :
  PE X (.Call (.Name x p) [] [] pos) (fun σ H Q => σ[i]? = some (some (.ref f)) ∧ H f = some (.ext φ) ∧ sp [] H Q E) := by
 intro pins s σ H Q I h
 obtain ⟨hσ, e3, q⟩ := h
 refine wpAny_Call_Name_kw (wpAny_mono (zoz hN hv hdb hcd pins s σ H (fun v H' => v = .ref f ∧ H' = H) I ⟨_, hσ, rfl, rfl⟩) (fun u s1 hu => ?_) fun _ _ z => z)
 obtain ⟨v, H', I', rv, e1, e2⟩ := hu
 subst e1
 subst e2
 obtain rfl : u = Value.ref f := rv
 refine PySem.W.callWith_of (by rfl) (P := fun h => ∃ o fd', h.get? f = some o ∧ o.data = .func fd') (fun h ⟨o, fd', e1, e2⟩ => ?_) (evalArgs_nil3 ⟨hφ _ (zim e3 I'.hok), ?_⟩)
 ·obtain ⟨oc, od, aa, os⟩ := o
  cases e2
  exact ⟨.frame, .inl rfl, (PySem.W.Looks.ld (part := none) e1).andThen .now⟩
 ·exact zkc (ds := []) (dvs := []) (us := []) F hr hb .nil hx I' .nil (by rw [List.append_nil]; exact q)
theorem zin (hr : Room k X.A) (hg : Gl X x) (hm : X.mg x = some (.ref f)) (hk : PySem.W.keepIn X.K (.ref f) = true) (hb : Binds X.K fd ps []) (hfn : ∀ y, X.fn y = true)
  (ha : PA X (e :: es) t) (hdb : (x == ("__debug__" : Str)) = false := by decide) (he : starEach (e :: es) X.env = (false, eval e X.env) :: starEach es X.env := by rfl) (hpl : (backTo pos (starEach es X.env)).any (·.1) = false := by rfl) :
  PE X (.Call (.Name x p) (e :: es) [] pos) (fun σ H Q => t σ H fun vs H1 => ∀ base : Heap, zjd X σ base → X.K.In base → base.Ns mainGlobals X.mg → (∀ b o, X.base.get? b = some o → base.get? b = some o) → ∃ sp : Sp, FnOk X.prog X.w X.K X.mg base CX0 k f fd ps sp ∧ sp vs H1 Q E0) := by
 intro pins s σ H Q I h
 refine wpAny_Call_Name_kw (ze9 I hg hm ?_ hdb)
 refine PySem.W.callWith_K (h₀ := X.base) I.ok.mod.kin hk (thn (ha pos pins s σ H _ I h) fun us s1 ⟨vs, H1, I1, r, q⟩ => ⟨I1.kIn, ?_⟩) he hpl
 have e0 := I1.now
 have ci : zjd X σ (zda s1.heap H1 X.stack) := fun i y v hN hv hk => by
  obtain ⟨m, hn, hl⟩ := I1.loc
  obtain ⟨u, ru, l⟩ := hl i y v hN hv (.inr (.inl hk))
  rcases l with ⟨ac, _⟩ | ⟨_, c, hc, aa⟩
  ·rw [hk] at ac; cases ac
  ·exact ⟨c, u, hc, ru, I1.nowCell (hfn y) hc aa⟩
 obtain ⟨sp, F, hs⟩ := q _ ci e0.mod.kin e0.mod.glob fun b o e => zfw (I1.bk _ _ e) (I1.env0.bs b o e).2 (I1.noStk e)
 have hl : us.length = ps.length := by rw [← r.length]; exact F.len _ _ _ _ hs
 have ad := hb s1 us I1.kIn (by rw [List.append_nil]; exact hl)
 rw [List.append_nil] at ad
 refine wpAny_call (codeAny_mono (F.run X.A X.stack s1 H1 ⟨us, []⟩ us vs Q E0 hr e0 ad r hs) fun r s' hq => ?_)
 cases r with
 | error e => exact hq.elim
 | ok fl =>
  cases fl with
  | ret u => exact I1.after hq
  | next => exact False.elim hq
  | brk => exact False.elim hq
  | cont => exact False.elim hq
end
end L2
namespace Wd
open PySem L2 Ow
def ifT : Option Stmt → Expr
 | some (.If c _ _ _) => c
 | _ => .Constant .none 0 ⟨0, 0, 0, 0⟩
def zrx : Expr → Expr
 | .Compare l _ _ _ => l
 | e => e
theorem zqi {x y1 y2 y3 : Str} {c1 c2 c3 cc : Addr} (h : [(y1, c1), (y2, c2), (y3, c3)].lookup x = some cc) : (x = y1 ∧ cc = c1) ∨ (x = y2 ∧ cc = c2) ∨ (x = y3 ∧ cc = c3) := by
 have m := PySem.mem_of_lookup h
 simp only [List.mem_cons, Prod.mk.injEq, List.not_mem_nil, or_false] at m
 exact m
end Wd
namespace Ow
open PySem
def zgm : Stmt → List Stmt
 | .ClassDef _ _ _ b _ _ _ _ _ _ _ => b
 | _ => []
end Ow
namespace Wd
open PySem L2 Ow
def PickL (H : Hp) : List (Nat × Bool) → List V → Prop
 | [], xs => xs = []
 | p :: ps, xs => ∃ t r, xs = .ref t :: r ∧ H t = some (.tup [.int (p.1 : Int), .bl p.2]) ∧ PickL H ps r
theorem PickL.same {H H' : Hp} (s : zc7 H H') : ∀ {ps : List (Nat × Bool)} {xs : List V}, PickL H ps xs → PickL H' ps xs
 | [], _, h => h
 | _ :: _, _, ⟨t, r, e, h, q⟩ => ⟨t, r, e, s _ _ h, PickL.same s q⟩
theorem PickL.length {H : Hp} : ∀ {ps : List (Nat × Bool)} {xs : List V}, PickL H ps xs → ps.length = xs.length
 | [], _, h => by rw [show _ = [] from h]; rfl
 | _ :: _, _, ⟨t, r, e, _, q⟩ => by rw [e, List.length_cons, List.length_cons, PickL.length q]
theorem PickL.get {H : Hp} : ∀ {ps : List (Nat × Bool)} {xs : List V} {i : Nat} {x : V}, PickL H ps xs → xs[i]? = some x → ∃ p t, ps[i]? = some p ∧ x = .ref t ∧ H t = some (.tup [.int (p.1 : Int), .bl p.2])
 | [], _, i, _, h, e => by rw [show _ = [] from h] at e; cases e
 | p :: ps, _, 0, x, ⟨t, r, e', h, q⟩, e => by rw [e'] at e; cases e; exact ⟨p, t, rfl, rfl, h⟩
 | p :: ps, _, i + 1, x, ⟨t, r, e', h, q⟩, e => by rw [e'] at e; obtain ⟨p', t', h1, h2⟩ := PickL.get (i := i) q (show r[i]? = some x from e); exact ⟨p', t', h1, h2⟩
theorem PickL.snoc {H : Hp} {p : Nat × Bool} {t : Addr} (ht : H t = some (.tup [.int (p.1 : Int), .bl p.2])) : ∀ {ps : List (Nat × Bool)} {xs : List V}, PickL H ps xs → PickL H (ps ++ [p]) (xs ++ [.ref t])
 | [], _, h => by rw [show _ = [] from h]; exact ⟨t, [], rfl, ht, rfl⟩
 | _ :: _, _, ⟨t', r, e, h, q⟩ => ⟨t', r ++ [.ref t], by rw [e]; rfl, h, PickL.snoc ht q⟩
def zaj (ps : List (Nat × Bool)) : Nat := ps.foldl (fun y p => if p.2 = true then y ||| 2 ^ p.1 else y) 1
def zau (ps : List (Nat × Bool)) : Nat := ps.foldl (fun n p => if p.2 = true then n else n ||| 2 ^ p.1) 0
theorem zgf (ps : List (Nat × Bool)) (p : Nat × Bool) : zaj (ps ++ [p]) = if p.2 = true then zaj ps ||| 2 ^ p.1 else zaj ps := by
 unfold zaj
 rw [List.foldl_append]
 rfl
theorem zho (ps : List (Nat × Bool)) (p : Nat × Bool) : zau (ps ++ [p]) = if p.2 = true then zau ps else zau ps ||| 2 ^ p.1 := by
 unfold zau
 rw [List.foldl_append]
 rfl
structure PicksAt (H : Hp) (pl : Addr) (ps : List (Nat × Bool)) : Prop where
 ex : ∃ xs, H pl = some (.lst xs) ∧ PickL H ps xs
 few : ps.length ≤ 20
 le : ∀ p ∈ ps, p.1 ≤ 20
theorem PicksAt.same {H H' : Hp} {pl : Addr} {ps : List (Nat × Bool)} (s : Same H H') (h : PicksAt H pl ps) : PicksAt H' pl ps := by
 obtain ⟨xs, h1, h2⟩ := h.ex
 exact ⟨⟨xs, s _ _ h1, h2.same (Same.tup s)⟩, h.few, h.le⟩
def zl6 : Sp := fun vs H Q _ => ∃ (pl : Addr) (ps : List (Nat × Bool)), vs = [.ref pl] ∧ PicksAt H pl ps ∧ ∀ (t : Addr) (H' : Hp), Same H H' → H' t = some (.tup [.int (zaj ps : Int), .int (zau ps : Int)]) → Q (.ref t) H'
def zto : Sp := fun vs H Q _ => ∃ (wd pl : Addr) (m : Nat) (xs ys : List V) (ps : List (Nat × Bool)), vs = [.ref wd, .ref pl] ∧ WoodAt H wd m xs ys ∧ m ≤ 900 ∧ PicksAt H pl ps ∧ ∀ (l : Addr) (H' : Hp), Same H H' → H l = none → H' l = some (.lst (zal (zas m (zaj ps) (zau ps)))) → Q (.ref l) H'
def zmu (ts : List Tie) (m y n : Nat) : Option Nat → Prop
 | none => ∀ s, s < 2 ^ m → InS y n s → zbg ts s = false
 | some s => s < 2 ^ m ∧ InS y n s ∧ zbg ts s = true ∧ ∀ s', s' < 2 ^ m → InS y n s' → zbg ts s' = true → s ≤ s'
def zrl : Sp := fun vs H Q _ => ∃ (wd pl : Addr) (m : Nat) (ts : List Tie) (ps : List (Nat × Bool)), vs = [.ref wd, .ref pl] ∧ WoodT H wd m ts ∧ m ≤ 9 ∧ 1 ≤ m ∧ PicksAt H pl ps ∧ Stand m (zaj ps) (zau ps) ∧ ∀ H' o, Same H H' → zmu ts m (zaj ps) (zau ps) o → Q (zhq o) H'
def zu6 : Sp := fun vs H Q _ => ∃ (wd pl tp : Addr) (m : Nat) (ts : List Tie) (ps : List (Nat × Bool)) (p : Nat × Bool), vs = [.ref wd, .ref pl, .ref tp] ∧ WoodT H wd m ts ∧ m ≤ 9 ∧ 1 ≤ m ∧ PicksAt H pl ps ∧ ps.length ≤ 19 ∧ p.1 ≤ 20 ∧ H tp = some (.tup [.int (p.1 : Int), .bl p.2]) ∧ Stand m (zaj (ps ++ [p])) (zau (ps ++ [p])) ∧ ∀ H' o, Same H H' → zmu ts m (zaj (ps ++ [p])) (zau (ps ++ [p])) o → Q (.bl (o.isSome)) H'
abbrev chF (wd pl : Addr) : List (Str × V) := [(("wood" : Str), .ref wd), (("picks" : Str), .ref pl)]
theorem zgo (H : Hp) : zc7 H H := fun _ _ h => h
theorem zed {H : Hp} {a : Addr} {o o' : HO} (h : H a = some o) (no : ∀ xs, o ≠ .tup xs) : zc7 H (upd H a o') := fun b xs hb => by
 have n : b ≠ a := fun z => by
  rw [z, h] at hb
  exact no xs (Option.some.inj hb)
 rw [zak n]
 exact hb
structure LstS (H H' : Hp) : Prop where
 lst : ∀ b xs, H b = some (.lst xs) → H' b = some (.lst xs)
 frz : ∀ b o u, H b = some (.frz o u) → H' b = some (.frz o u)
instance {H H' : Hp} : CoeFun (LstS H H') (fun _ => ∀ b xs, H b = some (.lst xs) → H' b = some (.lst xs)) := ⟨LstS.lst⟩
theorem znd {H H' : Hp} (s : Same H H') : LstS H H' := ⟨fun b xs h => s _ _ h, fun b o u h => s _ _ h⟩
theorem ze3 {H H1 H2 : Hp} (a : LstS H H1) (b : LstS H1 H2) : LstS H H2 := ⟨fun c xs h => b c xs (a c xs h), fun c o u h => b.frz c o u (a.frz c o u h)⟩
theorem zkt {H : Hp} {a : Addr} {o o' : HO} (h : H a = some o) (no : ∀ xs, o ≠ .lst xs) (nf : ∀ u v, o ≠ .frz u v := by intro _ _ z; cases z) : LstS H (upd H a o') := ⟨fun b xs hb => by
 have n : b ≠ a := fun z => by
  rw [z, h] at hb
  exact no xs (Option.some.inj hb)
 rw [zak n]
 exact hb, fun b u v hb => by
 have n : b ≠ a := fun z => by
  rw [z, h] at hb
  exact nf u v (Option.some.inj hb)
 rw [zak n]
 exact hb⟩
structure ChS (c : Addr) (H H' : Hp) : Prop where
 keep : ∀ b o, b ≠ c → (∀ ps, o ≠ .tbl ps) → H b = some o → H' b = some o
 tab : ∀ P, zcp H P → zcp H' P
 dom : ∀ b, H' b = none → H b = none
theorem ChS.lst {c : Addr} {H H' : Hp} (s : ChS c H H') {b : Addr} {xs : List V} (n : b ≠ c) (h : H b = some (.lst xs)) : H' b = some (.lst xs) := s.keep b _ n (fun _ z => nomatch z) h
theorem ChS.ins {c : Addr} {H H' : Hp} (s : ChS c H H') {b C dx : Addr} {fs : List (Str × V)} (n : b ≠ c) (h : H b = some (.ins C dx fs)) : H' b = some (.ins C dx fs) := s.keep b _ n (fun _ z => nomatch z) h
theorem zkv {c : Addr} {H H' : Hp} (s : Same H H') : ChS c H H' := ⟨fun b o _ n h => by
 have z := s b o h
 cases o
 case tbl ps => exact absurd rfl (n ps)
 all_goals exact z, fun _ t => s.tab t, fun _ h => s.free h⟩
theorem ze0 {c : Addr} {H H1 H2 : Hp} (a : ChS c H H1) (b : ChS c H1 H2) : ChS c H H2 := ⟨fun p o n t h => b.keep p o n t (a.keep p o n t h), fun P t => b.tab P (a.tab P t), fun p h => a.dom p (b.dom p h)⟩
theorem zgq {H : Hp} {c : Addr} {o o' : HO} (h : H c = some o) (nt : ∀ ps, o ≠ .tbl ps := by intro _ z; cases z) (ne : ∀ φ, o ≠ .ext φ := by intro _ z; cases z) : ChS c H (upd H c o') := ⟨fun b u n _ hb => by rw [zak n]; exact hb, fun P ⟨ps, hP, tr, hp⟩ => by
 have n : P ≠ c := fun z => by
  rw [z, h] at hP
  exact nt ps (Option.some.inj hP)
 refine ⟨ps, by rw [zak n]; exact hP, tr, fun pos => (hp pos).imp id fun ⟨q, z1, z2⟩ => ⟨q, z1, ?_⟩⟩
 have n2 : q ≠ c := fun z => by
  rw [z, h] at z2
  exact ne _ (Option.some.inj z2)
 rw [zak n2]
 exact z2, fun b hb => by
 by_cases z : b = c
 ·rw [z, zac] at hb
  cases hb
 ·rwa [zak z] at hb⟩
def zwp (C : Addr) : Sp := fun vs H Q _ => ∃ (c dx wd : Addr) (m : Nat) (ts : List Tie), vs = [.ref c, .ref wd] ∧ H c = some (.ins C dx []) ∧ WoodT H wd m ts ∧ m ≤ 9 ∧ 1 ≤ m ∧ (∃ s, s < 2 ^ m ∧ zbg ts s = true) ∧ ∀ (pl : Addr) (H' : Hp), zc7 H H' → LstS H H' → ChS c H H' → H pl = none → H' c = some (.ins C dx (chF wd pl)) → PicksAt H' pl [] → Q .non H'
def ztn (C : Addr) : Sp := fun vs H Q _ => ∃ (c dx wd pl : Addr) (m : Nat) (ts : List Tie) (ps : List (Nat × Bool)) (k : Nat) (b : Bool), vs = [.ref c, .int (k : Int), .bl b] ∧ H c = some (.ins C dx (chF wd pl)) ∧ PicksAt H pl ps ∧ WoodT H wd m ts ∧ m ≤ 9 ∧ 1 ≤ m ∧ ps.length ≤ 18 ∧ k ≤ 20 ∧
 k ∈ zas m (zaj ps) (zau ps) ∧ Stand m (zaj (ps ++ [(k, b)])) (zau (ps ++ [(k, b)])) ∧ (∃ s, s < 2 ^ m ∧ InS (zaj (ps ++ [(k, b)])) (zau (ps ++ [(k, b)])) s ∧ zbg ts s = true) ∧
 ∀ (H' : Hp), zc7 H H' → ChS pl H H' → H' c = some (.ins C dx (chF wd pl)) → PicksAt H' pl (ps ++ [(k, b)]) → Q .non H'
theorem zjm {ts : List Tie} {m y n : Nat} {o : Option Nat} (h : zmu ts m y n o) (w : ∃ s, s < 2 ^ m ∧ InS y n s ∧ zbg ts s = true) : ∃ s, o = some s := by
 obtain ⟨s, h1, h2, h3⟩ := w
 cases o with
 | none =>
  have := h s h1 h2
  rw [h3] at this
  cases this
 | some s' => exact ⟨s', rfl⟩
theorem zuq {m : Nat} (h : 1 ≤ m) : Stand m (zaj []) (zau []) := ⟨fun k _ => Nat.zero_testBit k, (by show 1 < 2 ^ m; exact Nat.one_lt_two_pow (by omega)), (by show 0 < 2 ^ m; exact Nat.pow_pos (by decide))⟩
theorem zsd {ts : List Tie} {s : Nat} (h : zbg ts s = true) : InS (zaj []) (zau []) s := ⟨fun k hk => by
 have hk' : Nat.testBit 1 k = true := hk
 rw [Nat.testBit_one_eq_true_iff_self_eq_zero] at hk'
 subst hk'
 unfold zbg at h
 exact (Bool.and_eq_true_iff.mp h).1, fun k hk => by
 have hk' : Nat.testBit 0 k = true := hk
 rw [Nat.zero_testBit] at hk'
 cases hk'⟩
end Wd
namespace L2
open PySem PySem.Spec PyProof.Rows
theorem zp0 {K : PySem.W.Frag} {X : Cx} {e : Expr} {f : Str} {pos : Pos} {ta : TE} (he : PE X e ta) (hb : attributeBase e f X.env (eval e X.env) = eval e X.env) (hK : X.K = K := by rfl) : PE X (.Attribute e f pos) (zxi K ta f) := hK ▸ zbl he hb
end L2
namespace Wd
open PySem L2 Ow
def zqs (C : Addr) : Sp := fun vs H Q _ => ∃ (c dx wd pl : Addr) (ps : List (Nat × Bool)), vs = [.ref c] ∧ H c = some (.ins C dx (chF wd pl)) ∧ PicksAt H pl ps ∧ ∀ (l : Addr) (H' : Hp), Same H H' → H l = none → PicksAt H' l ps → Q (.ref l) H'
def zug (K : PySem.W.Frag) : Sp := fun vs H Q _ => ∃ (pen sp : Addr) (ns : List Int) (most k : Int), vs = [.ref pen, .int most] ∧ Pen K H pen sp ns k ∧ 0 ≤ k ∧ k ≤ 700000 ∧ 0 ≤ most ∧ most ≤ 8 ∧
 ∀ (wd : Addr) (m : Nat) (bs cs : List PyData) (k' : Int) (H' : Hp), SameX pen H H' → H' pen = some (.lst [.ref sp, .int k']) → k ≤ k' → k' ≤ k + 400 → 1 ≤ m → m ≤ 9 → WoodX H' wd m bs cs → (cs.length : Int) ≤ most → Q (.ref wd) H'
def zv9 (r o : Bool) : Str := if r = true then (if o = true then "offer" else "wares") else "none"
def zsb (p : Addr) (C : Hp → Prop) (r o : Bool) (R : Hp → Hp → Prop) : Sp := fun vs H Q _ => vs = [.ref p] ∧ C H ∧ ∀ H', (r = true → Same H H') → (r = false → R H H') → Q (.str (zv9 r o)) H'
structure ztu (K : PySem.W.Frag) (D : Addr) (l : List Addr) (off wares up : Addr) (o : Bool) : Prop where
 x : zhi K D
 no : ∀ C ∈ l, PySem.W.kitOne K (.ref D) (.ref C) = some false
 off : PySem.W.kitOne K (.ref D) (.ref off) = some o
 wares : PySem.W.kitOne K (.ref D) (.ref wares) = some (!o)
 ve : PySem.W.kitOne K (.ref D) (.type "ValueError") = some true
 up : zon K D up = true
noncomputable def zc0 (ts : List Tie) (m y n : Nat) : Bool := @decide (∃ s, s < 2 ^ m ∧ InS y n s ∧ zbg ts s = true) (Classical.propDecidable _)
theorem leadP_iff {ts : List Tie} {m y n : Nat} : zc0 ts m y n = true ↔ ∃ s, s < 2 ^ m ∧ InS y n s ∧ zbg ts s = true := by
 unfold zc0
 exact @decide_eq_true_iff _ (Classical.propDecidable _)
theorem zhc {ts : List Tie} {m y n : Nat} {o : Option Nat} (h : zmu ts m y n o) : o.isSome = zc0 ts m y n := by
 rw [Bool.eq_iff_iff, leadP_iff]
 cases o with
 | none =>
  refine ⟨(fun z => nomatch z), fun ⟨s, h1, h2, h3⟩ => ?_⟩
  rw [h s h1 h2] at h3
  cases h3
 | some s => exact ⟨fun _ => ⟨s, h.1, h.2.1, h.2.2.1⟩, fun _ => rfl⟩
def zc3 (l : List Nat) : List (Nat × Bool) := l.flatMap fun k => [(k, false), (k, true)]
theorem zrg (l : List Nat) (k : Nat) : zc3 (l ++ [k]) = zc3 l ++ [(k, false), (k, true)] := by
 unfold zc3
 rw [List.flatMap_append]
 rfl
theorem zj6 (l : List Nat) : (zc3 l).length = 2 * l.length := by
 induction l with
 | nil => rfl
 | cons x l ih =>
  show ([(x, false), (x, true)] ++ zc3 l).length = 2 * (l.length + 1)
  rw [List.length_append, ih]
  show 2 + 2 * l.length = _
  omega
theorem zov {l : List Nat} {p : Nat × Bool} (h : p ∈ zc3 l) : p.1 ∈ l := by
 unfold zc3 at h
 obtain ⟨k, hk, hp⟩ := List.mem_flatMap.mp h
 simp only [List.mem_cons, List.not_mem_nil, or_false] at hp
 rcases hp with rfl | rfl <;> exact hk
noncomputable def zi9 (ts : List Tie) (m : Nat) (ps : List (Nat × Bool)) : List (Nat × Bool) := (zc3 (zas m (zaj ps) (zau ps))).filter fun p => zc0 ts m (zaj (ps ++ [p])) (zau (ps ++ [p]))
theorem zra {m y n k : Nat} (S : Stand m y n) (h : k ∈ zas m y n) : Stand m y (n ||| 2 ^ k) := by
 obtain ⟨km, ky, kn⟩ := mem_open.mp h
 refine ⟨fun j hj => ?_, S.ym, zmz S.nm km⟩
 have e : ¬ k = j := fun z => by rw [z, hj] at ky; cases ky
 rw [Nat.testBit_or, S.dj j hj, Nat.testBit_two_pow, decide_eq_false e]
 rfl
theorem zpa {m : Nat} {ps : List (Nat × Bool)} {p : Nat × Bool} (S : Stand m (zaj ps) (zau ps)) (h : p.1 ∈ zas m (zaj ps) (zau ps)) : Stand m (zaj (ps ++ [p])) (zau (ps ++ [p])) := by
 rw [zgf, zho]
 cases e : p.2
 ·rw [if_neg Bool.false_ne_true, if_neg Bool.false_ne_true]
  exact zra S h
 ·rw [if_pos rfl, if_pos rfl]
  exact S.one h
noncomputable def zsy (C : Addr) : Sp := fun vs H Q _ => ∃ (c dx wd pl : Addr) (m : Nat) (ts : List Tie) (ps : List (Nat × Bool)), vs = [.ref c] ∧ H c = some (.ins C dx (chF wd pl)) ∧ PicksAt H pl ps ∧ WoodT H wd m ts ∧ m ≤ 9 ∧ 1 ≤ m ∧ ps.length ≤ 18 ∧ Stand m (zaj ps) (zau ps) ∧ ∀ (l : Addr) (xs : List V) (H' : Hp), Same H H' → H l = none → H' l = some (.lst xs) → PickL H' (zi9 ts m ps) xs → Q (.ref l) H'
def zbw (p : Nat × Bool) : PyData := .tuple [.int (p.1 : Int), .bool p.2]
theorem PickL.dn {H : Hp} : ∀ {ps : List (Nat × Bool)} {xs : List V}, PickL H ps xs → DnL H (ps.map zbw) xs
 | [], _, h => h
 | _ :: _, _, ⟨t, r, e, h, q⟩ => ⟨_, _, e, ⟨t, _, rfl, h, _, _, rfl, rfl, _, _, rfl, rfl, rfl⟩, PickL.dn q⟩
theorem zlr : ∀ (ps : List (Nat × Bool)), PyData.canLayAll0 (ps.map zbw) = true ∧ PyData.depthAll (ps.map zbw) ≤ 3
 | [] => ⟨by decide, by decide⟩
 | p :: ps => by
  obtain ⟨a, b⟩ := zlr ps
  refine ⟨?_, ?_⟩
  ·simp only [List.map_cons, PyData.canLayAll0, a, Bool.and_true]
   simp [zbw, PyData.canLay0, PyData.canLayAll0]
  ·simp only [List.map_cons, PyData.depthAll]
   have : PyData.depth (zbw p) ≤ 3 := by simp only [zbw, PyData.depth, PyData.depthAll]; omega
   omega
theorem zb0 (ps : List (Nat × Bool)) : SeqAt.shaped (.list (ps.map zbw)) = true := by
 obtain ⟨a, b⟩ := zlr ps
 unfold SeqAt.shaped
 rw [Bool.and_eq_true]
 refine ⟨by simp [PyData.canLay0, a], decide_eq_true ?_⟩
 simp only [PyData.depth]
 omega
def zte (C : Hp → Prop) (D : Addr) (r : Bool) (R : Hp → Hp → Prop) : Sp := fun vs H Q E => vs = [] ∧ C H ∧ (r = true → ∀ H', Same H H' → E (.ref D) none H') ∧ (r = false → ∀ v H', R H H' → Q v H')
theorem zd6 {P : Program} {w : World} {K : PySem.W.Frag} {mg : Str → Option Value} {base : Heap} {p c D : Addr} {qual : Str} {params : Arguments} {body : Expr} {scope : Scope} {cl : List (Str × Addr)} {H1 : Hp} {fr : List Str} {fv : List V} {k : Nat} {r : Bool} (C0 : Hp → Prop) (R : Hp → Hp → Prop)
  (hp : H1 p = some (.ext (zjz p qual params body scope cl c)))
  (S : zhl [] fr scope) (hcl : ∀ x cc, cl.lookup x = some cc → ∃ v, base.IsCell cc v) (inj : ∀ x y cc, cl.lookup x = some cc → cl.lookup y = some cc → x = y) (has : ∀ y ∈ scope.names, y.2 = .free → ∃ cc, cl.lookup y.1 = some cc)
  (hfv : ∀ (i : Nat) (x : Str) (v : V), fr[i]? = some x → fv[i]? = some v → ∃ cc u, cl.lookup x = some cc ∧ RelV v u ∧ base.IsCell cc (some u)) (hlen : fv.length = fr.length)
  (hsame : ∀ pm ctv args, bindArgs (PySem.W.kla_fn "<lambda>" qual params body scope cl pm (.ref c) ctv) args = bindArgs (PySem.W.kla_fn "<lambda>" qual params body scope cl .none (.ref c) .none) args)
  (hbody : ∀ (q : Str) (A : Around) (outer : List Env) (s : Shared) (H : Hp) (Q : VK) (E : XK), Room k (A.deeper (PySem.W.envX q scope s.heap.objs.size p (.ref c) cl)) → C0 H → (r = true → ∀ H', Same H H' → E (.ref D) none H') → (r = false → ∀ v H', R H H' → Q v H') →
   ∃ t, PE (zmp P w K mg base ([] ++ fr) q scope p c cl A outer s H E) body t ∧ t (([] : List V).map some ++ fv.map some) H Q) :
  FnOk P w K mg base (CXR P w) (k + 1) p (PySem.W.kla_fn "<lambda>" qual params body scope cl .none (.ref c) .none) [] (zte (fun H => C0 H ∧ H p = some (.ext (zjz p qual params body scope cl c)) ∧ H c = some (.ext (zfq c))) D r R) := by
 refine zue S hcl inj has hfv hlen hsame (fun vs H Q E h => ?_) (fun vs H Q E h => ?_) (fun q A outer s H vs Q E hr h => ?_)
 ·obtain ⟨rfl, _⟩ := h
  rfl
 ·obtain ⟨rfl, ⟨_, h1, h2⟩, _⟩ := h
  exact ⟨h1, h2⟩
 ·obtain ⟨rfl, ⟨h0, _, _⟩, h1, h2⟩ := h
  exact hbody q A outer s H Q E hr h0 h1 h2
def woP (ps : List (Nat × Bool)) (k : Nat) : List (Nat × Bool) := ps.filter fun p => !decide (p.1 = k)
def zwj (C : Addr) : Sp := fun vs H Q _ => ∃ (c dx wd pl : Addr) (ps : List (Nat × Bool)) (k : Nat), vs = [.ref c, .int (k : Int)] ∧ H c = some (.ins C dx (chF wd pl)) ∧ PicksAt H pl ps ∧ k ∈ ps.map (·.1) ∧ ∀ (pl' : Addr) (H' : Hp), zc7 H H' → LstS H H' → ChS c H H' → H pl' = none → H' c = some (.ins C dx (chF wd pl')) → PicksAt H' pl' (woP ps k) → Q .non H'
def zpi : Sp := zl6
end Wd
namespace L2
open PySem PySem.Spec PyProof.Rows
theorem zpv {X : Cx} (hu : X.A.units + 65 < cLine) : OpR X (compareOp .In) (fun x y H Q => ∃ (d : PyData) (ds : List PyData), Dn H d x ∧ Dn H (.list ds) y ∧ SeqAt.shaped d = true ∧ SeqAt.shaped (.list ds) = true ∧ Q (.bl (ds.any fun e => PyData.eqv e d)) H) := by
 intro pins s σ H x y v u Q I rx ry h
 obtain ⟨d, ds, hd, he, sd, se, q⟩ := h
 obtain ⟨as, ra⟩ := Dn.reads I d x v hd (SeqAt.canLay_of_shaped sd) rx
 obtain ⟨bs, rb⟩ := Dn.reads I (.list ds) y u he (SeqAt.canLay_of_shaped se) ry
 exact SeqAt.in_list_reads rb ra (SeqAt.canLay_of_shaped se) (SeqAt.canLay_of_shaped sd) (room_in_shaped sd hu) ⟨.bl _, H, I, rfl, q⟩
theorem Room.units65 {k : Nat} {A : Around} (r : Room k A) : A.units + 65 < cLine := by have := r.un; omega
end L2
namespace Wd
open PySem L2 Ow
structure KeepA (ex : List Addr) (H H' : Hp) : Prop where
 keep : ∀ b o, b ∉ ex → (∀ ps, o ≠ .tbl ps) → H b = some o → H' b = some o
 tab : ∀ P, zcp H P → zcp H' P
 dom : ∀ b, H' b = none → H b = none
theorem KeepA.refl (ex : List Addr) (H : Hp) : KeepA ex H H := ⟨fun _ _ _ _ h => h, fun _ h => h, fun _ h => h⟩
theorem KeepA.same {ex : List Addr} {H H1 H2 : Hp} (k : KeepA ex H H1) (s : Same H1 H2) : KeepA ex H H2 := ⟨fun b o n t h => (zkv (c := b + 1) s).keep b o (Nat.ne_of_lt (Nat.lt_succ_self b)) t (k.keep b o n t h), fun P t => s.tab (k.tab P t), fun b h => k.dom b (s.free h)⟩
theorem KeepA.ch {ex : List Addr} {c : Addr} {H H1 H2 : Hp} (k : KeepA ex H H1) (s : ChS c H1 H2) (hc : c ∈ ex ∨ H c = none) : KeepA ex H H2 := ⟨fun b o n t h => s.keep b o (fun z => by
 rcases hc with hc | hc
 ·rw [z] at n; exact n hc
 ·rw [z, hc] at h; cases h) t (k.keep b o n t h), fun P t => s.tab P (k.tab P t), fun b h => k.dom b (s.dom b h)⟩
theorem KeepA.pen {ex : List Addr} {pen : Addr} {ys ys' : List V} {H H1 H2 : Hp} (k : KeepA ex H H1) (s : SameX pen H1 H2) (hp : pen ∈ ex ∨ H pen = none) (h1 : H1 pen = some (.lst ys)) (h2 : H2 pen = some (.lst ys')) : KeepA ex H H2 := ⟨fun b o n t h => by
 have z := s b o (fun y => by
  rcases hp with hp | hp
  ·rw [y] at n; exact n hp
  ·rw [y, hp] at h; cases h) (k.keep b o n t h)
 cases o
 case tbl ps => exact absurd rfl (t ps)
 all_goals exact z, fun P t => SameX.tab s h1 (k.tab P t), fun b h => k.dom b (s.free ⟨_, h2⟩ h)⟩
theorem KeepA.lst {ex : List Addr} {H H' : Hp} (k : KeepA ex H H') {b : Addr} {xs : List V} (n : b ∉ ex) (h : H b = some (.lst xs)) : H' b = some (.lst xs) := k.keep b _ n (fun _ z => nomatch z) h
theorem zge {K : PySem.W.Frag} {H H' : Hp} {pen sp : Addr} {ns : List Int} {k : Int} (hS : SqL K H sp (ns.map V.int)) (hl : ns.length ≤ 63) (kp : KeepA [] H H') (hp : H pen = none) (e : H' pen = some (.lst [.ref sp, .int k])) : Pen K H' pen sp ns k := by
 refine ⟨e, hl, fun H2 s2 => ?_⟩
 have n : ∀ o, H sp = some o → sp ≠ pen := fun o h z => by rw [z, hp] at h; cases h
 rcases hS with (h | ⟨o, h⟩) | h
 ·exact .inl (.inl (s2 _ _ (n _ h) (kp.keep _ _ (fun z => nomatch z) (by intro _ z; cases z) h)))
 ·exact .inl (.inr ⟨o, s2 _ _ (n _ h) (kp.keep _ _ (fun z => nomatch z) (by intro _ z; cases z) h)⟩)
 ·exact .inr h
def zf1 (B : List Nat) (ti : Int) (y n s : Nat) : Bool := decide (s &&& y = y) && (decide (s &&& n = 0) && decide (Builtin.bitAnd (((B[s]?).getD 0 : Nat) : Int) ti = 0))
def zgx (B : List Nat) (ti : Int) (y n : Nat) : List Nat := (List.range B.length).filter (zf1 B ti y n)
def zvf : Sp := fun vs H Q _ => ∃ (bl pl : Addr) (B : List Nat) (ti : Int) (ps : List (Nat × Bool)), vs = [.ref bl, .int ti, .ref pl] ∧ H bl = some (.lst (zal B)) ∧ B.length ≤ 512 ∧ PicksAt H pl ps ∧ ∀ (l : Addr) (H' : Hp), Same H H' → H l = none → H' l = some (.lst (zal (zgx B ti (zaj ps) (zau ps)))) → Q (.ref l) H'
theorem ztx (x : Nat) : Builtin.bitAnd (x : Int) (-1) = (x : Int) := by
 unfold Builtin.bitAnd
 rw [decide_eq_true (show (0 : Int) ≤ (x : Int) by omega), decide_eq_false (show ¬ (0 : Int) ≤ -1 by omega)]
 show (x : Int) - ((x : Int).toNat &&& (Builtin.bitNot (-1)).toNat : Nat) = _
 rw [show (Builtin.bitNot (-1)).toNat = 0 by decide, Nat.and_zero]
 omega
theorem in_iff {y n s : Nat} : InS y n s ↔ s &&& y = y ∧ s &&& n = 0 := ⟨fun h => ⟨land_yes.mpr h.1, land_no.mpr h.2⟩, fun h => ⟨land_yes.mp h.1, land_no.mp h.2⟩⟩
def brN (m : Nat) (ts : List Tie) : List Nat := (List.range (2 ^ m)).map fun s => brk ts s ts.length
theorem zh6 (m : Nat) (ts : List Tie) : (brN m ts).length = 2 ^ m := by
 unfold brN
 rw [List.length_map, List.length_range]
theorem ztw {m s : Nat} {ts : List Tie} (h : s < 2 ^ m) : (brN m ts)[s]? = some (brk ts s ts.length) := by
 unfold brN
 rw [List.getElem?_map, List.getElem?_range h]
 rfl
theorem zjo {m s y n : Nat} {ts : List Tie} (y0 : y.testBit 0 = true) : s ∈ zgx (brN m ts) (-1) y n ↔ s < 2 ^ m ∧ InS y n s ∧ zbg ts s = true := by
 unfold zgx
 rw [List.mem_filter, List.mem_range, zh6]
 constructor
 ·rintro ⟨h1, h2⟩
  unfold zf1 at h2
  rw [ztw h1, Option.getD_some, ztx] at h2
  simp only [Bool.and_eq_true, decide_eq_true_eq] at h2
  have i := in_iff.mpr ⟨h2.1, h2.2.1⟩
  refine ⟨h1, i, ?_⟩
  unfold zbg
  rw [i.1 0 y0, Bool.true_and, List.all_eq_true]
  exact (znz ts s).mp (by omega)
 ·rintro ⟨h1, i, h3⟩
  refine ⟨h1, ?_⟩
  unfold zf1
  rw [ztw h1, Option.getD_some, ztx]
  simp only [Bool.and_eq_true, decide_eq_true_eq]
  unfold zbg at h3
  rw [Bool.and_eq_true, List.all_eq_true] at h3
  have := (znz ts s).mpr h3.2
  exact ⟨(in_iff.mp i).1, (in_iff.mp i).2, by omega⟩
theorem zey (ps : List (Nat × Bool)) : (zaj ps).testBit 0 = true := by
 have : ∀ (ps : List (Nat × Bool)) (y : Nat), y.testBit 0 = true → (ps.foldl (fun y p => if p.2 = true then y ||| 2 ^ p.1 else y) y).testBit 0 = true := by
  intro ps
  induction ps with
  | nil => intro y h; exact h
  | cons p ps ih =>
   intro y h
   rw [List.foldl_cons]
   refine ih _ ?_
   split
   ·rw [Nat.testBit_or, h]; rfl
   ·exact h
 exact this ps 1 (by decide)
theorem zr5 {m : Nat} {ts : List Tie} : zgx (brN m ts) (-1) (zaj []) (zau []) = zhp m ts := by
 unfold zgx zhp
 rw [zh6]
 refine List.filter_congr fun s hs => ?_
 have h1 := List.mem_range.mp hs
 rw [Bool.eq_iff_iff]
 have e : s ∈ zgx (brN m ts) (-1) (zaj []) (zau []) ↔ zf1 (brN m ts) (-1) (zaj []) (zau []) s = true := by
  unfold zgx
  rw [List.mem_filter, List.mem_range, zh6]
  exact ⟨fun z => z.2, fun z => ⟨h1, z⟩⟩
 rw [← e, zjo (zey [])]
 exact ⟨fun z => z.2.2, fun z => ⟨h1, zsd z, z⟩⟩
theorem zcb : ∀ (ps : List (Nat × Bool)) (k : Nat), (zaj ps).testBit k = true ↔ k = 0 ∨ (k, true) ∈ ps := by
 have aa : ∀ (ps : List (Nat × Bool)) (y k : Nat), (ps.foldl (fun y p => if p.2 = true then y ||| 2 ^ p.1 else y) y).testBit k = true ↔ y.testBit k = true ∨ (k, true) ∈ ps := by
  intro ps
  induction ps with
  | nil => intro y k; simp
  | cons p ps ih =>
   intro y k
   rw [List.foldl_cons, ih, List.mem_cons]
   obtain ⟨j, b⟩ := p
   cases b
   ·simp
   ·rw [if_pos rfl, Nat.testBit_or, Nat.testBit_two_pow, Bool.or_eq_true, decide_eq_true_iff, Prod.mk.injEq]
    constructor
    ·rintro ((z | z) | z)
     ·exact .inl z
     ·exact .inr (.inl ⟨z.symm, rfl⟩)
     ·exact .inr (.inr z)
    ·rintro (z | ⟨z, _⟩ | z)
     ·exact .inl (.inl z)
     ·exact .inl (.inr z.symm)
     ·exact .inr z
 intro ps k
 rw [show zaj ps = ps.foldl (fun y p => if p.2 = true then y ||| 2 ^ p.1 else y) 1 from rfl, aa, Nat.testBit_one_eq_true_iff_self_eq_zero]
theorem zd0 : ∀ (ps : List (Nat × Bool)) (k : Nat), (zau ps).testBit k = true ↔ (k, false) ∈ ps := by
 have aa : ∀ (ps : List (Nat × Bool)) (y k : Nat), (ps.foldl (fun n p => if p.2 = true then n else n ||| 2 ^ p.1) y).testBit k = true ↔ y.testBit k = true ∨ (k, false) ∈ ps := by
  intro ps
  induction ps with
  | nil => intro y k; simp
  | cons p ps ih =>
   intro y k
   rw [List.foldl_cons, ih, List.mem_cons]
   obtain ⟨j, b⟩ := p
   cases b
   ·rw [if_neg Bool.false_ne_true, Nat.testBit_or, Nat.testBit_two_pow, Bool.or_eq_true, decide_eq_true_iff, Prod.mk.injEq]
    constructor
    ·rintro ((z | z) | z)
     ·exact .inl z
     ·exact .inr (.inl ⟨z.symm, rfl⟩)
     ·exact .inr (.inr z)
    ·rintro (z | ⟨z, _⟩ | z)
     ·exact .inl (.inl z)
     ·exact .inl (.inr z.symm)
     ·exact .inr z
   ·simp
 intro ps k
 rw [show zau ps = ps.foldl (fun n p => if p.2 = true then n else n ||| 2 ^ p.1) 0 from rfl, aa, Nat.zero_testBit]
 simp
theorem zjn (p q : Nat × Bool) : PyData.eqv (zbw p) (zbw q) = decide (p = q) := by
 obtain ⟨a, b⟩ := p
 obtain ⟨c, d⟩ := q
 rw [Bool.eq_iff_iff, decide_eq_true_iff, Prod.mk.injEq]
 cases b <;> cases d <;> simp [zbw, PyData.eqv, PyData.eqvAll] <;> omega
theorem ztc (p : Nat × Bool) (l : List (Nat × Bool)) : ((l.map zbw).any fun e => PyData.eqv e (zbw p)) = decide (p ∈ l) := by
 rw [List.any_map, Bool.eq_iff_iff, decide_eq_true_iff, List.any_eq_true]
 constructor
 ·rintro ⟨x, hx, e⟩
  rw [Function.comp_apply, zjn, decide_eq_true_iff] at e
  rw [← e]
  exact hx
 ·intro h
  exact ⟨p, h, by rw [Function.comp_apply, zjn]; exact decide_eq_true rfl⟩
theorem ziw (p : Nat × Bool) : SeqAt.shaped (zbw p) = true := by
 unfold SeqAt.shaped
 rw [Bool.and_eq_true]
 exact ⟨by simp [zbw, PyData.canLay0, PyData.canLayAll0], decide_eq_true (by simp only [zbw, PyData.depth, PyData.depthAll]; omega)⟩
theorem zne {w : Nat → Nat} (h : ∀ k, 1 ≤ w k) : ∀ (ks : List Nat) (j : Nat) (g : Nat → Nat), j ≤ ks.length → 1 ≤ g j → 1 ≤ zjb w ks g
 | [], 0, g, _, h1 => h1
 | [], _ + 1, _, hj, _ => absurd hj (Nat.not_succ_le_zero _)
 | c :: cs, j, g, hj, h1 => by
  show 1 ≤ zjb w cs g + w c * zjb w cs fun j => g (j + 1)
  by_cases z : j ≤ cs.length
  ·have := zne h cs j g z h1
   omega
  ·obtain ⟨i, rfl⟩ : ∃ i, j = i + 1 := ⟨j - 1, by omega⟩
   have := zne h cs i (fun j => g (j + 1)) (by rw [List.length_cons] at hj; omega) h1
   have := Nat.mul_le_mul (h c) this
   omega
theorem zxr {m : Nat} {b : Bg} (ok : Tie.BoughOk m b.u b.lo b.hi b.ks) {w : Nat → Nat} (h : ∀ k, 1 ≤ w k) : 1 ≤ b.F w := by
 have h1 := ok.lo0
 have h2 := ok.lohi
 have h3 := ok.hik
 refine zne h b.ks b.lo.toNat b.ind (by omega) ?_
 unfold Bg.ind
 rw [decide_eq_true (by omega), decide_eq_true (by omega)]
 exact Nat.le_refl 1
theorem zou {m : Nat} : ∀ (L : List Bg) (w : Nat → Nat), (∀ b ∈ L, Tie.BoughOk m b.u b.lo b.hi b.ks) → (∀ k, 1 ≤ w k) → ∀ k, 1 ≤ L.foldl zgi w k
 | [], _, _, h, k => h k
 | b :: L, w, ok, h, k => by
  rw [List.foldl_cons]
  refine zou L _ (fun x hx => ok x (List.mem_cons_of_mem _ hx)) (fun j => ?_) k
  unfold zgi
  split
  ·exact Nat.mul_le_mul (h j) (zxr (ok b List.mem_cons_self) h)
  ·exact h j
theorem zru {m : Nat} {L : List Bg} (T : TreeB m L) : ∃ s, s < 2 ^ m ∧ zbg (L.map Bg.tie) s = true := by
 have p : 1 ≤ zsk m L 0 := zou (m := m) _ _ (fun b hb => T.ok b ((zf7 T.lt).mp hb)) (fun _ => Nat.le_refl 1) 0
 rw [← zpn T] at p
 cases e : zhp m (L.map Bg.tie) with
 | nil => rw [e] at p; exact absurd p (by decide)
 | cons s r => exact ⟨s, mem_wareL.mp (by rw [e]; exact List.mem_cons_self)⟩
theorem WoodX.bare {H : Hp} {wd : Addr} {m : Nat} {bs : List PyData} (h : WoodX H wd m bs []) : ∃ ts : List Tie, (∃ s, s < 2 ^ m ∧ zbg ts s = true) ∧ (∀ t ∈ ts, t.Ok m) ∧ ts.length ≤ 29 ∧ ∀ H', zc7 H H' → WoodT H' wd m ts := by
 obtain ⟨L, e, f⟩ := zub h rfl
 have B := f H (zgo H)
 exact ⟨L.map Bg.tie, zru B.T, B.woodT.ok, by rw [List.length_map]; have := B.few; omega, fun H' t => (f H' t).woodT⟩
theorem WoodX.cut {H H' : Hp} {wd wd' tb tc te : Addr} {m : Nat} {bs cs : List PyData} (h : WoodX H wd m bs cs) (hw : H wd = some (.tup [.int (m : Int), .ref tb, .ref tc])) (t : zc7 H H') (h1 : H' wd' = some (.tup [.int (m : Int), .ref tb, .ref te])) (h2 : H' te = some (.tup [])) : WoodX H' wd' m bs [] := by
 obtain ⟨xs, ys, ⟨aa, ac, w1, w2, w3⟩, db, dc⟩ := h.ex
 rw [hw] at w1
 have e : tb = aa := by
  injection w1 with w1
  injection w1 with w1
  injection w1 with _ w1
  injection w1 with w1 _
  injection w1
 subst e
 exact ⟨⟨xs, [], ⟨tb, te, h1, t _ _ w2, h2⟩, DnL.tupS t h.fb db, rfl⟩, h.gb, (fun _ z => nomatch z), h.b8, Nat.zero_le _, h.fb, rfl, h.m1, h.m9⟩
structure PickOk (m : Nat) (ps : List (Nat × Bool)) : Prop where
 in_ : ∀ p ∈ ps, 1 ≤ p.1 ∧ p.1 < m
 nd : (ps.map (·.1)).Nodup
theorem PickOk.nil (m : Nat) : PickOk m [] := ⟨fun _ z => (nomatch z), List.nodup_nil⟩
theorem znp : ∀ {m : Nat} {l : List Nat}, l.Nodup → (∀ k ∈ l, k < m) → l.length ≤ m
 | 0, [], _, _ => Nat.le_refl _
 | 0, k :: l, _, h => absurd (h k List.mem_cons_self) (Nat.not_lt_zero _)
 | m + 1, l, nd, h => by
  have h1 : (l.filter (· ≠ m)).length ≤ m := znp (nd.filter _) fun k hk => by
   obtain ⟨a, b⟩ := List.mem_filter.mp hk
   have := h k a
   have : k ≠ m := by simpa using b
   omega
  have h2 : l.length ≤ (l.filter (· ≠ m)).length + 1 := by
   clear h1 h
   induction l with
   | nil => exact Nat.zero_le _
   | cons x l ih =>
    obtain ⟨hx, aa⟩ := List.nodup_cons.mp nd
    by_cases e : x = m
    ·have : l.filter (· ≠ m) = l := List.filter_eq_self.mpr fun k hk => by
      have : k ≠ m := fun z => hx (by rw [e, ← z]; exact hk)
      simpa using this
     rw [List.filter_cons_of_neg (by simpa using e), this]
     exact Nat.le_refl _
    ·rw [List.filter_cons_of_pos (by simpa using e)]
     have := ih aa
     simp only [List.length_cons]
     omega
  omega
theorem PickOk.len {m : Nat} {ps : List (Nat × Bool)} (h : PickOk m ps) : ps.length ≤ m := by
 have := znp h.nd fun k hk => by
  obtain ⟨p, hp, rfl⟩ := List.mem_map.mp hk
  exact (h.in_ p hp).2
 rwa [List.length_map] at this
theorem PickOk.one {m : Nat} {ps : List (Nat × Bool)} (h : PickOk m ps) {k : Nat} (h1 : (k, true) ∈ ps) (h2 : (k, false) ∈ ps) : False := by
 have nd := h.nd
 clear h
 induction ps with
 | nil => cases h1
 | cons p ps ih =>
  rw [List.map_cons, List.nodup_cons] at nd
  rcases List.mem_cons.mp h1 with e | e <;> rcases List.mem_cons.mp h2 with e' | e'
  ·rw [← e] at e'; cases e'
  ·exact nd.1 (by rw [← e]; exact List.mem_map.mpr ⟨_, e', rfl⟩)
  ·exact nd.1 (by rw [← e']; exact List.mem_map.mpr ⟨_, e, rfl⟩)
  ·exact ih e e' nd.2
theorem PickOk.stand {m : Nat} {ps : List (Nat × Bool)} (m1 : 1 ≤ m) (h : PickOk m ps) : Stand m (zaj ps) (zau ps) := by
 refine ⟨fun k hk => ?_, Nat.lt_pow_two_of_testBit _ fun k hk => ?_, Nat.lt_pow_two_of_testBit _ fun k hk => ?_⟩
 ·rw [Bool.eq_false_iff]
  intro z
  have z := (zd0 ps k).mp z
  rcases (zcb ps k).mp hk with y | y
  ·have := (h.in_ _ z).1
   simp only at this
   omega
  ·exact h.one y z
 ·rw [Bool.eq_false_iff]
  intro z
  rcases (zcb ps k).mp z with y | y
  ·omega
  ·have := (h.in_ _ y).2
   simp only at this
   omega
 ·rw [Bool.eq_false_iff]
  intro z
  have := (h.in_ _ ((zd0 ps k).mp z)).2
  simp only at this
  omega
theorem mem_openP {m k : Nat} {ps : List (Nat × Bool)} : k ∈ zas m (zaj ps) (zau ps) ↔ k < m ∧ 1 ≤ k ∧ k ∉ ps.map (·.1) := by
 rw [mem_open]
 constructor
 ·rintro ⟨h1, h2, h3⟩
  refine ⟨h1, ?_, fun z => ?_⟩
  ·by_cases e : k = 0
   ·rw [e, zey] at h2
    cases h2
   ·omega
  ·obtain ⟨⟨j, b⟩, hp, e⟩ := List.mem_map.mp z
   cases (show j = k from e)
   cases b
   ·rw [(zd0 ps k).mpr hp] at h3
    cases h3
   ·rw [(zcb ps k).mpr (.inr hp)] at h2
    cases h2
 ·rintro ⟨h1, h2, h3⟩
  refine ⟨h1, ?_, ?_⟩ <;> rw [Bool.eq_false_iff] <;> intro z
  ·rcases (zcb ps k).mp z with y | y
   ·omega
   ·exact h3 (List.mem_map.mpr ⟨_, y, rfl⟩)
  ·exact h3 (List.mem_map.mpr ⟨_, (zd0 ps k).mp z, rfl⟩)
theorem PickOk.snoc {m k : Nat} {b : Bool} {ps : List (Nat × Bool)} (h : PickOk m ps) (ho : k ∈ zas m (zaj ps) (zau ps)) : PickOk m (ps ++ [(k, b)]) := by
 obtain ⟨h1, h2, h3⟩ := mem_openP.mp ho
 refine ⟨fun p hp => ?_, ?_⟩
 ·rcases List.mem_append.mp hp with z | z
  ·exact h.in_ p z
  ·rw [List.mem_singleton.mp z]
   exact ⟨h2, h1⟩
 ·rw [List.map_append, List.nodup_append]
  refine ⟨h.nd, by simp, fun x hx y hy => ?_⟩
  rw [List.map_cons, List.map_nil] at hy
  rw [List.mem_singleton.mp hy]
  intro z
  rw [z] at hx
  exact h3 hx
theorem PickOk.wo {m k : Nat} {ps : List (Nat × Bool)} (h : PickOk m ps) : PickOk m (woP ps k) :=
 ⟨fun p hp => h.in_ p (List.mem_filter.mp hp).1, h.nd.sublist (List.Sublist.map _ List.filter_sublist)⟩
noncomputable def zyg (ts : List Tie) (m : Nat) (ps : List (Nat × Bool)) (p : Nat × Bool) : Bool := !decide (p.1 ∈ ps.map (·.1)) && zc0 ts m (zaj (ps ++ [p])) (zau (ps ++ [p]))
noncomputable def zu9 (ts : List Tie) (m : Nat) (ps : List (Nat × Bool)) (i : Nat) : List (Nat × Bool) := (zc3 ((List.range i).map (· + 1))).filter (zyg ts m ps)
theorem ziz (f : Nat → Bool) (g : Nat × Bool → Bool) : ∀ l : List Nat, (zc3 (l.filter f)).filter g = (zc3 l).filter fun p => f p.1 && g p
 | [] => rfl
 | k :: l => by
  show _ = List.filter _ ([(k, false), (k, true)] ++ zc3 l)
  rw [List.filter_append, ← ziz f g l]
  cases e : f k
  ·rw [List.filter_cons_of_neg (by rw [e]; exact Bool.false_ne_true)]
   simp [e]
  ·rw [List.filter_cons_of_pos e]
   show List.filter g ([(k, false), (k, true)] ++ zc3 (l.filter f)) = _
   rw [List.filter_append]
   congr 1
   cases a : g (k, false) <;> cases b : g (k, true) <;> simp [e, a, b]
theorem zwr {ts : List Tie} {m : Nat} {ps : List (Nat × Bool)} (m1 : 1 ≤ m) : zi9 ts m ps = zu9 ts m ps (m - 1) := by
 unfold zi9 zu9
 have e : zas m (zaj ps) (zau ps) = ((List.range (m - 1)).map (· + 1)).filter fun k => !decide (k ∈ ps.map (·.1)) := by
  obtain ⟨m', rfl⟩ : ∃ m', m = m' + 1 := ⟨m - 1, by omega⟩
  have h : zas (m' + 1) (zaj ps) (zau ps) = (List.range (m' + 1)).filter fun k => decide (1 ≤ k) && !decide (k ∈ ps.map (·.1)) := by
   have : ∀ k ∈ List.range (m' + 1), (!(zaj ps ||| zau ps).testBit k) = (decide (1 ≤ k) && !decide (k ∈ ps.map (·.1))) := fun k hk => by
    have aa := List.mem_range.mp hk
    rw [Bool.eq_iff_iff]
    have := mem_openP (m := m' + 1) (k := k) (ps := ps)
    rw [mem_open] at this
    rw [Bool.not_eq_true', Nat.testBit_or, Bool.or_eq_false_iff, Bool.and_eq_true, decide_eq_true_iff, Bool.not_eq_true', decide_eq_false_iff_not]
    exact ⟨fun z => (this.mp ⟨aa, z⟩).2, fun z => (this.mpr ⟨aa, z⟩).2⟩
   exact List.filter_congr this
  rw [h, List.range_succ_eq_map, List.filter_cons_of_neg (by rw [decide_eq_false (show ¬ 1 ≤ 0 by omega)]; exact Bool.false_ne_true), Nat.add_sub_cancel]
  refine List.filter_congr fun k hk => ?_
  obtain ⟨j, _, rfl⟩ := List.mem_map.mp hk
  simp
 rw [e, ziz]
 rfl
theorem zsv (ts : List Tie) (m : Nat) (ps : List (Nat × Bool)) (i : Nat) : (zu9 ts m ps i).length ≤ 2 * i := by
 unfold zu9
 refine Nat.le_trans (List.length_filter_le _ _) ?_
 rw [zj6, List.length_map, List.length_range]
 exact Nat.le_refl _
theorem sets_lead {ts : List Tie} {m : Nat} {ps : List (Nat × Bool)} : (zgx (brN m ts) (-1) (zaj ps) (zau ps) = []) ↔ zc0 ts m (zaj ps) (zau ps) = false := by
 rw [Bool.eq_false_iff]
 constructor
 ·intro h z
  obtain ⟨s, hs⟩ := leadP_iff.mp z
  have := (zjo (zey ps)).mpr hs
  rw [h] at this
  cases this
 ·intro h
  rw [List.eq_nil_iff_forall_not_mem]
  intro s hs
  exact h (leadP_iff.mpr ⟨s, (zjo (zey ps)).mp hs⟩)
structure Clo (base : Heap) (scope : Scope) (cl : List (Str × Addr)) (fr : List Str) (fv : List V) : Prop where
 hcl : ∀ x cc, cl.lookup x = some cc → ∃ v, base.IsCell cc v
 inj : ∀ x y cc, cl.lookup x = some cc → cl.lookup y = some cc → x = y
 has : ∀ y ∈ scope.names, y.2 = .free → ∃ cc, cl.lookup y.1 = some cc
 hfv : ∀ (i : Nat) (x : Str) (v : V), fr[i]? = some x → fv[i]? = some v → ∃ cc u, cl.lookup x = some cc ∧ RelV v u ∧ base.IsCell cc (some u)
 hlen : fv.length = fr.length
theorem zqz {sc : Scope} {env : Env} {p : Str × Addr} (h : p ∈ zfh sc env) : (p.1, NameKind.free) ∈ sc.names := by
 have aa : ∀ (l : List (Str × NameKind)) (cs : List (Str × Addr)), p ∈ l.foldl (fun cs y => if (y.2 == NameKind.free) = true then (y.1, (env.cells.lookup y.1).getD 0) :: cs else cs) cs → p ∈ cs ∨ (p.1, NameKind.free) ∈ l := by
  intro l
  induction l with
  | nil => intro cs h; exact .inl h
  | cons y l ih =>
   intro cs h
   rw [List.foldl_cons] at h
   rcases ih _ h with z | z
   ·split at z
    ·rename_i hy
     rcases List.mem_cons.mp z with e | e
     ·right
      rw [e]
      have : y.2 = NameKind.free := beq_iff_eq.mp hy
      rw [← this]
      exact List.mem_cons_self
     ·exact .inl e
    ·exact .inl z
   ·exact .inr (List.mem_cons_of_mem _ z)
 rcases aa sc.names [] h with z | z
 ·cases z
 ·exact z
theorem zg5 {base : Heap} {scope : Scope} {env : Env} {fr : List Str} {fv : List V} (LF : ∀ y ∈ scope.names, y.2 = .free → ∃ c, env.cells.lookup y.1 = some c) (hfr : ∀ y ∈ scope.names, y.2 = NameKind.free → y.1 ∈ fr) (hfr' : ∀ x ∈ fr, (x, NameKind.free) ∈ scope.names)
  (cells : ∀ (i : Nat) (x : Str) (v : V), fr[i]? = some x → fv[i]? = some v → ∃ c u, env.cells.lookup x = some c ∧ RelV v u ∧ base.IsCell c (some u)) (injE : ∀ x y c, env.cells.lookup x = some c → env.cells.lookup y = some c → x = y) (hlen : fv.length = fr.length) : Clo base scope (zfh scope env) fr fv := by
 refine ⟨fun x cc h => ?_, fun x y cc h1 h2 => injE x y cc (zbm LF h1) (zbm LF h2), fun y hy hz => ?_, fun i x v h1 h2 => ?_, hlen⟩
 ·have hx := hfr _ (zqz (PySem.mem_of_lookup h)) rfl
  obtain ⟨i, hi, e⟩ := List.getElem_of_mem hx
  obtain ⟨c, u, h1, h2, h3⟩ := cells i x fv[i] (by rw [List.getElem?_eq_getElem hi, e]) (List.getElem?_eq_getElem (by omega))
  have := zbm LF h
  rw [h1] at this
  cases this
  exact ⟨_, h3⟩
 ·obtain ⟨c, hc⟩ := LF y hy hz
  exact ⟨c, zgr LF (by rw [← hz]; exact hy) hc⟩
 ·obtain ⟨c, u, e1, e2, e3⟩ := cells i x v h1 h2
  exact ⟨c, u, zgr LF (hfr' x (List.mem_of_getElem? h1)) e1, e2, e3⟩
theorem zwx {x1 x2 x3 x y : Str} {n c : Nat} (h1 : [(x3, n + 3), (x2, n + 2), (x1, n + 1)].lookup x = some c) (h2 : [(x3, n + 3), (x2, n + 2), (x1, n + 1)].lookup y = some c) : x = y := by
 rcases zqi h1 with ⟨rfl, z1⟩ | ⟨rfl, z1⟩ | ⟨rfl, z1⟩ <;> rcases zqi h2 with ⟨rfl, z2⟩ | ⟨rfl, z2⟩ | ⟨rfl, z2⟩ <;> first | rfl | exact absurd (Nat.add_left_cancel (z1.symm.trans z2)) (by decide)
def zrh (C D : Addr) : Sp := fun vs H _ E => ∃ (c dx wd pl : Addr) (m : Nat) (ts : List Tie) (ps : List (Nat × Bool)) (k : Int) (b : Bool), vs = [.ref c, .int k, .bl b] ∧ H c = some (.ins C dx (chF wd pl)) ∧ PicksAt H pl ps ∧ WoodT H wd m ts ∧ m ≤ 9 ∧ 1 ≤ m ∧ PickOk m ps ∧
 (∀ kn : Nat, k = kn → kn ∈ zas m (zaj ps) (zau ps) → zc0 ts m (zaj (ps ++ [(kn, b)])) (zau (ps ++ [(kn, b)])) = false) ∧ ∀ H', Same H H' → E (.ref D) none H'
def zvc (C D : Addr) : Sp := fun vs H _ E => ∃ (c dx wd pl : Addr) (ps : List (Nat × Bool)) (k : Int), vs = [.ref c, .int k] ∧ H c = some (.ins C dx (chF wd pl)) ∧ PicksAt H pl ps ∧ (∀ kn : Nat, k = kn → kn ∉ ps.map (·.1)) ∧ ∀ H', Same H H' → E (.ref D) none H'
theorem zoh (k : Int) (op : List Nat) : inV (.int k) (zal op) = true ↔ ∃ kn : Nat, k = kn ∧ kn ∈ op := by
 constructor
 ·intro h
  by_cases z : 0 ≤ k
  ·obtain ⟨kn, rfl⟩ : ∃ kn : Nat, k = (kn : Int) := ⟨k.toNat, by omega⟩
   rw [zeg, decide_eq_true_iff] at h
   exact ⟨kn, rfl, h⟩
  ·unfold inV at h
   rw [List.any_eq_true] at h
   obtain ⟨x, hx, e⟩ := h
   obtain ⟨j, _, rfl⟩ := List.mem_map.mp hx
   have e' : ((j : Int) == k) = true := e
   rw [beq_iff_eq] at e'
   omega
 ·rintro ⟨kn, rfl, h⟩
  rw [zeg, decide_eq_true h]
theorem za9 {H : Hp} {p pen sp : Addr} {k : Int} {ps : List (Nat × Bool)} (h : PicksAt H p ps) (hp : H pen = some (.lst [.ref sp, .int k])) : p ≠ pen := fun z => by
 obtain ⟨xs, h1, h2⟩ := h.ex
 rw [z, hp] at h1
 cases h1
 cases ps with
 | nil => cases h2
 | cons q ps =>
  obtain ⟨t, r, e, _, h3⟩ := h2
  cases e
  cases ps with
  | nil => cases h3
  | cons q' ps =>
   obtain ⟨t, r, e, _⟩ := h3
   cases e
theorem PicksAt.x {H H' : Hp} {p pen : Addr} {ys : List V} {ps : List (Nat × Bool)} (h : PicksAt H p ps) (hp : H pen = some (.lst ys)) (n : p ≠ pen) (s : SameX pen H H') : PicksAt H' p ps := by
 obtain ⟨xs, h1, h2⟩ := h.ex
 exact ⟨⟨xs, s _ _ n h1, h2.same (SameX.tup hp s)⟩, h.few, h.le⟩
theorem PicksAt.ch {H H' : Hp} {p c : Addr} {ps : List (Nat × Bool)} (h : PicksAt H p ps) (n : p ≠ c) (t : zc7 H H') (s : ChS c H H') : PicksAt H' p ps := by
 obtain ⟨xs, h1, h2⟩ := h.ex
 exact ⟨⟨xs, s.lst n h1, h2.same t⟩, h.few, h.le⟩
def woI (ps : List (Nat × Bool)) (k : Int) : List (Nat × Bool) := ps.filter fun p => !decide ((p.1 : Int) = k)
theorem zun (ps : List (Nat × Bool)) (k : Nat) : woI ps (k : Int) = woP ps k := by
 unfold woI woP
 refine List.filter_congr fun p _ => ?_
 congr 1
 rw [Bool.eq_iff_iff, decide_eq_true_iff, decide_eq_true_iff]
 omega
theorem zss {ps : List (Nat × Bool)} {k : Int} (h : ∀ kn : Nat, k = kn → kn ∉ ps.map (·.1)) : woI ps k = ps := by
 unfold woI
 refine List.filter_eq_self.mpr fun p hp => ?_
 rw [Bool.not_eq_true', decide_eq_false_iff_not]
 intro z
 exact h p.1 z.symm (List.mem_map.mpr ⟨p, hp, rfl⟩)
theorem zsf {ps : List (Nat × Bool)} {k : Nat} (h : k ∈ ps.map (·.1)) : (woP ps k).length < ps.length := by
 obtain ⟨p, hp, rfl⟩ := List.mem_map.mp h
 unfold woP
 refine List.length_filter_lt_length_iff_exists.mpr ⟨p, hp, by simp⟩
theorem zmb (k : Int) (b : Bool) (l : List (Nat × Bool)) : ((l.map zbw).any fun e => PyData.eqv e (.tuple [.int k, .bool b])) = true ↔ ∃ kn : Nat, k = kn ∧ (kn, b) ∈ l := by
 by_cases z : 0 ≤ k
 ·obtain ⟨kn, rfl⟩ : ∃ kn : Nat, k = (kn : Int) := ⟨k.toNat, by omega⟩
  rw [show PyData.tuple [.int (kn : Int), .bool b] = zbw (kn, b) from rfl, ztc, decide_eq_true_iff]
  exact ⟨fun h => ⟨kn, rfl, h⟩, fun ⟨j, e, h⟩ => by
   cases Int.ofNat.inj e
   exact h⟩
 ·constructor
  ·intro h
   rw [List.any_map, List.any_eq_true] at h
   obtain ⟨x, hx, e⟩ := h
   obtain ⟨j, d⟩ := x
   rw [Function.comp_apply] at e
   cases b <;> cases d <;> simp [zbw, PyData.eqv, PyData.eqvAll] at e <;> omega
  ·rintro ⟨kn, e, _⟩
   omega
theorem mem_offL {ts : List Tie} {m : Nat} {ps : List (Nat × Bool)} {k : Nat} {b : Bool} : (k, b) ∈ zi9 ts m ps ↔ k ∈ zas m (zaj ps) (zau ps) ∧ zc0 ts m (zaj (ps ++ [(k, b)])) (zau (ps ++ [(k, b)])) = true := by
 unfold zi9
 rw [List.mem_filter]
 constructor
 ·rintro ⟨h1, h2⟩
  exact ⟨zov h1, h2⟩
 ·rintro ⟨h1, h2⟩
  refine ⟨?_, h2⟩
  unfold zc3
  refine List.mem_flatMap.mpr ⟨k, h1, ?_⟩
  cases b <;> simp
theorem zxb {ps : List (Nat × Bool)} {k s : Nat} (h : InS (zaj ps) (zau ps) s) : InS (zaj (woP ps k)) (zau (woP ps k)) s := by
 refine ⟨fun j hj => h.1 j ?_, fun j hj => h.2 j ?_⟩
 ·rcases (zcb _ j).mp hj with z | z
  ·exact (zcb _ j).mpr (.inl z)
  ·exact (zcb _ j).mpr (.inr (List.mem_filter.mp z).1)
 ·exact (zd0 _ j).mpr (List.mem_filter.mp ((zd0 _ j).mp hj)).1
theorem zm2 (k : Int) (b : Bool) : SeqAt.shaped (.tuple [.int k, .bool b]) = true := by
 unfold SeqAt.shaped
 rw [Bool.and_eq_true]
 exact ⟨by simp [PyData.canLay0, PyData.canLayAll0], decide_eq_true (by simp only [PyData.depth, PyData.depthAll]; omega)⟩
theorem KeepA.comp {ex ex' : List Addr} {H H1 H2 : Hp} (k : KeepA ex H H1) (k' : KeepA ex' H1 H2) (h : ∀ c ∈ ex', c ∈ ex ∨ H c = none) : KeepA ex H H2 := ⟨fun b o n t e => k'.keep b o (fun z => by
 rcases h b z with y | y
 ·exact n y
 ·rw [y] at e; cases e) t (k.keep b o n t e), fun P t => k'.tab P (k.tab P t), fun b e => k.dom b (k'.dom b e)⟩
theorem zsj {a b c d : Addr} (h1 : d ≠ a) (h2 : d ≠ b) (h3 : d ≠ c) : d ∉ [a, b, c] := fun z => by
 simp only [List.mem_cons, List.not_mem_nil, or_false] at z
 rcases z with z | z | z
 ·exact h1 z
 ·exact h2 z
 ·exact h3 z
theorem zxu {a b c : Addr} {P : Addr → Prop} (h1 : P a) (h2 : P b) (h3 : P c) : ∀ d ∈ [a, b, c], P d := fun d z => by
 simp only [List.mem_cons, List.not_mem_nil, or_false] at z
 rcases z with rfl | rfl | rfl <;> assumption
end Wd
namespace Kst
open PySem PySem.W PyProof.Rows
def ev {α : Type} (lt : Nat → Nat → Bool) : KasT α → α
 | .ret a => a
 | .ask i j k => ev lt (k (lt i j))
theorem zgk {α β : Type} {lt : Nat → Nat → Bool} {f : α → KasT β} : ∀ t : KasT α, ev lt (t.bind f) = ev lt (f (ev lt t))
 | .ret _ => rfl
 | .ask i j k => zgk (k (lt i j))
def zf9 {α : Type} (lt : Nat → Nat → Bool) (ok : Nat → Nat → Prop) : KasT α → Prop
 | .ret _ => True
 | .ask i j k => ok i j ∧ zf9 lt ok (k (lt i j))
theorem zdy {α β : Type} {lt : Nat → Nat → Bool} {ok : Nat → Nat → Prop} {f : α → KasT β} : ∀ t : KasT α, zf9 lt ok t → zf9 lt ok (f (ev lt t)) → zf9 lt ok (t.bind f)
 | .ret _, _, h => h
 | .ask i j k, h1, h2 => ⟨h1.1, zdy (k (lt i j)) h1.2 h2⟩
theorem zvt {α : Type} {lt : Nat → Nat → Bool} {ok : Nat → Nat → Prop} {cmp : Nat → Nat → (Bool → Shared → Prop) → Shared → Prop} {Q : α → Shared → Prop} {s : Shared} (hc : ∀ i j C, ok i j → C (lt i j) s → cmp i j C s) : ∀ t : KasT α, zf9 lt ok t → Q (ev lt t) s → t.kasWp cmp Q s
 | .ret a, _, q => q
 | .ask i j k, h, q => hc i j _ h.1 (zvt hc (k (lt i j)) h.2 q)
variable {key : Nat → Int}
def g (p : Array Nat) (i : Nat) : Nat := p.getD i 0
def Up (key : Nat → Int) (p : Array Nat) (b : Nat) : Prop := ∀ i j, i < j → j < b → key (g p i) ≤ key (g p j)
def Dw (key : Nat → Int) (p : Array Nat) (b : Nat) : Prop := ∀ i j, i < j → j < b → key (g p j) < key (g p i)
def ltk (key : Nat → Int) (i j : Nat) : Bool := decide (key i < key j)
theorem Up.step {p : Array Nat} {n : Nat} (h : Up key p n) (h1 : 1 ≤ n) (c : key (g p (n - 1)) ≤ key (g p n)) : Up key p (n + 1) := fun i j ij jn => by
 rcases Nat.lt_or_eq_of_le (Nat.le_of_lt_succ jn) with z | z
 ·exact h i j ij z
 ·subst z
  rcases Nat.lt_or_eq_of_le (show i ≤ j - 1 by omega) with y | y
  ·exact Int.le_trans (h i (j - 1) y (by omega)) c
  ·rw [y]; exact c
theorem Dw.step {p : Array Nat} {n : Nat} (h : Dw key p n) (h1 : 1 ≤ n) (c : key (g p n) < key (g p (n - 1))) : Dw key p (n + 1) := fun i j ij jn => by
 rcases Nat.lt_or_eq_of_le (Nat.le_of_lt_succ jn) with z | z
 ·exact h i j ij z
 ·subst z
  rcases Nat.lt_or_eq_of_le (show i ≤ j - 1 by omega) with y | y
  ·exact Int.lt_trans c (h i (j - 1) y (by omega))
  ·rw [y]; exact c
theorem zm6 {p : Array Nat} : ∀ (f n : Nat), 1 ≤ n → Up key p n → n ≤ ev (ltk key) (kas_asc p f n) ∧ ev (ltk key) (kas_asc p f n) ≤ n + f ∧ Up key p (ev (ltk key) (kas_asc p f n)) ∧ (ev (ltk key) (kas_asc p f n) < n + f → key (g p (ev (ltk key) (kas_asc p f n))) < key (g p (ev (ltk key) (kas_asc p f n) - 1)))
 | 0, n, _, h => ⟨Nat.le_refl _, Nat.le_refl _, h, fun z => absurd z (Nat.lt_irrefl _)⟩
 | f + 1, n, h1, h => by
  unfold kas_asc
  show n ≤ ev _ (if ltk key (g p n) (g p (n - 1)) = true then _ else _) ∧ ev _ (if ltk key (g p n) (g p (n - 1)) = true then _ else _) ≤ _ ∧ Up key p (ev _ (if ltk key (g p n) (g p (n - 1)) = true then _ else _)) ∧ (ev _ (if ltk key (g p n) (g p (n - 1)) = true then _ else _) < _ → key (g p (ev _ (if ltk key (g p n) (g p (n - 1)) = true then _ else _))) < key (g p (ev _ (if ltk key (g p n) (g p (n - 1)) = true then _ else _) - 1)))
  by_cases c : key (g p n) < key (g p (n - 1))
  ·rw [show ltk key (g p n) (g p (n - 1)) = true from decide_eq_true c, if_pos rfl]
   exact ⟨Nat.le_refl _, Nat.le_add_right _ _, h, fun _ => c⟩
  ·rw [show ltk key (g p n) (g p (n - 1)) = false from decide_eq_false c, if_neg Bool.false_ne_true]
   obtain ⟨a, b, u, d⟩ := zm6 f (n + 1) (by omega) (h.step h1 (Int.not_lt.mp c))
   exact ⟨by omega, by omega, u, fun z => d (by omega)⟩
def Inj (key : Nat → Int) (p : Array Nat) : Prop := ∀ i j, i < p.size → j < p.size → i ≠ j → key (g p i) ≠ key (g p j)
theorem zm9 {p : Array Nat} (hI : Inj key p) : ∀ (f n : Nat), 1 ≤ n → n + f ≤ p.size → Dw key p n → ∃ m, ev (ltk key) (kas_desc f p n 0) = (p, m, 0) ∧ n ≤ m ∧ m ≤ n + f ∧ Dw key p m
 | 0, n, _, _, h => ⟨n, rfl, Nat.le_refl _, Nat.le_refl _, h⟩
 | f + 1, n, h1, hz, h => by
  unfold kas_desc
  show ∃ m, ev _ (if ltk key (g p n) (g p (n - 1)) = true then _ else _) = _ ∧ _
  by_cases c : key (g p n) < key (g p (n - 1))
  ·rw [show ltk key (g p n) (g p (n - 1)) = true from decide_eq_true c, if_pos rfl, if_neg (Nat.lt_irrefl _)]
   obtain ⟨m, e, a, b, d⟩ := zm9 hI f (n + 1) (by omega) (by omega) (h.step h1 c)
   exact ⟨m, e, by omega, by omega, d⟩
  ·rw [show ltk key (g p n) (g p (n - 1)) = false from decide_eq_false c, if_neg Bool.false_ne_true]
   have ne := hI (n - 1) n (by omega) (by omega) (by omega)
   show ∃ m, ev _ (if ltk key (g p (n - 1)) (g p n) = true then _ else _) = _ ∧ _
   rw [show ltk key (g p (n - 1)) (g p n) = true from decide_eq_true (by omega), if_pos rfl]
   exact ⟨n, rfl, Nat.le_refl _, Nat.le_add_right _ _, h⟩
theorem g_get (p : Array Nat) (i : Nat) : g p i = (p[i]?).getD 0 := by
 unfold g
 rw [Array.getD_eq_getD_getElem?]
theorem zvz {p : Array Nat} {n : Nat} (hn : n ≤ p.size) (k : Nat) : g (kas_rev p 0 n) k = if k < n then g p (n - 1 - k) else g p k := by
 unfold kas_rev
 rw [g_get, getElem?_mirror_all hn]
 by_cases c : k < n
 ·rw [if_pos ⟨Nat.zero_le _, c⟩, if_pos c, g_get, Nat.zero_add]
 ·rw [if_neg (fun z => c z.2), if_neg c, g_get]
theorem zw8 {p : Array Nat} {n : Nat} (hn : n ≤ p.size) (h : Dw key p n) : Up key (kas_rev p 0 n) n := fun i j ij jn => by
 rw [zvz hn, zvz hn, if_pos (by omega), if_pos jn]
 exact Int.le_of_lt (h (n - 1 - j) (n - 1 - i) (by omega) (by omega))
theorem zv3 {p : Array Nat} {k l : Nat} (hk : k < p.size) (hl : l ≤ k) (i : Nat) : g (bubble p k (k - l)) i = if i = l then g p k else if l < i ∧ i ≤ k then g p (i - 1) else g p i := by
 rw [g_get, getElem?_bubble hk _ (Nat.sub_le _ _), show k - (k - l) = l by omega]
 split
 ·rw [g_get]
 ·split
  ·rw [g_get]
  ·rw [g_get]
theorem zjs {p : Array Nat} {k : Nat} (hu : Up key p k) : ∀ (f l r : Nat), r - l ≤ f → l ≤ r → r ≤ k → (∀ i, i < l → key (g p i) ≤ key (g p k)) → (∀ i, r ≤ i → i < k → key (g p k) < key (g p i)) → ∃ m, ev (ltk key) (kas_place p k f l r) = m ∧ m ≤ k ∧ (∀ i, i < m → key (g p i) ≤ key (g p k)) ∧ ∀ i, m ≤ i → i < k → key (g p k) < key (g p i)
 | 0, l, r, hf, lr, rk, h1, h2 => ⟨l, rfl, by omega, h1, fun i hi => h2 i (by omega)⟩
 | f + 1, l, r, hf, lr, rk, h1, h2 => by
  unfold kas_place
  by_cases c : l ≥ r
  ·rw [if_pos c]
   exact ⟨l, rfl, by omega, h1, fun i hi => h2 i (by omega)⟩
  ·rw [if_neg c]
   show ∃ m, ev _ (if ltk key (g p k) (g p ((l + r) / 2)) = true then _ else _) = m ∧ _
   by_cases d : key (g p k) < key (g p ((l + r) / 2))
   ·rw [show ltk key (g p k) (g p ((l + r) / 2)) = true from decide_eq_true d, if_pos rfl]
    refine zjs hu f l ((l + r) / 2) (by omega) (by omega) (by omega) h1 fun i hi ik => ?_
    rcases Nat.lt_or_eq_of_le hi with z | z
    ·exact Int.lt_of_lt_of_le d (hu _ i z ik)
    ·rw [← z]; exact d
   ·rw [show ltk key (g p k) (g p ((l + r) / 2)) = false from decide_eq_false d, if_neg Bool.false_ne_true]
    refine zjs hu f ((l + r) / 2 + 1) r (by omega) (by omega) rk (fun i hi => ?_) h2
    rcases Nat.lt_or_eq_of_le (Nat.le_of_lt_succ hi) with z | z
    ·exact Int.le_trans (hu i _ z (by omega)) (Int.not_lt.mp d)
    ·rw [z]; exact Int.not_lt.mp d
theorem zr8 : ∀ (f : Nat) (p : Array Nat) (k : Nat), k + f = p.size → Up key p k → (ev (ltk key) (kas_bin f p k)).Perm p ∧ Up key (ev (ltk key) (kas_bin f p k)) p.size
 | 0, p, k, hk, hu => by
  have e : k = p.size := by omega
  subst e
  exact ⟨Array.Perm.refl _, hu⟩
 | f + 1, p, k, hk, hu => by
  unfold kas_bin
  rw [zgk]
  obtain ⟨l, e, lk, h1, h2⟩ := zjs hu k 0 k (by omega) (Nat.zero_le _) (Nat.le_refl _) (fun i hi => absurd hi (Nat.not_lt_zero _)) (fun i a b => absurd b (by omega))
  rw [e]
  have kz : k < p.size := by omega
  have up : Up key (bubble p k (k - l)) (k + 1) := fun i j ij jn => by
   rw [zv3 kz lk, zv3 kz lk]
   repeat' split
   all_goals first
    | omega
    | exact Int.le_refl _
    | (exact h1 _ (by omega))
    | (exact Int.le_of_lt (h2 _ (by omega) (by omega)))
    | (exact hu _ _ (by omega) (by omega))
  obtain ⟨a, b⟩ := zr8 f (bubble p k (k - l)) (k + 1) (by rw [bubble_size]; omega) up
  rw [bubble_size] at b
  exact ⟨a.trans (bubble_perm _ _ _), b⟩
theorem zob {p : Array Nat} {n : Nat} (hn : p.size = n) (h1 : 1 ≤ n) (hI : Inj key p) : ∃ m p', ev (ltk key) (kas_count n p) = (m, p') ∧ 1 ≤ m ∧ m ≤ n ∧ p'.Perm p ∧ p'.size = n ∧ Up key p' m := by
 unfold kas_count
 rw [zgk]
 obtain ⟨a1, b1, u1, d1⟩ := zm6 (key := key) (p := p) (n - 1) 1 (Nat.le_refl _) (fun i j ij jn => by omega)
 generalize ev (ltk key) (kas_asc p (n - 1) 1) = m at a1 b1 u1 d1
 by_cases c : m = n
 ·rw [if_pos (beq_iff_eq.mpr c)]
  exact ⟨m, p, rfl, by omega, by omega, Array.Perm.refl _, hn, u1⟩
 ·rw [if_neg (fun z => c (beq_iff_eq.mp z))]
  by_cases c1 : m > 1
  ·rw [if_pos c1]
   have ne := hI 0 (m - 1) (by omega) (by omega) (by omega)
   have le := u1 0 (m - 1) (by omega) (by omega)
   show ∃ m' p', ev _ (if ltk key (g p 0) (g p (m - 1)) = true then _ else _) = _ ∧ _
   rw [show ltk key (g p 0) (g p (m - 1)) = true from decide_eq_true (by omega), if_pos rfl]
   exact ⟨m, p, rfl, by omega, by omega, Array.Perm.refl _, hn, u1⟩
  ·rw [if_neg c1]
   have e1 : m = 1 := by omega
   subst e1
   have d := d1 (by omega)
   unfold kas_descPart
   rw [zgk]
   obtain ⟨m2, e2, a2, b2, w2⟩ := zm9 hI (n - (1 + 1)) (1 + 1) (by omega) (by omega) (fun i j ij jn => by
    have hi : i = 0 := by omega
    have hj : j = 1 := by omega
    rw [hi, hj]
    exact d)
   rw [e2]
   show ∃ m p', ev _ (if 0 > 0 then _ else kas_tail3 m2 n p) = _ ∧ _
   rw [if_neg (Nat.lt_irrefl _)]
   unfold kas_tail3
   rw [zgk]
   have aa : m2 ≤ p.size := by omega
   obtain ⟨a3, b3, u3, _⟩ := zm6 (key := key) (p := kas_rev p 0 m2) (n - m2) m2 (by omega) (zw8 aa w2)
   exact ⟨_, _, rfl, by omega, by omega, mirror_perm _ _ _ _, by rw [kas_rev_size]; exact hn, u3⟩
theorem zve {n : Nat} (h1 : 1 ≤ n) (hI : ∀ i j, i < n → j < n → i ≠ j → key i ≠ key j) : (ev (ltk key) (kas_sort n)).Perm (List.range n).toArray ∧ Up key (ev (ltk key) (kas_sort n)) n := by
 have gr : ∀ i, i < n → g (List.range n).toArray i = i := fun i hi => by
  rw [g_get, List.getElem?_toArray, List.getElem?_range hi]
  rfl
 have sz : (List.range n).toArray.size = n := by simp
 unfold kas_sort
 rw [zgk]
 obtain ⟨m, p, e, a, b, pm, z, u⟩ := zob (key := key) (p := (List.range n).toArray) sz h1 (fun i j hi hj ij => by
  rw [sz] at hi hj
  rw [gr i hi, gr j hj]
  exact hI i j hi hj ij)
 rw [e]
 show Array.Perm (ev _ (if m < n then _ else _)) _ ∧ Up key (ev _ (if m < n then _ else _)) n
 by_cases c : m < n
 ·rw [if_pos c, show max m 1 = m by omega]
  obtain ⟨x, y⟩ := zr8 (n - m) p m (by omega) u
  rw [z] at y
  exact ⟨x.trans pm, y⟩
 ·rw [if_neg c]
  have e : m = n := by omega
  subst e
  exact ⟨pm, u⟩
def okN (n i j : Nat) : Prop := i < n ∧ j < n ∧ i ≠ j
def PR (n : Nat) (p : Array Nat) : Prop := p.Perm (List.range n).toArray
theorem PR.size {n : Nat} {p : Array Nat} (h : PR n p) : p.size = n := by
 have := h.size_eq
 simpa using this
theorem PR.ok {n : Nat} {p : Array Nat} (h : PR n p) {i j : Nat} (hi : i < n) (hj : j < n) (ij : i ≠ j) : okN n (g p i) (g p j) := by
 have pl : p.toList.Perm (List.range n) := h.toList
 have sz := h.size
 have at_ : ∀ k, k < n → p.toList[k]? = some (g p k) := fun k hk => by
  rw [g_get, Array.getElem?_toList, Array.getElem?_eq_getElem (by omega)]
  rfl
 have aa : ∀ k, k < n → g p k < n := fun k hk => List.mem_range.mp (pl.mem_iff.mp (List.mem_of_getElem? (at_ k hk)))
 refine ⟨aa i hi, aa j hj, fun z => ij ?_⟩
 have nd : p.toList.Nodup := pl.nodup_iff.mpr List.nodup_range
 have l1 : i < p.toList.length := by rw [Array.length_toList]; omega
 have l2 : j < p.toList.length := by rw [Array.length_toList]; omega
 have e1 := at_ i hi
 have e2 := at_ j hj
 rw [List.getElem?_eq_getElem l1] at e1
 rw [List.getElem?_eq_getElem l2] at e2
 rw [← z] at e2
 exact (List.getElem_inj nd).mp (Option.some.inj (e1.trans e2.symm))
theorem PR.inj {n : Nat} {p : Array Nat} (h : PR n p) (hk : ∀ i j, i < n → j < n → i ≠ j → key i ≠ key j) : Inj key p := fun i j hi hj ij => by
 rw [h.size] at hi hj
 obtain ⟨a, b, c⟩ := h.ok hi hj ij
 exact hk _ _ a b c
theorem zjv {n : Nat} {p : Array Nat} (h : PR n p) : ∀ (f m : Nat), 1 ≤ m → m + f ≤ n → zf9 (ltk key) (okN n) (kas_asc p f m)
 | 0, m, _, _ => trivial
 | f + 1, m, h1, hz => by
  unfold kas_asc
  refine ⟨h.ok (by omega) (by omega) (by omega), ?_⟩
  show zf9 _ _ (if ltk key (g p m) (g p (m - 1)) = true then _ else _)
  cases ltk key (g p m) (g p (m - 1)) with
  | true => exact trivial
  | false => exact zjv h f (m + 1) (by omega) (by omega)
theorem zl8 {n : Nat} {p : Array Nat} (h : PR n p) (hI : Inj key p) : ∀ (f m : Nat), 1 ≤ m → m + f ≤ n → zf9 (ltk key) (okN n) (kas_desc f p m 0)
 | 0, m, _, _ => trivial
 | f + 1, m, h1, hz => by
  unfold kas_desc
  refine ⟨h.ok (by omega) (by omega) (by omega), ?_⟩
  show zf9 _ _ (if ltk key (g p m) (g p (m - 1)) = true then _ else _)
  by_cases c : key (g p m) < key (g p (m - 1))
  ·rw [show ltk key (g p m) (g p (m - 1)) = true from decide_eq_true c, if_pos rfl, if_neg (Nat.lt_irrefl _)]
   exact zl8 h hI f (m + 1) (by omega) (by omega)
  ·rw [show ltk key (g p m) (g p (m - 1)) = false from decide_eq_false c, if_neg Bool.false_ne_true]
   have ne := hI (m - 1) m (by rw [h.size]; omega) (by rw [h.size]; omega) (by omega)
   refine ⟨h.ok (by omega) (by omega) (by omega), ?_⟩
   show zf9 _ _ (if ltk key (g p (m - 1)) (g p m) = true then _ else _)
   rw [show ltk key (g p (m - 1)) (g p m) = true from decide_eq_true (by omega), if_pos rfl]
   trivial
theorem zhk {n : Nat} {p : Array Nat} {k : Nat} (h : PR n p) (kn : k < n) : ∀ (f l r : Nat), r ≤ k → zf9 (ltk key) (okN n) (kas_place p k f l r)
 | 0, l, r, _ => trivial
 | f + 1, l, r, rk => by
  unfold kas_place
  by_cases c : l ≥ r
  ·rw [if_pos c]
   trivial
  ·rw [if_neg c]
   refine ⟨h.ok kn (by omega) (by omega), ?_⟩
   show zf9 _ _ (if ltk key (g p k) (g p ((l + r) / 2)) = true then _ else _)
   cases ltk key (g p k) (g p ((l + r) / 2)) with
   | true => exact zhk h kn f l _ (by omega)
   | false => exact zhk h kn f _ r rk
theorem zoi {n : Nat} : ∀ (f : Nat) (p : Array Nat) (k : Nat), PR n p → k + f = n → zf9 (ltk key) (okN n) (kas_bin f p k)
 | 0, p, k, _, _ => trivial
 | f + 1, p, k, h, hk => by
  unfold kas_bin
  exact zdy _ (zhk h (by omega) k 0 k (Nat.le_refl _)) (zoi f _ (k + 1) (Array.Perm.trans (bubble_perm _ _ _) h) (by omega))
theorem zq5 {n : Nat} (h1 : 1 ≤ n) (hk : ∀ i j, i < n → j < n → i ≠ j → key i ≠ key j) : zf9 (ltk key) (okN n) (kas_sort n) := by
 have P0 : PR n (List.range n).toArray := Array.Perm.refl _
 have hI := P0.inj hk
 have sz := P0.size
 unfold kas_sort
 obtain ⟨m, p, e, a, b, pm, z, u⟩ := zob (key := key) sz h1 hI
 refine zdy _ ?_ ?_
 ·unfold kas_count
  refine zdy _ (zjv P0 (n - 1) 1 (Nat.le_refl _) (by omega)) ?_
  obtain ⟨a1, b1, u1, d1⟩ := zm6 (key := key) (p := (List.range n).toArray) (n - 1) 1 (Nat.le_refl _) (fun i j ij jn => by omega)
  generalize ev (ltk key) (kas_asc (List.range n).toArray (n - 1) 1) = m at a1 b1 u1 d1
  by_cases c : m = n
  ·rw [if_pos (beq_iff_eq.mpr c)]
   trivial
  ·rw [if_neg (fun z => c (beq_iff_eq.mp z))]
   by_cases c1 : m > 1
   ·rw [if_pos c1]
    refine ⟨P0.ok (by omega) (by omega) (by omega), ?_⟩
    have ne := hI 0 (m - 1) (by omega) (by omega) (by omega)
    have le := u1 0 (m - 1) (by omega) (by omega)
    show zf9 _ _ (if ltk key (g (List.range n).toArray 0) (g (List.range n).toArray (m - 1)) = true then _ else _)
    rw [show ltk key (g (List.range n).toArray 0) (g (List.range n).toArray (m - 1)) = true from decide_eq_true (by omega), if_pos rfl]
    trivial
   ·rw [if_neg c1]
    have e1 : m = 1 := by omega
    subst e1
    have d := d1 (by omega)
    unfold kas_descPart
    refine zdy _ (zl8 P0 hI _ _ (by omega) (by omega)) ?_
    obtain ⟨m2, e2, a2, b2, w2⟩ := zm9 hI (n - (1 + 1)) (1 + 1) (by omega) (by omega) (fun i j ij jn => by
     have hi : i = 0 := by omega
     have hj : j = 1 := by omega
     rw [hi, hj]
     exact d)
    rw [e2]
    show zf9 _ _ (if 0 > 0 then _ else kas_tail3 m2 n (List.range n).toArray)
    rw [if_neg (Nat.lt_irrefl _)]
    unfold kas_tail3
    exact zdy _ (zjv (Array.Perm.trans (mirror_perm _ _ _ _) P0) _ _ (by omega) (by omega)) trivial
 ·rw [e]
  show zf9 _ _ (if m < n then _ else _)
  by_cases c : m < n
  ·rw [if_pos c, show max m 1 = m by omega]
   exact zoi _ _ _ (Array.Perm.trans pm P0) (by omega)
  ·rw [if_neg c]
   trivial
end Kst
namespace Kst
open PySem PySem.W PyProof PyProof.Rows
section
variable {prog : Program} {w : World} {A : Around} {E : Value → Shared → Prop} {s : Shared}
def Tps (h : Heap) (rs : List Addr) (ks : List Int) : Prop := ∀ i r, rs[i]? = some r → ∃ o xs e t, h.get? r = some o ∧ o.cls = .type "tuple" ∧ o.data = .seq xs e ∧ xs[0]? = some (.int (ks.getD i 0) t)
theorem Tps.kat {h : Heap} : ∀ {rs : List Addr} {ks : List Int}, rs.length = ks.length → Tps h rs ks → ∃ fs, KatTups h (rs.map Value.ref) fs ∧ fs.length = rs.length ∧ ∀ v ∈ fs, ∃ k t, v = Value.int k t
 | [], [], _, _ => ⟨[], trivial, rfl, fun _ z => nomatch z⟩
 | r :: rs, k :: ks, hl, ht => by
  obtain ⟨o, xs, e, t, h1, h2, h3, h4⟩ := ht 0 r rfl
  obtain ⟨fs, a, b, c⟩ := Tps.kat (rs := rs) (ks := ks) (Nat.succ.inj hl) (fun i r' hr => by
   obtain ⟨o, xs, e, t, q⟩ := ht (i + 1) r' hr
   exact ⟨o, xs, e, t, q⟩)
  refine ⟨_ :: fs, ⟨⟨r, o, xs, e, rfl, h1, h2, h3, h4⟩, a⟩, congrArg Nat.succ b, fun v hv => ?_⟩
  rcases List.mem_cons.mp hv with z | z
  ·exact ⟨_, _, z⟩
  ·exact c v z
theorem zvo {rs : List Addr} {ks : List Int} {i j : Nat} {C : Bool → Shared → Prop} (ht : Tps s.heap rs ks) (hi : i < rs.length) (hj : j < rs.length) (ne : ks.getD i 0 ≠ ks.getD j 0) (h : C (ltk (fun i => ks.getD i 0) i j) s) : kas_cmp prog w A (tuples' true) (pairsOf (rs.map Value.ref)) i j C s := by
 unfold kas_cmp
 rw [kas_item_eq, kas_item_eq]
 have at_ : ∀ k (hk : k < rs.length), (rs.map Value.ref).getD k Value.none = .ref rs[k] := fun k hk => by
  rw [List.getD_eq_getElem?_getD, List.getElem?_map, List.getElem?_eq_getElem hk]
  rfl
 show wpAny _ A (keyLt' (tuples' true) ((rs.map Value.ref).getD i Value.none) ((rs.map Value.ref).getD j Value.none)) _ _ _
 rw [at_ i hi, at_ j hj]
 obtain ⟨o, xs, e, t, h1, h2, h3, h4⟩ := ht i rs[i] (List.getElem?_eq_getElem hi)
 obtain ⟨o', aa, e', t', g1, g2, g3, g4⟩ := ht j rs[j] (List.getElem?_eq_getElem hj)
 refine kat_lt h1 h3 g1 g3 ?_
 obtain ⟨l, hl⟩ : ∃ l, xs.toList = .int (ks.getD i 0) t :: l := by
  have := h4
  rw [← Array.getElem?_toList] at this
  cases q : xs.toList with
  | nil => rw [q] at this; cases this
  | cons a r => rw [q] at this; cases this; exact ⟨r, rfl⟩
 obtain ⟨l', ac⟩ : ∃ l, aa.toList = .int (ks.getD j 0) t' :: l := by
  have := g4
  rw [← Array.getElem?_toList] at this
  cases q : aa.toList with
  | nil => rw [q] at this; cases this
  | cons a r => rw [q] at this; cases this; exact ⟨r, rfl⟩
 rw [hl, ac]
 show KatLex prog w A true _ C ((.int (ks.getD i 0) t, .int (ks.getD j 0) t') :: l.zip l') 0 s
 refine kat_cons (wpAny_eqBool_int ?_)
 rw [show (ks.getD i 0 == ks.getD j 0) = false from beq_eq_false_iff_ne.mpr ne]
 exact kat_no (oneLt_int h)
theorem zrm {a : Addr} {rs : List Addr} {ks : List Int} {n : Nat} {P : PySem.Fin → Shared → Prop} (o0 : s.heap.get? a = some (seqObj "list" (rs.map Value.ref).toArray n)) (hl : rs.length = ks.length) (hz : rs.length < 64) (ht : Tps s.heap rs ks) (hna : ∀ r ∈ rs, r ≠ a)
  (hk : ∀ i j, i < rs.length → j < rs.length → i ≠ j → ks.getD i 0 ≠ ks.getD j 0)
  (h : ∀ p : Array Nat, PR rs.length p → Up (fun i => ks.getD i 0) p rs.length → P (.done (.ret .none)) { s with heap := sortedHeap s.heap a (rs.map Value.ref) (p.map fun i => (rs.map Value.ref).getD i Value.none) }) :
  wpAny (model prog w) A (Builtin.«list.sort» ⟨[.ref a], []⟩) P E s := by
 rw [list_sort_plain]
 have lz : (rs.map Value.ref).length = rs.length := List.length_map _
 have ac : (rs.map Value.ref).length ≤ sizeLine := by rw [lz, sizeLine_eq]; omega
 have la : a < s.heap.objs.size := Heap.lt_size o0
 obtain ⟨e1, o1⟩ : ∃ e, (s.heap.update a (Obj.mapSeq fun _ => #[])).get? a = some (seqObj "list" #[] e) := ⟨_, get?_update_seq o0 _⟩
 have o6 : (((s.heap.update a (Obj.mapSeq fun _ => #[])).push (seqObj "tuple" (rs.map Value.ref).toArray 0)).push (seqObj "list" #[] 0)).get? a = some (seqObj "list" #[] e1) := by
  rwa [Heap.get?_push_ne _ _ _ (by rw [size_push', Heap.size_update]; exact Nat.ne_of_lt (Nat.lt_succ_of_lt la)), Heap.get?_push_ne _ _ _ (by rw [Heap.size_update]; exact Nat.ne_of_lt la)]
 have t6 : Tps (((s.heap.update a (Obj.mapSeq fun _ => #[])).push (seqObj "tuple" (rs.map Value.ref).toArray 0)).push (seqObj "list" #[] 0)) rs ks := fun i r hr => by
  obtain ⟨o, xs, e, t, h1, q⟩ := ht i r hr
  refine ⟨o, xs, e, t, Heap.get?_push_of_some _ (Heap.get?_push_of_some _ ?_), q⟩
  rw [Heap.get?_update_ne _ _ _ _ (hna r (List.mem_of_getElem? hr))]
  exact h1
 refine wpAny_bind (listItems_at o0 rfl (wpAny_bind (listUpdate_at o0 rfl ?_ (by rw [List.size_toArray]; exact ac) (Nat.zero_le _))))
 refine wpAny_bind (seqEpoch_at o1 rfl (wpAny_bind (wpAny_newTuple (wpAny_bind (wpAny_newList (wpAny_holding ?_))))))
 have er : (List.range rs.length).toArray.map (kas_item (pairsOf (rs.map Value.ref))) = pairsOf (rs.map Value.ref) := by
  have := kas_range (pairsOf (rs.map Value.ref))
  rw [pairsOf_size, lz] at this
  exact this
 have sn : ∀ p : Array Nat, (p.map (kas_item (pairsOf (rs.map Value.ref)))).map (·.2) = p.map fun i => (rs.map Value.ref).getD i Value.none := fun p => by
  rw [Array.map_map]
  refine congrArg (fun f => Array.map f p) (funext fun i => ?_)
  show (kas_item (pairsOf (rs.map Value.ref)) i).2 = _
  rw [kas_item_eq]
 by_cases c : (rs.map Value.ref).toArray.size < 2
 ·rw [if_pos c, if_pos c]
  refine wpAny_bind (wpAny_pure (wpAny_bind (wpAny_pure ?_)))
  refine wpAny_bind (seqEpoch_at o6 rfl (wpAny_bind (listUpdate_at o6 rfl ?_ (Nat.zero_le _) ?_)))
  ·simp only [bne_self_eq_false, Bool.false_eq_true, if_false]
   rw [List.size_toArray, lz] at c
   have := h (List.range rs.length).toArray (Array.Perm.refl _) (fun i j ij jn => by omega)
   rw [← sn, er] at this
   exact wpAny_pure this
  ·rw [Array.size_map]
   show (pairsOf (rs.map Value.ref)).size ≤ _
   rw [pairsOf_size]
   exact Nat.le_succ_of_le ac
 ·rw [if_neg c, if_neg c]
  rw [List.size_toArray, lz] at c
  obtain ⟨fs, kt, fl, fi⟩ := Tps.kat hl t6
  refine wpAny_bind (kat_kind (T := .type "int") kt (by omega) (fun v hv => by
   obtain ⟨k, t, rfl⟩ := fi v hv
   exact .now) rfl ?_)
  have ae : SortSt.mk' (tuples' true) (pairsOf (rs.map Value.ref)) #[] 7 none = kas_st (tuples' true) (pairsOf (rs.map Value.ref)) (List.range rs.length).toArray := by
   unfold kas_st
   rw [er]
  have ad := kas_runs (prog := prog) (w := w) (A := A) (E := E) (κ := tuples' true) (it := pairsOf (rs.map Value.ref)) (n := rs.length) (s := { s with heap := ((s.heap.update a (Obj.mapSeq fun _ => #[])).push (seqObj "tuple" (rs.map Value.ref).toArray 0)).push (seqObj "list" #[] 0) })
   (Q := fun _ aa s' => s' = { s with heap := ((s.heap.update a (Obj.mapSeq fun _ => #[])).push (seqObj "tuple" (rs.map Value.ref).toArray 0)).push (seqObj "list" #[] 0) } ∧ failedOf aa = none ∧ ∃ p, arrOf aa = p.map (kas_item (pairsOf (rs.map Value.ref))) ∧ PR rs.length p ∧ Up (fun i => ks.getD i 0) p rs.length)
   (G := fun p s' => s' = { s with heap := ((s.heap.update a (Obj.mapSeq fun _ => #[])).push (seqObj "tuple" (rs.map Value.ref).toArray 0)).push (seqObj "list" #[] 0) } ∧ PR rs.length p ∧ Up (fun i => ks.getD i 0) p rs.length)
   (by omega) hz (fun p aa s' z1 z2 z3 z4 => ⟨z4.1, z3, p, z2, z4.2⟩)
   (zvt (lt := ltk fun i => ks.getD i 0) (ok := okN rs.length) (fun i j C ok hC => zvo t6 ok.1 ok.2.1 (hk i j ok.1 ok.2.1 ok.2.2) hC) _ (zq5 (by omega) hk) ⟨rfl, zve (by omega) hk⟩)
  rw [← ae] at ad
  refine wpAny_bind (wpAny_mono ad ?_ fun _ _ e => e)
  rintro ⟨u, aa⟩ s' ⟨rfl, b2, p, b3, b4, b5⟩
  have e3 : (arrOf aa).map (·.2) = p.map fun i => (rs.map Value.ref).getD i Value.none := by rw [b3, sn]
  refine wpAny_bind (seqEpoch_at o6 rfl (wpAny_bind (listUpdate_at o6 rfl ?_ (Nat.zero_le _) ?_)))
  ·rw [b2]
   simp only [bne_self_eq_false, Bool.false_eq_true, if_false]
   have := h p b4 b5
   rw [← e3] at this
   exact wpAny_pure this
  ·rw [e3, Array.size_map, b4.size]
   rw [lz] at ac
   exact Nat.le_succ_of_le ac
theorem sorted_tups {l : Addr} {rs : List Addr} {ks : List Int} {Q : Value → Shared → Prop} (hl : s.heap.IsList l (rs.map Value.ref).toArray) (hlk : rs.length = ks.length) (hz : rs.length < 64) (ht : Tps s.heap rs ks) (hk : ∀ i j, i < rs.length → j < rs.length → i ≠ j → ks.getD i 0 ≠ ks.getD j 0)
  (h : ∀ p : Array Nat, PR rs.length p → Up (fun i => ks.getD i 0) p rs.length → Q (.ref (s.heap.objs.size + 1)) { s with heap := sortedAll s.heap (rs.map Value.ref) (p.map fun i => (rs.map Value.ref).getD i Value.none) }) :
  wpAny (model prog w) A (call (.builtin "sorted") [.ref l]) Q E s := by
 have lz : (rs.map Value.ref).length = rs.length := List.length_map _
 have ac : (rs.map Value.ref).length ≤ sizeLine := by rw [lz, sizeLine_eq]; omega
 have ez : ((s.heap.push (seqObj "list" #[] 0)).update s.heap.objs.size (Obj.mapSeq (· ++ (rs.map Value.ref).toArray))).objs.size = s.heap.objs.size + 1 := by rw [Heap.size_update, size_push']
 have oL : (((s.heap.push (seqObj "list" #[] 0)).update s.heap.objs.size (Obj.mapSeq (· ++ (rs.map Value.ref).toArray))).push (seqObj "list" (rs.map Value.ref).toArray 0)).get? (s.heap.objs.size + 1) = some (seqObj "list" (rs.map Value.ref).toArray 0) := by
  rw [← ez]; exact Heap.get?_push_size _ rfl
 have aa : ∀ r ∈ rs, r < s.heap.objs.size := fun r hr => by
  obtain ⟨i, hi⟩ := List.getElem?_of_mem hr
  obtain ⟨o, xs, e, t, h1, _⟩ := ht i r hi
  exact Heap.lt_size h1
 have t2 : Tps (((s.heap.push (seqObj "list" #[] 0)).update s.heap.objs.size (Obj.mapSeq (· ++ (rs.map Value.ref).toArray))).push (seqObj "list" (rs.map Value.ref).toArray 0)) rs ks := fun i r hr => by
  obtain ⟨o, xs, e, t, h1, q⟩ := ht i r hr
  refine ⟨o, xs, e, t, Heap.get?_push_of_some _ ?_, q⟩
  rw [Heap.get?_update_ne _ _ _ _ (Nat.ne_of_lt (aa r (List.mem_of_getElem? hr)))]
  exact Heap.get?_push_of_some _ h1
 refine Calls.call_function_entry kind_sorted plain_sorted entry_sorted (args_sorted1 _) (wpAny_bind (m := checkCount "sorted" 1 1 _) (wpAny_pure (wpAny_bind (collect_list hl ?_ ac))))
 refine wpAny_bind (wpAny_newList ?_)
 rw [ez]
 refine wpAny_bind (wpAny_holding (wpAny_call_entry slot_list_sort ⟨_, oL, rfl⟩ entry_list_sort (zrm oL hlk hz t2 (fun r hr => Nat.ne_of_lt (Nat.lt_succ_of_lt (aa r hr))) hk fun p b1 b2 => ⟨_, rfl, ?_⟩) (args_list_sort _)))
 exact wpAny_pure ⟨_, rfl, h p b1 b2⟩
end
end Kst
namespace L2
open PySem PySem.Spec PyProof.Rows
variable {X : Cx}
structure zw0 (H : Hp) (es : List (Int × Addr)) : Prop where
 at_ : ∀ e ∈ es, ∃ r, H e.2 = some (.tup (.int e.1 :: r))
 nd : (es.map (·.1)).Nodup
theorem zmt {K : PySem.W.Frag} (hK : X.K = K := by rfl) : zd8 X (.builtin "sorted") (fun xs H Q => ∃ (p : Addr) (es : List (Int × Addr)), xs = [.ref p] ∧ SqL K H p (es.map fun e => V.ref e.2) ∧ zw0 H es ∧ es.length < 64 ∧ ∀ es' : List (Int × Addr), es'.Perm es → (es'.map (·.1)).Pairwise (· < ·) → ∀ l, H l = none → Q (.ref l) (upd H l (.lst (es'.map fun e => V.ref e.2)))) := by
 subst hK
 intro pins s σ H xs us Q I r h
 obtain ⟨p, es, rfl, hq, T, hz, q⟩ := h
 obtain ⟨u, rfl, rx⟩ := zgw r
 cases rx
 obtain ⟨ac, rv, pl, ae⟩ := I.list hq
 have ei : ac = (es.map (·.2)).map Value.ref := by
  refine List.ext_getElem? fun i => ?_
  rw [List.getElem?_map, List.getElem?_map]
  have aa := rv.length
  rw [List.length_map] at aa
  cases e : es[i]? with
  | none =>
   rw [List.getElem?_eq_none (by rw [← aa]; exact List.getElem?_eq_none_iff.mp e)]
   rfl
  | some x =>
   obtain ⟨u, hu, ru⟩ := rv.get (i := i) (x := V.ref x.2) (by rw [List.getElem?_map, e]; rfl)
   rw [hu]
   cases (show u = Value.ref x.2 from ru)
   rfl
 subst ei
 have g1 : ∀ i e, es[i]? = some e → (es.map (·.1)).getD i 0 = e.1 := fun i e h => by rw [List.getD_eq_getElem?_getD, List.getElem?_map, h]; rfl
 have ln : (es.map (·.2)).length = es.length := List.length_map _
 have nd : ∀ i j, i < (es.map (·.2)).length → j < (es.map (·.2)).length → i ≠ j → (es.map (·.1)).getD i 0 ≠ (es.map (·.1)).getD j 0 := fun i j hi hj ij z => ij (by
  rw [ln] at hi hj
  have a : (es.map (·.1))[i]'(by rw [List.length_map]; exact hi) = (es.map (·.1))[j]'(by rw [List.length_map]; exact hj) := by
   rw [g1 i _ (List.getElem?_eq_getElem hi), g1 j _ (List.getElem?_eq_getElem hj)] at z
   rw [List.getElem_map, List.getElem_map]
   exact z
  exact (List.getElem_inj T.nd).mp a)
 refine Kst.sorted_tups pl.isList (ks := es.map (·.1)) (by rw [List.length_map, List.length_map]) (by rw [ln]; exact hz) (fun i r hr => ?_) nd (fun pm b1 b2 => ?_)
 ·rw [List.getElem?_map] at hr
  obtain ⟨e, he, rfl⟩ := Option.map_eq_some_iff.mp hr
  obtain ⟨r, hH⟩ := T.at_ e (List.mem_of_getElem? he)
  obtain ⟨ac, rv, ⟨o, e1, e2, n, e3⟩, _⟩ := I.tuple (.inl (.inl hH))
  obtain ⟨u, hu, ru⟩ := rv.get (i := 0) (x := V.int e.1) rfl
  obtain ⟨t, rfl⟩ := ru
  exact ⟨o, ac.toArray, n, t, e1, e2, e3, by rw [List.getElem?_toArray, hu, g1 i e he]⟩
 ·have sz := b1.size
  rw [ln] at sz
  have lt : ∀ i ∈ pm.toList, i < es.length := fun i hi => by
   have := List.mem_range.mp ((show pm.toList.Perm _ from b1.toList).mem_iff.mp hi)
   rw [ln] at this
   exact this
  have pe : (pm.toList.map fun i => es.getD i (0, 0)).Perm es := by
   have a := (show pm.toList.Perm _ from b1.toList).map fun i => es.getD i (0, 0)
   refine a.trans (List.Perm.of_eq ?_)
   refine List.ext_getElem? fun i => ?_
   show ((List.range (es.map (·.2)).length).map fun i => es.getD i (0, 0))[i]? = _
   rw [List.getElem?_map, ln]
   by_cases c : i < es.length
   ·rw [List.getElem?_range c, List.getElem?_eq_getElem c]
    show some (es.getD i (0, 0)) = _
    rw [List.getD_eq_getElem?_getD, List.getElem?_eq_getElem c]
    rfl
   ·rw [List.getElem?_eq_none (by rw [List.length_range]; omega), List.getElem?_eq_none (by omega)]
    rfl
  have kk : ∀ i, (es.map (·.1)).getD i 0 = (es.getD i (0, 0)).1 := fun i => by
   rw [List.getD_eq_getElem?_getD, List.getD_eq_getElem?_getD, List.getElem?_map]
   cases es[i]? <;> rfl
  have pw : ((pm.toList.map fun i => es.getD i (0, 0)).map (·.1)).Pairwise (· < ·) := by
   have ad : ((pm.toList.map fun i => es.getD i (0, 0)).map (·.1)).Nodup := (pe.map (·.1)).nodup_iff.mpr T.nd
   rw [List.pairwise_iff_getElem]
   intro i j hi hj ij
   have li : i < pm.toList.length := by simpa using hi
   have lj : j < pm.toList.length := by simpa using hj
   have gg : ∀ k (hk : k < pm.toList.length), Kst.g pm k = pm.toList[k] := fun k hk => by
    rw [Kst.g_get, Array.getElem?_eq_getElem (by rw [Array.length_toList] at hk; exact hk)]
    simp
   have le := b2 i j ij (by rw [ln]; rw [Array.length_toList] at lj; omega)
   dsimp only at le
   rw [gg i li, gg j lj, kk, kk] at le
   have ne : ((pm.toList.map fun i => es.getD i (0, 0)).map (·.1))[i] ≠ ((pm.toList.map fun i => es.getD i (0, 0)).map (·.1))[j] := fun z => absurd ((List.getElem_inj ad).mp z) (Nat.ne_of_lt ij)
   rw [List.getElem_map, List.getElem_map, List.getElem_map, List.getElem_map] at ne ⊢
   omega
  obtain ⟨e, he⟩ := sortedAll_at s.heap ((es.map (·.2)).map Value.ref) (pm.map fun i => ((es.map (·.2)).map Value.ref).getD i Value.none)
  have vl : Vals ((pm.toList.map fun i => es.getD i (0, 0)).map fun e => V.ref e.2) (pm.map fun i => ((es.map (·.2)).map Value.ref).getD i Value.none).toList := by
   rw [Array.toList_map, List.map_map]
   have go : ∀ l : List Nat, (∀ i ∈ l, i < es.length) → Vals (l.map ((fun e : Int × Addr => V.ref e.2) ∘ fun i => es.getD i (0, 0))) (l.map fun i => ((es.map (·.2)).map Value.ref).getD i Value.none) := by
    intro l
    induction l with
    | nil => intro _; exact .nil
    | cons i r ih =>
     intro h
     refine .cons ?_ (ih fun j hj => h j (List.mem_cons_of_mem _ hj))
     have il := h i List.mem_cons_self
     show ((es.map (·.2)).map Value.ref).getD i Value.none = Value.ref (es.getD i (0, 0)).2
     rw [List.getD_eq_getElem?_getD, List.getD_eq_getElem?_getD, List.getElem?_map, List.getElem?_map, List.getElem?_eq_getElem il]
     rfl
   exact go _ lt
  refine ⟨.ref (s.heap.objs.size + 1), _, I.laid (t' := s.toks) (fun b o => sortedAll_old) (Nat.le_succ _) (show ObjOk X.prog X.w _ _ _ (.lst ((pm.toList.map fun i => es.getD i (0, 0)).map fun e => V.ref e.2)) from ⟨?_, (pm.map fun i => ((es.map (·.2)).map Value.ref).getD i Value.none).toList, e, vl, he⟩), rfl, q _ pe pw _ (I.hok.fresh (Nat.le_succ _))⟩
  rw [List.length_map, List.length_map, Array.length_toList, sz]
  exact Nat.le_of_lt (zbd (by omega))
end L2
namespace Wd
open PySem L2 Ow
def zck (ps : List (Nat × Bool)) (p : Nat × Bool) : List (Nat × Bool) := ps.filter fun q => !decide (q = p)
def zo6 : Sp := fun vs H Q _ => ∃ (l tp : Addr) (ps : List (Nat × Bool)) (p : Nat × Bool), vs = [.ref l, .ref tp] ∧ PicksAt H l ps ∧ H tp = some (.tup [.int (p.1 : Int), .bl p.2]) ∧ ∀ (l' : Addr) (H' : Hp), Same H H' → H l' = none → PicksAt H' l' (zck ps p) → Q (.ref l') H'
theorem zqp {H : Hp} {t : Addr} {p : Nat × Bool} (h : H t = some (.tup [.int (p.1 : Int), .bl p.2])) : Dn H (zbw p) (.ref t) := ⟨t, _, rfl, h, _, _, rfl, rfl, _, _, rfl, rfl, rfl⟩
theorem PicksAt.snoc {H H' : Hp} {l l' tp : Addr} {ps : List (Nat × Bool)} {p : Nat × Bool} {xs : List V} (h : PicksAt H l ps) (hx : H l = some (.lst xs)) (few : ps.length < 20) (pl : p.1 ≤ 20) (ht : H tp = some (.tup [.int (p.1 : Int), .bl p.2])) (s : Same H H') (hl : H' l' = some (.lst (xs ++ [.ref tp]))) : PicksAt H' l' (ps ++ [p]) := by
 obtain ⟨ys, h1, h2⟩ := h.ex
 rw [hx] at h1
 cases h1
 refine ⟨⟨_, hl, (PickL.snoc ht h2).same (Same.tup s)⟩, by rw [List.length_append]; simp only [List.length_cons, List.length_nil]; omega, fun q hq => ?_⟩
 rcases List.mem_append.mp hq with z | z
 ·exact h.le q z
 ·rw [List.mem_singleton.mp z]
  exact pl
def lpk (ts : List Tie) (il : List Nat) (m : Nat) (a : Nat × Bool) : List (Nat × Bool) → List (Nat × Bool) → List (Nat × Bool)
 | [], left => left
 | p :: r, left => if zeh ts il m (zaj (zck left p ++ [a])) (zau (zck left p ++ [a])) = true then lpk ts il m a r (zck left p) else lpk ts il m a r left
theorem zjw {ts : List Tie} {il : List Nat} {m : Nat} {a p : Nat × Bool} : ∀ (r left : List (Nat × Bool)), lpk ts il m a (r ++ [p]) left = if zeh ts il m (zaj (zck (lpk ts il m a r left) p ++ [a])) (zau (zck (lpk ts il m a r left) p ++ [a])) = true then zck (lpk ts il m a r left) p else lpk ts il m a r left
 | [], left => rfl
 | q :: r, left => by
  have e : ∀ r', lpk ts il m a (q :: r') left = if zeh ts il m (zaj (zck left q ++ [a])) (zau (zck left q ++ [a])) = true then lpk ts il m a r' (zck left q) else lpk ts il m a r' left := fun _ => rfl
  show lpk ts il m a (q :: (r ++ [p])) left = _
  rw [e, e]
  by_cases c : zeh ts il m (zaj (zck left q ++ [a])) (zau (zck left q ++ [a])) = true
  ·rw [if_pos c, if_pos c]
   exact zjw r _
  ·rw [if_neg c, if_neg c]
   exact zjw r _
theorem zgp {ts : List Tie} {il : List Nat} {m : Nat} {a : Nat × Bool} : ∀ (r left : List (Nat × Bool)), (lpk ts il m a r left).Sublist left
 | [], left => List.Sublist.refl _
 | q :: r, left => by
  unfold lpk
  split
  ·exact (zgp r _).trans List.filter_sublist
  ·exact zgp r left
def zt9 : Sp := fun vs H Q _ => ∃ (wd tl l tp : Addr) (m : Nat) (ts : List Tie) (il : List Nat) (ps : List (Nat × Bool)) (p : Nat × Bool), vs = [.ref wd, .ref tl, .ref l, .ref tp] ∧ WoodT H wd m ts ∧ m ≤ 9 ∧ H tl = some (.lst (zal il)) ∧ (∀ i ∈ il, i < ts.length) ∧ PicksAt H l ps ∧ ps.length ≤ 19 ∧ H tp = some (.tup [.int (p.1 : Int), .bl p.2]) ∧ p.1 ≤ 20 ∧
 ∀ (l' : Addr) (H' : Hp), Same H H' → PicksAt H' l' (lpk ts il m p ps ps) → Q (.ref l') H'
structure zqk (H : Hp) (ol : Addr) (ts : List Tie) (il : List Nat) (m : Nat) (a : Nat × Bool) (left : List (Nat × Bool)) : Prop where
 ex : ∃ xs, H ol = some (.lst xs) ∧ xs.length = left.length ∧ ∀ (j : Nat) p, left[j]? = some p → ∃ q t, xs[j]? = some (.ref q) ∧ H q = some (.tup [.ref t, zhq (zbh ts il m 9 (zaj (zck left p ++ [a])) (zau (zck left p ++ [a])))]) ∧ H t = some (.tup [.int (p.1 : Int), .bl p.2])
def zm8 : Sp := fun vs H Q _ => ∃ (wd tl l tp : Addr) (m : Nat) (ts : List Tie) (il : List Nat) (ps : List (Nat × Bool)) (p : Nat × Bool), vs = [.ref wd, .ref tl, .ref l, .ref tp] ∧ WoodT H wd m ts ∧ m ≤ 9 ∧ H tl = some (.lst (zal il)) ∧ (∀ i ∈ il, i < ts.length) ∧ PicksAt H l ps ∧ ps.length ≤ 19 ∧ H tp = some (.tup [.int (p.1 : Int), .bl p.2]) ∧ p.1 ≤ 20 ∧
 ∀ (ol : Addr) (H' : Hp), Same H H' → H ol = none → zqk H' ol ts il m p ps → Q (.ref ol) H'
theorem SameX.freshW {pen : Addr} {H H1 H' : Hp} {ys : List V} (s0 : Same H H1) (n : H pen = none) (hp : H1 pen = some (.lst ys)) (s : SameX pen H1 H') : Same H H' := fun b o h => by
 have ne : b ≠ pen := zam h n
 have z := s0 b o h
 cases o
 case tbl ps =>
  obtain ⟨⟨qs, hq⟩, k⟩ := z
  have y := s b _ ne hq
  exact ⟨y.1, fun t => (y.2 (k t) ⟨_, hp⟩).1⟩
 all_goals exact s b _ ne z
def zc4 (H : Hp) (a : Addr) : Nat × Bool := match H a with
 | some (.tup [.int k, .bl b]) => (k.toNat, b)
 | _ => (0, false)
theorem zq8 {H : Hp} {a : Addr} {p : Nat × Bool} (h : H a = some (.tup [.int (p.1 : Int), .bl p.2])) : zc4 H a = p := by
 unfold zc4
 rw [h]
 rfl
theorem PickL.es {H : Hp} : ∀ {ps : List (Nat × Bool)} {xs : List V}, PickL H ps xs → ∃ es : List (Int × Addr), xs = es.map (fun e => V.ref e.2) ∧ es.map (·.1) = ps.map (fun p => ((p.1 : Nat) : Int)) ∧ es.map (fun e => zc4 H e.2) = ps ∧ ∀ e ∈ es, H e.2 = some (.tup [.int e.1, .bl (zc4 H e.2).2]) ∧ e.1 = (((zc4 H e.2).1 : Nat) : Int)
 | [], xs, h => ⟨[], by rw [show xs = [] from h]; rfl, rfl, rfl, fun _ z => nomatch z⟩
 | p :: ps, xs, ⟨t, r, e, ht, q⟩ => by
  obtain ⟨es, e1, e2, e3, e4⟩ := PickL.es q
  have hp := zq8 ht
  refine ⟨((p.1 : Int), t) :: es, by rw [e, e1]; rfl, by rw [List.map_cons, List.map_cons, e2], by rw [List.map_cons, e3, hp], fun x hx => ?_⟩
  rcases List.mem_cons.mp hx with rfl | z
  ·exact ⟨by rw [hp]; exact ht, by rw [hp]⟩
  ·exact e4 x z
theorem PickL.of_es {H : Hp} : ∀ (es : List (Int × Addr)), (∀ e ∈ es, H e.2 = some (.tup [.int e.1, .bl (zc4 H e.2).2]) ∧ e.1 = (((zc4 H e.2).1 : Nat) : Int)) → PickL H (es.map fun e => zc4 H e.2) (es.map fun e => V.ref e.2)
 | [], _ => rfl
 | e :: es, h => ⟨e.2, es.map fun e => V.ref e.2, rfl, by rw [(h e List.mem_cons_self).1, (h e List.mem_cons_self).2], PickL.of_es es fun x hx => h x (List.mem_cons_of_mem _ hx)⟩
structure ztd (ps' ps : List (Nat × Bool)) : Prop where
 pm : ps'.Perm ps
 up : (ps'.map (·.1)).Pairwise (· < ·)
def zhu (ts : List Tie) (il : List Nat) (m : Nat) (ps' : List (Nat × Bool)) (p : Nat × Bool) : List (Nat × Bool) := lpk ts il m p ps' ps'
structure zv1 (H : Hp) (v : V) (ts : List Tie) (m : Nat) (il : List Nat) (ps' : List (Nat × Bool)) (p : Nat × Bool) : Prop where
 ex : ∃ (q lf lp ol o1 o2 : Addr) (tv : V) (xs ys : List V), v = .ref q ∧ H q = some (.tup [.ref lf, .ref lp, tv, .ref ol]) ∧ H lf = some (.lst (zal il)) ∧ PicksAt H lp (zhu ts il m ps' p) ∧ Dn H (zbk ts il m 9 (zaj (zhu ts il m ps' p ++ [p])) (zau (zhu ts il m ps' p ++ [p]))).toD tv ∧
  ztm H o1 ts m (zaj (zhu ts il m ps' p ++ [p])) (zau (zhu ts il m ps' p ++ [p])) il ∧ zqk H o2 ts il m p (zhu ts il m ps' p) ∧ H o1 = some (.lst xs) ∧ H o2 = some (.lst ys) ∧ H ol = some (.lst (xs ++ ys))
def zw6 : Sp := fun vs H Q _ => ∃ (wd pl tp : Addr) (m : Nat) (ts : List Tie) (ps : List (Nat × Bool)) (p : Nat × Bool), vs = [.ref wd, .ref pl, .ref tp] ∧ WoodT H wd m ts ∧ ts.length ≤ 800 ∧ m ≤ 9 ∧ PicksAt H pl ps ∧ ps.length ≤ 19 ∧ (ps.map (·.1)).Nodup ∧ H tp = some (.tup [.int (p.1 : Int), .bl p.2]) ∧ p.1 ≤ 20 ∧
 ∀ (v : V) (H' : Hp) (ps' : List (Nat × Bool)), ztd ps' ps → Same H H' → zv1 H' v ts m (zc6 ts m (zaj (ps ++ [p])) (zau (ps ++ [p]))) ps' p → Q v H'
def zxx (C : Addr) : Sp := fun vs H Q _ => ∃ (c dx wd pl : Addr) (m : Nat) (ts : List Tie) (ps : List (Nat × Bool)) (k : Nat) (b : Bool), vs = [.ref c, .int (k : Int), .bl b] ∧ H c = some (.ins C dx (chF wd pl)) ∧ PicksAt H pl ps ∧ WoodT H wd m ts ∧ m ≤ 9 ∧ 1 ≤ m ∧ ts.length ≤ 800 ∧ PickOk m ps ∧
 k ∈ zas m (zaj ps) (zau ps) ∧
 ∀ (v : V) (H' : Hp), Same H H' → (zc0 ts m (zaj (ps ++ [(k, b)])) (zau (ps ++ [(k, b)])) = true → v = .non) →
  (zc0 ts m (zaj (ps ++ [(k, b)])) (zau (ps ++ [(k, b)])) = false → ∃ ps', ztd ps' ps ∧ zv1 H' v ts m (zc6 ts m (zaj (ps ++ [(k, b)])) (zau (ps ++ [(k, b)]))) ps' (k, b)) → Q v H'
def zwo (C D : Addr) : Sp := fun vs H _ E => ∃ (c dx wd pl : Addr) (m : Nat) (ts : List Tie) (ps : List (Nat × Bool)) (k : Int) (b : Bool), vs = [.ref c, .int k, .bl b] ∧ H c = some (.ins C dx (chF wd pl)) ∧ PicksAt H pl ps ∧ WoodT H wd m ts ∧ m ≤ 9 ∧ 1 ≤ m ∧ PickOk m ps ∧
 (∀ kn : Nat, k = kn → kn ∉ zas m (zaj ps) (zau ps)) ∧ ∀ H', Same H H' → E (.ref D) none H'
def zt3 (K : PySem.W.Frag) (C : Addr) : Sp := fun vs H Q _ => ∃ (pen sp : Addr) (ns : List Int) (k : Int) (c dx wd pl lb : Addr) (m : Nat) (ts : List Tie), vs = [.ref pen, .ref c, .ref lb, .int (m : Int)] ∧ (∀ k' H', KeepA [pen, c, pl] H H' → H' pen = some (.lst [.ref sp, .int k']) → Pen K H' pen sp ns k') ∧ H pen = some (.lst [.ref sp, .int k]) ∧ 0 ≤ k ∧ k ≤ 900000 ∧
 H c = some (.ins C dx (chF wd pl)) ∧ PicksAt H pl [] ∧ lb ≠ pl ∧ (∀ H', zc7 H H' → WoodT H' wd m ts) ∧ H lb = some (.lst (zal (brN m ts))) ∧ lb ≠ pen ∧ 1 ≤ m ∧ m ≤ 9 ∧ (∃ s, s < 2 ^ m ∧ InS (zaj []) (zau []) s ∧ zbg ts s = true) ∧
 ∀ (lc pl' : Addr) (ps : List (Nat × Bool)) (k' : Int) (H' : Hp), KeepA [pen, c, pl] H H' → zc7 H H' → H' pen = some (.lst [.ref sp, .int k']) → k ≤ k' → k' ≤ k + 60 → H' c = some (.ins C dx (chF wd pl')) → PicksAt H' pl' ps → PicksAt H' lc ps → lc ≠ pl' → (pl' = pl ∨ H pl' = none) → H lc = none → PickOk m ps → (∃ s, s < 2 ^ m ∧ InS (zaj ps) (zau ps) s ∧ zbg ts s = true) → Q (.ref lc) H'
theorem zr6 {ps : List (Nat × Bool)} {k s : Nat} (h : InS (zaj ps) (zau ps) s) : InS (zaj (ps ++ [(k, s.testBit k)])) (zau (ps ++ [(k, s.testBit k)])) s := by
 refine ⟨fun j hj => ?_, fun j hj => ?_⟩
 ·rcases (zcb _ j).mp hj with z | z
  ·exact h.1 j ((zcb _ j).mpr (.inl z))
  ·rcases List.mem_append.mp z with z | z
   ·exact h.1 j ((zcb _ j).mpr (.inr z))
   ·have z := List.mem_singleton.mp z
    injection z with z1 z2
    rw [z1]
    exact z2.symm
 ·have z := (zd0 _ j).mp hj
  rcases List.mem_append.mp z with z | z
  ·exact h.2 j ((zd0 _ j).mpr z)
  ·have z := List.mem_singleton.mp z
   injection z with z1 z2
   rw [z1]
   exact z2.symm
theorem zpu {ts : List Tie} {m k : Nat} {b : Bool} {ps : List (Nat × Bool)} (w : ∃ s, s < 2 ^ m ∧ InS (zaj ps) (zau ps) s ∧ zbg ts s = true) (h : zc0 ts m (zaj (ps ++ [(k, b)])) (zau (ps ++ [(k, b)])) = false) : zc0 ts m (zaj (ps ++ [(k, !b)])) (zau (ps ++ [(k, !b)])) = true := by
 obtain ⟨s, h1, h2, h3⟩ := w
 have e := leadP_iff.mpr ⟨s, h1, zr6 (k := k) h2, h3⟩
 by_cases z : s.testBit k = b
 ·rw [z, h] at e; cases e
 ·rwa [show s.testBit k = !b by cases b <;> cases y : s.testBit k <;> simp_all] at e
theorem zvg (ps : List (Nat × Bool)) (k : Nat) : k ∉ (woP ps k).map (·.1) := fun h => by
 obtain ⟨p, hp, e⟩ := List.mem_map.mp h
 have := (List.mem_filter.mp hp).2
 have e : p.1 = k := e
 simp [e] at this
def CT.closed (il : List Nat) : CT → List Nat → Prop
 | .broken i, _ => i ∈ il
 | .ware, _ => False
 | .split k a b, U => k ∉ U ∧ a.closed il (U ++ [k]) ∧ b.closed il (U ++ [k])
theorem zfb {ts : List Tie} {il : List Nat} {m : Nat} : ∀ (f y n : Nat) (U : List Nat), (zas m y n).length ≤ f → (zbk ts il m f y n).leaves y = [] → (∀ u ∈ U, y.testBit u = true ∨ n.testBit u = true) → (zbk ts il m f y n).closed il U
 | f, y, n, U, hf, hl, hu => by
  cases hb : za6 ts il y n with
  | some i =>
   rw [zg1 hb]
   exact (zff hb).1
  | none =>
   cases ho : zas m y n with
   | nil =>
    rw [zix hb ho] at hl
    cases hl
   | cons k r =>
    have hk : k ∈ zas m y n := by rw [ho]; exact List.mem_cons_self
    cases f with
    | zero => rw [ho] at hf; simp at hf
    | succ f =>
     have l1 := zc5 hk
     have l2 := zc8 hk
     rw [zhm hb ho] at hl ⊢
     obtain ⟨e1, e2⟩ := List.append_eq_nil_iff.mp (show (zbk ts il m f (y ||| 2 ^ k) n).leaves (y ||| 2 ^ k) ++ (zbk ts il m f y (n ||| 2 ^ k)).leaves y = [] from hl)
     have kk := mem_open.mp hk
     refine ⟨fun z => ?_, zfb f _ _ _ (by omega) e1 (fun u h => ?_), zfb f _ _ _ (by omega) e2 (fun u h => ?_)⟩
     ·rcases hu k z with h | h
      ·rw [kk.2.1] at h; cases h
      ·rw [kk.2.2] at h; cases h
     ·rw [Nat.testBit_or]
      rcases List.mem_append.mp h with h | h
      ·rcases hu u h with h | h
       ·exact .inl (by rw [h]; rfl)
       ·exact .inr h
      ·rw [List.mem_singleton.mp h]
       exact .inl (by rw [Nat.testBit_two_pow_self, Bool.or_true])
     ·rw [Nat.testBit_or]
      rcases List.mem_append.mp h with h | h
      ·rcases hu u h with h | h
       ·exact .inl h
       ·exact .inr (by rw [h]; rfl)
      ·rw [List.mem_singleton.mp h]
       exact .inr (by rw [Nat.testBit_two_pow_self, Bool.or_true])
def zka (f : Nat) : Sp := fun vs H Q _ => ∃ (v : V) (t : CT) (tl ul : Addr) (il U : List Nat), vs = [v, .ref tl, .ref ul] ∧ Dn H t.toD v ∧ t.depth ≤ f ∧ f ≤ 9 ∧ H tl = some (.lst (zal il)) ∧ H ul = some (.lst (zal U)) ∧ U.length + f ≤ 900 ∧ t.closed il U ∧ ∀ H', Same H H' → Q (.bl true) H'
theorem zr7 {ps qs : List (Nat × Bool)} (h : ∀ p, p ∈ ps ↔ p ∈ qs) : zaj ps = zaj qs := Nat.eq_of_testBit_eq fun k => by
 rw [Bool.eq_iff_iff, zcb, zcb, h]
theorem zuf {ps qs : List (Nat × Bool)} (h : ∀ p, p ∈ ps ↔ p ∈ qs) : zau ps = zau qs := Nat.eq_of_testBit_eq fun k => by
 rw [Bool.eq_iff_iff, zd0, zd0, h]
theorem zm1 {ts : List Tie} {il : List Nat} {m : Nat} {a : Nat × Bool} : ∀ (r left : List (Nat × Bool)), zeh ts il m (zaj (left ++ [a])) (zau (left ++ [a])) = true → zeh ts il m (zaj (lpk ts il m a r left ++ [a])) (zau (lpk ts il m a r left ++ [a])) = true
 | [], _, h => h
 | q :: r, left, h => by
  unfold lpk
  split
  ·next z => exact zm1 r _ z
  ·exact zm1 r left h
theorem zsn {ts : List Tie} {m y n : Nat} (ok : ∀ t ∈ ts, t.Ok m) (m9 : m ≤ 9) (S : Stand m y n) (y0 : y.testBit 0 = true) (h : zc0 ts m y n = false) : zeh ts (zdv ts) m y n = true := by
 rw [zj8 ok m9 S]
 intro s hs hi
 rw [Bool.eq_false_iff]
 intro z
 have : zc0 ts m y n = true := leadP_iff.mpr ⟨s, hs, hi, by
  unfold zbg
  rw [hi.1 0 y0, Bool.true_and]
  exact (zi3 ts s).symm.trans z⟩
 rw [h] at this
 cases this
theorem zws {ts : List Tie} {il : List Nat} {m y n : Nat} (ok : ∀ t ∈ ts, t.Ok m) (m9 : m ≤ 9) (S : Stand m y n) (h : zeh ts il m y n = true) : il ≠ [] := fun z => by
 have := (zj8 ok m9 S).mp h y S.ym (zfv S.dj)
 rw [z] at this
 cases this
theorem zui {ts : List Tie} {m : Nat} {ps ps' : List (Nat × Bool)} {p : Nat × Bool} (sp : ztd ps' ps) (h : zeh ts (zdv ts) m (zaj (ps ++ [p])) (zau (ps ++ [p])) = true) : zeh ts (zc6 ts m (zaj (ps ++ [p])) (zau (ps ++ [p]))) m (zaj (zhu ts (zc6 ts m (zaj (ps ++ [p])) (zau (ps ++ [p]))) m ps' p ++ [p])) (zau (zhu ts (zc6 ts m (zaj (ps ++ [p])) (zau (ps ++ [p]))) m ps' p ++ [p])) = true := by
 have hb := zi4 h
 generalize zc6 ts m (zaj (ps ++ [p])) (zau (ps ++ [p])) = il at hb ⊢
 refine zm1 ps' ps' ?_
 have e : ∀ q, q ∈ ps' ++ [p] ↔ q ∈ ps ++ [p] := fun q => by rw [List.mem_append, List.mem_append, sp.pm.mem_iff]
 rw [zr7 e, zuf e]
 exact hb
def zu1 (C : Addr) : Sp := fun vs H Q _ => ∃ (c dx wd pl ol : Addr) (m : Nat) (ts : List Tie) (ps : List (Nat × Bool)) (k : Nat) (b : Bool) (os : List V), vs = [.ref c, .int (k : Int), .bl b, .ref ol] ∧ H c = some (.ins C dx (chF wd pl)) ∧ PicksAt H pl ps ∧ WoodT H wd m ts ∧ (∀ t ∈ ts, t.Ok m) ∧ m ≤ 9 ∧ 1 ≤ m ∧ ts.length ≤ 800 ∧ PickOk m ps ∧
 k ∈ zas m (zaj ps) (zau ps) ∧ H ol = some (.lst os) ∧ PickL H (zi9 ts m ps) os ∧ ∀ H', Same H H' → Q (.bl true) H'
theorem zi0 {ps : List (Nat × Bool)} {p : Nat × Bool} (h : p ∈ ps) : (zaj ps).testBit p.1 = true ∨ (zau ps).testBit p.1 = true := by
 obtain ⟨k, b⟩ := p
 cases b with
 | true => exact .inl ((zcb _ _).mpr (.inr h))
 | false => exact .inr ((zd0 _ _).mpr h)
theorem PickOk.sub {m : Nat} {ps ps' left : List (Nat × Bool)} (h : PickOk m ps) (pm : ps'.Perm ps) (sub : left.Sublist ps') : PickOk m left :=
 ⟨fun p hp => h.in_ p (pm.mem_iff.mp (sub.subset hp)), (((pm.map (·.1)).nodup_iff).mpr h.nd).sublist (sub.map _)⟩
theorem zo5 {ts : List Tie} {il : List Nat} {m : Nat} {left : List (Nat × Bool)} {p : Nat × Bool} (ok : ∀ t ∈ ts, t.Ok m) (m9 : m ≤ 9) (S : Stand m (zaj (left ++ [p])) (zau (left ++ [p]))) (h : zeh ts il m (zaj (left ++ [p])) (zau (left ++ [p])) = true) : (zbk ts il m 9 (zaj (left ++ [p])) (zau (left ++ [p]))).closed il (0 :: p.1 :: left.map (·.1)) := by
 have of := zc1 m (zaj (left ++ [p])) (zau (left ++ [p]))
 refine zfb 9 _ _ _ (by omega) (List.eq_nil_iff_forall_not_mem.mpr fun s hs => ?_) (fun u hu => ?_)
 ·obtain ⟨sm, hi, hk⟩ := (zhd ok 9 _ _ (by omega) S s).mp hs
  rw [(zj8 ok m9 S).mp h s sm hi] at hk
  cases hk
 ·rcases List.mem_cons.mp hu with rfl | hu
  ·exact .inl (zey _)
  rcases List.mem_cons.mp hu with rfl | hu
  ·exact zi0 (List.mem_append.mpr (.inr (List.mem_singleton.mpr rfl)))
  ·obtain ⟨r, hr, rfl⟩ := List.mem_map.mp hu
   exact zi0 (List.mem_append.mpr (.inl hr))
def elS : Option Stmt → Option Stmt
 | some (Stmt.If _ _ e _) => e[0]?
 | _ => none
def boE (i : Nat) : Expr → Expr
 | .BoolOp _ es _ => es.getD i (.Constant .none 0 ⟨0, 0, 0, 0⟩)
 | e => e
theorem zpq {H : Hp} {lo : Addr} {ts : List Tie} {m : Nat} {ps : List (Nat × Bool)} {os : List V} (m1 : 1 ≤ m) (m9 : m ≤ 9) (h : H lo = some (.lst os)) (pk : PickL H (zi9 ts m ps) os) : PicksAt H lo (zi9 ts m ps) := by
 refine ⟨⟨os, h, pk⟩, ?_, fun p hp => ?_⟩
 ·rw [zwr m1]
  have := zsv ts m ps (m - 1)
  omega
 ·have := (mem_openP.mp (mem_offL (k := p.1) (b := p.2).mp hp).1).1
  omega
end Wd
namespace Ow
open PySem L2 Wd
def top (i : Nat) : Stmt := PySem.Challenge.pw_optionwood_k43_why_asked_of_others.main.body.getD i (.Pass ⟨0, 0, 0, 0⟩)
abbrev zsz : Stmt := top 1
abbrev zew : Stmt := top 2
abbrev zct : Stmt := top 3
abbrev zgg : Stmt := top 15
abbrev zky : Stmt := top 16
abbrev ze4 : Stmt := top 18
abbrev zf4 : Stmt := top 19
abbrev zep : Stmt := top 20
abbrev zej : Stmt := top 21
abbrev za5 : Stmt := top 22
abbrev zcg : Stmt := top 23
abbrev zb5 : Stmt := top 25
abbrev zfx : Stmt := top 26
abbrev zdh : Stmt := top 27
abbrev zfd : Stmt := top 29
abbrev zb1 : Stmt := top 30
abbrev zpc : Stmt := top 32
abbrev zfl : Stmt := top 33
abbrev zdr : Stmt := top 34
abbrev zb7 : Stmt := top 35
abbrev zhe : Stmt := top 38
abbrev zij : Stmt := top 39
abbrev zdl : Stmt := top 40
abbrev zhb : Stmt := top 41
abbrev ze7 : Stmt := top 42
abbrev zeq : Stmt := top 43
abbrev zes : Stmt := top 44
abbrev zeb : Stmt := top 46
abbrev zcf : Stmt := top 47
abbrev zbp : Stmt := top 48
abbrev zd2 : Stmt := top 49
abbrev zdj : Stmt := top 50
abbrev zdp : Stmt := top 51
abbrev zfu : Stmt := top 52
abbrev zgb : Stmt := top 53
abbrev zhj : Stmt := top 54
abbrev zcd : Stmt := top 55
abbrev zc2 : Stmt := top 56
abbrev zfa : Stmt := top 57
abbrev zcj : Stmt := top 58
abbrev zcz : Stmt := (zgm (top 37)).getD 0 (.Pass ⟨0, 0, 0, 0⟩)
abbrev zdn : Stmt := (zgm (top 37)).getD 2 (.Pass ⟨0, 0, 0, 0⟩)
abbrev zcm : Stmt := (zgm (top 37)).getD 3 (.Pass ⟨0, 0, 0, 0⟩)
abbrev zb2 : Stmt := (zgm (top 37)).getD 4 (.Pass ⟨0, 0, 0, 0⟩)
abbrev za7 : Stmt := (zgm (top 37)).getD 5 (.Pass ⟨0, 0, 0, 0⟩)
abbrev zcw : Stmt := (zgm (top 37)).getD 7 (.Pass ⟨0, 0, 0, 0⟩)
set_option genInjectivity false
set_option genSizeOfSpec false
set_option genSizeOf false
structure Adr where
 (f_has f_with_option f_open_options f_many_ties f_tie_at f_count_in f_every_tie f_sure_broken f_least_sum f_sure_broken_bough f_first_sure_broken f_cases_of f_ware_leaf f_told_tree f_first_ware f_first_keeping f_bars f_least_ties f_tie_others f_left_without f_stand_of f_open_at f_first_ware_at f_leads_on f_why_barred f_least_picks f_pick_others f_law_take f_law_boughs f_law_cross f_law_wood f_law_keeps f_law_broken f_law_heard f_law_stand f_law_sets f_law_played f_law_closed f_law_open f_law f_Choice___init__ f_Choice_chosen f_Choice_offers f_Choice_choose f_Choice_take_back f_Choice_why : Addr)
 (c_cases_of t_cases_of c_law t_law x_WoodError x_NoWood x_NoCount x_NoWares x_NoOffer x_Unlike x_NoText x_NoRow x_NoName x_Choice : Addr)
structure Fds where
 (f_has f_with_option f_open_options f_many_ties f_tie_at f_count_in f_every_tie f_sure_broken f_least_sum f_sure_broken_bough f_first_sure_broken f_cases_of f_ware_leaf f_told_tree f_first_ware f_first_keeping f_bars f_least_ties f_tie_others f_left_without f_stand_of f_open_at f_first_ware_at f_leads_on f_why_barred f_least_picks f_pick_others f_law_take f_law_boughs f_law_cross f_law_wood f_law_keeps f_law_broken f_law_heard f_law_stand f_law_sets f_law_played f_law_closed f_law_open f_law f_Choice___init__ f_Choice_chosen f_Choice_offers f_Choice_choose f_Choice_take_back f_Choice_why : FuncData)
structure Txt (K : PySem.W.Frag) (mg : Str → Option Value) (a : Adr) (d : Fds) : Prop where
 m_ValueError : mg "ValueError" = none
 m_range : mg "range" = none
 m_len : mg "len" = none
 m_isinstance : mg "isinstance" = none
 m_max : mg "max" = none
 m_int : mg "int" = none
 m_list : mg "list" = none
 m_tuple : mg "tuple" = none
 m_sorted : mg "sorted" = none
 m_enumerate : mg "enumerate" = none
 m_sum : mg "sum" = none
 K_has : Df K mg "has" zsz a.f_has d.f_has ["some", "k"]
 K_with_option : Df K mg "with_option" zew a.f_with_option d.f_with_option ["some", "k"]
 K_open_options : Df K mg "open_options" zct a.f_open_options d.f_open_options ["many", "yes", "no"]
 K_many_ties : Df K mg "many_ties" zgg a.f_many_ties d.f_many_ties ["wood"]
 K_tie_at : Df K mg "tie_at" zky a.f_tie_at d.f_tie_at ["wood", "t"]
 K_count_in : Df K mg "count_in" ze4 a.f_count_in d.f_count_in ["kids", "some"]
 K_every_tie : Df K mg "every_tie" zf4 a.f_every_tie d.f_every_tie ["wood"]
 K_sure_broken : Df K mg "sure_broken" zep a.f_sure_broken d.f_sure_broken ["tie", "yes", "no"]
 K_least_sum : Df K mg "least_sum" zej a.f_least_sum d.f_least_sum ["pairs", "yes", "no"]
 K_sure_broken_bough : Df K mg "sure_broken_bough" za5 a.f_sure_broken_bough d.f_sure_broken_bough ["bough", "yes", "no"]
 K_first_sure_broken : Df K mg "first_sure_broken" zcg a.f_first_sure_broken d.f_first_sure_broken ["wood", "ties", "yes", "no"]
 K_cases_of : Df K mg "cases_of" zb5 a.f_cases_of d.f_cases_of ["wood", "ties", "yes", "no"]
 K_ware_leaf : Df K mg "ware_leaf" zfx a.f_ware_leaf d.f_ware_leaf ["wood", "yes", "no"]
 K_told_tree : Df K mg "told_tree" zdh a.f_told_tree d.f_told_tree ["wood", "ties", "yes", "no", "leaf_at"]
 K_first_ware : Df K mg "first_ware" zfd a.f_first_ware d.f_first_ware ["wood", "yes", "no"]
 K_first_keeping : Df K mg "first_keeping" zb1 a.f_first_keeping d.f_first_keeping ["wood", "ties", "yes", "no"]
 K_bars : Df K mg "bars" zpc a.f_bars d.f_bars ["wood", "ties", "yes", "no"]
 K_least_ties : Df K mg "least_ties" zfl a.f_least_ties d.f_least_ties ["wood", "yes", "no"]
 K_tie_others : Df K mg "tie_others" zdr a.f_tie_others d.f_tie_others ["wood", "ties", "yes", "no"]
 K_left_without : Df K mg "left_without" zb7 a.f_left_without d.f_left_without ["things", "one"]
 K_stand_of : Df K mg "stand_of" zhe a.f_stand_of d.f_stand_of ["picks"]
 K_open_at : Df K mg "open_at" zij a.f_open_at d.f_open_at ["wood", "picks"]
 K_first_ware_at : Df K mg "first_ware_at" zdl a.f_first_ware_at d.f_first_ware_at ["wood", "picks"]
 K_leads_on : Df K mg "leads_on" zhb a.f_leads_on d.f_leads_on ["wood", "picks", "pick"]
 K_why_barred : Df K mg "why_barred" ze7 a.f_why_barred d.f_why_barred ["wood", "picks", "asked"]
 K_least_picks : Df K mg "least_picks" zeq a.f_least_picks d.f_least_picks ["wood", "ties", "picks", "asked"]
 K_pick_others : Df K mg "pick_others" zes a.f_pick_others d.f_pick_others ["wood", "ties", "picks", "asked"]
 K_law_take : Df K mg "_law_take" zeb a.f_law_take d.f_law_take ["_law_state", "_law_most"]
 K_law_boughs : Df K mg "_law_boughs" zcf a.f_law_boughs d.f_law_boughs ["_law_state", "_law_many"]
 K_law_cross : Df K mg "_law_cross" zbp a.f_law_cross d.f_law_cross ["_law_state", "_law_many", "_law_most"]
 K_law_wood : Df K mg "_law_wood" zd2 a.f_law_wood d.f_law_wood ["_law_state", "_law_most"]
 K_law_keeps : Df K mg "_law_keeps" zdj a.f_law_keeps d.f_law_keeps ["_law_tie", "_law_some"]
 K_law_broken : Df K mg "_law_broken" zdp a.f_law_broken d.f_law_broken ["_law_wood_here"]
 K_law_heard : Df K mg "_law_heard" zfu a.f_law_heard d.f_law_heard ["_law_ask"]
 K_law_stand : Df K mg "_law_stand" zgb a.f_law_stand d.f_law_stand ["_law_chosen"]
 K_law_sets : Df K mg "_law_sets" zhj a.f_law_sets d.f_law_sets ["_law_broken_here", "_law_ties", "_law_chosen"]
 K_law_played : Df K mg "_law_played" zcd a.f_law_played d.f_law_played ["_law_state", "_law_choice", "_law_broken_here", "_law_many"]
 K_law_closed : Df K mg "_law_closed" zc2 a.f_law_closed d.f_law_closed ["_law_tree", "_law_ties", "_law_used"]
 K_law_open : Df K mg "_law_open" zfa a.f_law_open d.f_law_open ["_law_choice", "_law_k", "_law_value", "_law_offers"]
 K_law : Df K mg "law" zcj a.f_law d.f_law ["_law_script"]
 g_Choice___init__ : Mk K a.x_Choice a.f_Choice___init__
 K_Choice___init__ : Dm K "__init__" "Choice.__init__" zcz a.f_Choice___init__ d.f_Choice___init__ ["self", "wood"]
 g_Choice_chosen : zoj K a.x_Choice "chosen" a.f_Choice_chosen
 K_Choice_chosen : Dm K "chosen" "Choice.chosen" zdn a.f_Choice_chosen d.f_Choice_chosen ["self"]
 g_Choice_offers : zoj K a.x_Choice "offers" a.f_Choice_offers
 K_Choice_offers : Dm K "offers" "Choice.offers" zcm a.f_Choice_offers d.f_Choice_offers ["self"]
 g_Choice_choose : zoj K a.x_Choice "choose" a.f_Choice_choose
 K_Choice_choose : Dm K "choose" "Choice.choose" zb2 a.f_Choice_choose d.f_Choice_choose ["self", "k", "value"]
 g_Choice_take_back : zoj K a.x_Choice "take_back" a.f_Choice_take_back
 K_Choice_take_back : Dm K "take_back" "Choice.take_back" za7 a.f_Choice_take_back d.f_Choice_take_back ["self", "k"]
 g_Choice_why : zoj K a.x_Choice "why" a.f_Choice_why
 K_Choice_why : Dm K "why" "Choice.why" zcw a.f_Choice_why d.f_Choice_why ["self", "k", "value"]
 code_cases_of : d.f_cases_of.code = .ref a.c_cases_of
 code_law : d.f_law.code = .ref a.c_law
 g_Choice : mg "Choice" = some (.ref a.x_Choice)
 C_Choice : Cls K a.x_Choice
 n_Choice_picks : NoAttr K a.x_Choice "picks"
 n_Choice_wood : NoAttr K a.x_Choice "wood"
 g_WoodError : mg "WoodError" = some (.ref a.x_WoodError)
 g_NoWood : mg "NoWood" = some (.ref a.x_NoWood)
 g_NoCount : mg "NoCount" = some (.ref a.x_NoCount)
 g_NoWares : mg "NoWares" = some (.ref a.x_NoWares)
 g_NoOffer : mg "NoOffer" = some (.ref a.x_NoOffer)
 g_Unlike : mg "Unlike" = some (.ref a.x_Unlike)
 g_NoText : mg "NoText" = some (.ref a.x_NoText)
 g_NoRow : mg "NoRow" = some (.ref a.x_NoRow)
 g_NoName : mg "NoName" = some (.ref a.x_NoName)
 x_WoodError : zhi K a.x_WoodError
 x_NoWood : zhi K a.x_NoWood
 x_NoCount : zhi K a.x_NoCount
 x_NoWares : zhi K a.x_NoWares
 x_NoOffer : zhi K a.x_NoOffer
 x_Unlike : zhi K a.x_Unlike
 x_NoText : zhi K a.x_NoText
 x_NoRow : zhi K a.x_NoRow
 x_NoName : zhi K a.x_NoName
 k_NoWares_WoodError : PySem.W.kitOne K (.ref a.x_NoWares) (.ref a.x_WoodError) = some true
 k_NoWares_NoWood : PySem.W.kitOne K (.ref a.x_NoWares) (.ref a.x_NoWood) = some false
 k_NoWares_NoCount : PySem.W.kitOne K (.ref a.x_NoWares) (.ref a.x_NoCount) = some false
 k_NoWares_NoWares : PySem.W.kitOne K (.ref a.x_NoWares) (.ref a.x_NoWares) = some true
 k_NoWares_NoOffer : PySem.W.kitOne K (.ref a.x_NoWares) (.ref a.x_NoOffer) = some false
 k_NoWares_Unlike : PySem.W.kitOne K (.ref a.x_NoWares) (.ref a.x_Unlike) = some false
 k_NoWares_NoText : PySem.W.kitOne K (.ref a.x_NoWares) (.ref a.x_NoText) = some false
 k_NoWares_NoRow : PySem.W.kitOne K (.ref a.x_NoWares) (.ref a.x_NoRow) = some false
 k_NoWares_NoName : PySem.W.kitOne K (.ref a.x_NoWares) (.ref a.x_NoName) = some false
 v_NoWares : PySem.W.kitOne K (.ref a.x_NoWares) (.type "ValueError") = some true
 s_NoWares_WoodError : zon K a.x_NoWares a.x_WoodError = true
 k_NoOffer_WoodError : PySem.W.kitOne K (.ref a.x_NoOffer) (.ref a.x_WoodError) = some true
 k_NoOffer_NoWood : PySem.W.kitOne K (.ref a.x_NoOffer) (.ref a.x_NoWood) = some false
 k_NoOffer_NoCount : PySem.W.kitOne K (.ref a.x_NoOffer) (.ref a.x_NoCount) = some false
 k_NoOffer_NoWares : PySem.W.kitOne K (.ref a.x_NoOffer) (.ref a.x_NoWares) = some false
 k_NoOffer_NoOffer : PySem.W.kitOne K (.ref a.x_NoOffer) (.ref a.x_NoOffer) = some true
 k_NoOffer_Unlike : PySem.W.kitOne K (.ref a.x_NoOffer) (.ref a.x_Unlike) = some false
 k_NoOffer_NoText : PySem.W.kitOne K (.ref a.x_NoOffer) (.ref a.x_NoText) = some false
 k_NoOffer_NoRow : PySem.W.kitOne K (.ref a.x_NoOffer) (.ref a.x_NoRow) = some false
 k_NoOffer_NoName : PySem.W.kitOne K (.ref a.x_NoOffer) (.ref a.x_NoName) = some false
 v_NoOffer : PySem.W.kitOne K (.ref a.x_NoOffer) (.type "ValueError") = some true
 s_NoOffer_WoodError : zon K a.x_NoOffer a.x_WoodError = true
theorem zw5 : zay ["some", "k"] ["some", "k"] (zah zsz) := scm rfl rfl rfl rfl rfl
theorem zkp : zay ["some", "k"] ["some", "k"] (zah zew) := scm rfl rfl rfl rfl rfl
theorem zi6 : zay ["many", "yes", "no"] ["many", "yes", "no"] (zah zct) := scm rfl rfl rfl rfl rfl
theorem zmv : zay ["wood"] ["wood"] (zah zgg) := scm rfl rfl rfl rfl rfl
theorem sc_tie_at : zay ["wood", "t", "boughs"] ["wood", "t"] (zah zky) := scm rfl rfl rfl rfl rfl
theorem zom : zay ["kids", "some"] ["kids", "some"] (zah ze4) := scm rfl rfl rfl rfl rfl
theorem zm7 : zay ["wood"] ["wood"] (zah zf4) := scm rfl rfl rfl rfl rfl
theorem zkm : zay ["tie", "yes", "no"] ["tie", "yes", "no"] (zah zep) := scm rfl rfl rfl rfl rfl
theorem zmw : zay ["pairs", "yes", "no"] ["pairs", "yes", "no"] (zah zej) := scm rfl rfl rfl rfl rfl
theorem sc_sure_broken_bough : zay ["bough", "yes", "no", "least", "greatest", "some_with_up", "some_without_up"] ["bough", "yes", "no"] (zah za5) := scm rfl rfl rfl rfl rfl
theorem sc_first_sure_broken : zay ["wood", "ties", "yes", "no", "t"] ["wood", "ties", "yes", "no"] (zah zcg) := scm rfl rfl rfl rfl rfl
theorem zoe : zay ["wood", "ties", "yes", "no"] ["wood", "ties", "yes", "no"] (zah zb5) := scm rfl rfl rfl rfl rfl
theorem zmm : zay ["wood", "yes", "no"] ["wood", "yes", "no"] (zah zfx) := scm rfl rfl rfl rfl rfl
theorem sc_told_tree : zay ["wood", "ties", "yes", "no", "leaf_at", "broken", "leaf", "k", "one", "other"] ["wood", "ties", "yes", "no", "leaf_at"] (zah zdh) := scm rfl rfl rfl rfl rfl
theorem zla : zay ["wood", "yes", "no"] ["wood", "yes", "no"] (zah zfd) := scm rfl rfl rfl rfl rfl
theorem sc_first_keeping : zay ["wood", "ties", "yes", "no", "left", "k", "found"] ["wood", "ties", "yes", "no"] (zah zb1) := scm rfl rfl rfl rfl rfl
theorem zvb : zay ["wood", "ties", "yes", "no"] ["wood", "ties", "yes", "no"] (zah zpc) := scm rfl rfl rfl rfl rfl
theorem sc_least_ties : zay ["wood", "yes", "no", "left", "t", "fewer"] ["wood", "yes", "no"] (zah zfl) := scm rfl rfl rfl rfl rfl
theorem zlo : zay ["wood", "ties", "yes", "no"] ["wood", "ties", "yes", "no"] (zah zdr) := scm rfl rfl rfl rfl rfl
theorem zfn : zay ["things", "one"] ["things", "one"] (zah zb7) := scm rfl rfl rfl rfl rfl
theorem sc_stand_of : zay ["picks", "yes", "no", "k", "value"] ["picks"] (zah zhe) := scm rfl rfl rfl rfl rfl
theorem sc_open_at : zay ["wood", "picks", "stand"] ["wood", "picks"] (zah zij) := scm rfl rfl rfl rfl rfl
theorem sc_first_ware_at : zay ["wood", "picks", "stand"] ["wood", "picks"] (zah zdl) := scm rfl rfl rfl rfl rfl
theorem zos : zay ["wood", "picks", "pick"] ["wood", "picks", "pick"] (zah zhb) := scm rfl rfl rfl rfl rfl
theorem sc_why_barred : zay ["wood", "picks", "asked", "stand", "ties", "left", "tree", "others"] ["wood", "picks", "asked"] (zah ze7) := scm rfl rfl rfl rfl rfl
theorem sc_least_picks : zay ["wood", "ties", "picks", "asked", "left", "pick", "fewer", "stand"] ["wood", "ties", "picks", "asked"] (zah zeq) := scm rfl rfl rfl rfl rfl
theorem sc_pick_others : zay ["wood", "ties", "picks", "asked", "others", "pick", "stand"] ["wood", "ties", "picks", "asked"] (zah zes) := scm rfl rfl rfl rfl rfl
theorem sc_law_take : zay ["_law_state", "_law_most", "_law_script", "_law_at", "_law_number"] ["_law_state", "_law_most"] (zah zeb) := scm rfl rfl rfl rfl rfl
theorem sc_law_boughs : zay ["_law_state", "_law_many", "_law_groups", "_law_k", "_law_up", "_law_old", "_law_boughs_here", "_law_kids", "_law_size", "_law_low", "_law_high"] ["_law_state", "_law_many"] (zah zcf) := scm rfl rfl rfl rfl rfl
theorem sc_law_cross : zay ["_law_state", "_law_many", "_law_most", "_law_cross_here", "_law_turn", "_law_one", "_law_other", "_law_way", "_law_far", "_law_pairs", "_law_total", "_law_top"] ["_law_state", "_law_many", "_law_most"] (zah zbp) := scm rfl rfl rfl rfl rfl
theorem sc_law_wood : zay ["_law_state", "_law_most", "_law_many"] ["_law_state", "_law_most"] (zah zd2) := scm rfl rfl rfl rfl rfl
theorem sc_law_keeps : zay ["_law_tie", "_law_some", "_law_up", "_law_low", "_law_high", "_law_kids", "_law_count"] ["_law_tie", "_law_some"] (zah zdj) := scm rfl rfl rfl rfl rfl
theorem sc_law_broken : zay ["_law_wood_here", "_law_found", "_law_t", "_law_tie", "_law_some"] ["_law_wood_here"] (zah zdp) := scm rfl rfl rfl rfl rfl
theorem sc_law_heard : zay ["_law_ask", "_law_caught", "e", "_law_other"] ["_law_ask"] (zah zfu) := scm rfl rfl rfl rfl rfl
theorem sc_law_stand : zay ["_law_chosen", "_law_yes", "_law_no", "_law_k", "_law_value"] ["_law_chosen"] (zah zgb) := scm rfl rfl rfl rfl rfl
theorem sc_law_sets : zay ["_law_broken_here", "_law_ties", "_law_chosen", "_law_yes", "_law_no", "_law_found", "_law_some"] ["_law_broken_here", "_law_ties", "_law_chosen"] (zah zhj) := scm rfl rfl rfl rfl rfl
theorem sc_law_played : zay ["_law_state", "_law_choice", "_law_broken_here", "_law_many", "_law_chosen", "_law_turn", "_law_k", "_law_value", "_law_left"] ["_law_state", "_law_choice", "_law_broken_here", "_law_many"] (zah zcd) := scm rfl rfl rfl rfl rfl
theorem zk8 : zay ["_law_tree", "_law_ties", "_law_used"] ["_law_tree", "_law_ties", "_law_used"] (zah zc2) := scm rfl rfl rfl rfl rfl
theorem sc_law_open : zay ["_law_choice", "_law_k", "_law_value", "_law_offers", "_law_got"] ["_law_choice", "_law_k", "_law_value", "_law_offers"] (zah zfa) := scm rfl rfl rfl rfl rfl
theorem sc_law : zay ["_law_script", "_law_state", "_law_wood_here", "_law_choice", "_law_chosen", "_law_offers", "_law_turn", "_law_k", "_law_value", "_law_named"] ["_law_script"] (zah zcj) := scm rfl rfl rfl rfl rfl
theorem zg9 : zay ["self", "wood"] ["self", "wood"] (zah zcz) := scm rfl rfl rfl rfl rfl
theorem zil : zay ["self"] ["self"] (zah zdn) := scm rfl rfl rfl rfl rfl
theorem sc_Choice_offers : zay ["self", "pairs", "k"] ["self"] (zah zcm) := scm rfl rfl rfl rfl rfl
theorem zex : zay ["self", "k", "value"] ["self", "k", "value"] (zah zb2) := scm rfl rfl rfl rfl rfl
theorem zdo : zay ["self", "k"] ["self", "k"] (zah za7) := scm rfl rfl rfl rfl rfl
theorem zgy : zay ["self", "k", "value"] ["self", "k", "value"] (zah zcw) := scm rfl rfl rfl rfl rfl
section
variable {P : Program} {w : World} {K : PySem.W.Frag} {mg : Str → Option Value} {base : Heap} {a : Adr} {d : Fds}
def zxz : Sp := fun vs H Q _ => ∃ n k : Int, vs = [.int n, .int k] ∧ Q (.bl (zox n k)) H
theorem zie (T : Txt K mg a d) : FnOk P w K mg base CX0 1 a.f_has d.f_has ["some", "k"] zxz := by
 refine T.K_has.ok zw5 (fun vs H Q E h => ?_) (fun cdv A outer s H vs Q E hr h => ?_)
 ·obtain ⟨n, k, rfl, _⟩ := h
  rfl
 obtain ⟨n, k, rfl, q⟩ := h
 refine ⟨_, (zai (zap (zdk (zbc zye (pv 1) zad (zaq _)) (zd4 (zbc zbq (zax zd3 (zax zf0 (pv 0) (pv 1)) zad) zad (zaq _)))))), ?_⟩
 refine ⟨_, rfl, _, _, rfl, rfl, _, rfl, ?_⟩
 refine zci (fun c => ?_) (fun c => ?_)
 ·have hk : (0 : Int) ≤ k := of_decide_eq_true c
  refine ⟨_, rfl, _, rfl, _, _, rfl, rfl, hk, _, _, rfl, rfl, rfl, ?_⟩
  have e : decide (V.int (Builtin.bitAnd (n / 2 ^ k.toNat) 1) = V.int 1) = zox n k := by
   unfold zox
   rw [decide_eq_true hk, Bool.true_and, zjg, zx0]
   by_cases z : n / 2 ^ k.toNat % 2 = 1
   ·rw [decide_eq_true z]
    simpa using z
   ·rw [decide_eq_false z]
    simpa using z
  show Q (.bl (decide (V.int (Builtin.bitAnd (n / 2 ^ k.toNat) 1) = V.int 1))) H
  rw [e]
  exact q
 ·have hk : ¬ (0 : Int) ≤ k := of_decide_eq_false (Bool.eq_false_iff.mpr c)
  have e : zox n k = false := by
   unfold zox
   rw [decide_eq_false hk, Bool.false_and]
  rw [e] at q
  exact q
theorem zcy (T : Txt K mg a d) : FnOk P w K mg base CX0 1 a.f_with_option d.f_with_option ["some", "k"] zuk := by
 refine T.K_with_option.ok zkp (fun vs H Q E h => ?_) (fun cdv A outer s H vs Q E hr h => ?_)
 ·obtain ⟨n, k, rfl, _⟩ := h
  rfl
 obtain ⟨n, k, rfl, hk, q⟩ := h
 refine ⟨_, (zai (zap (zax zno (pv 0) (zax zih zad (pv 1))))), ?_⟩
 refine ⟨_, rfl, _, rfl, _, _, rfl, rfl, ⟨by omega, by omega, by decide⟩, _, _, rfl, rfl, ?_⟩
 have e : Builtin.bitOr (n : Int) (1 * 2 ^ ((k : Nat) : Int).toNat) = ((n ||| 2 ^ k : Nat) : Int) := by rw [zlm, zh3]
 show Q (.int (Builtin.bitOr (n : Int) (1 * 2 ^ ((k : Nat) : Int).toNat))) H
 rw [e]
 exact q
theorem zcn (T : Txt K mg a d) : FnOk P w K mg base CX0 2 a.f_open_options d.f_open_options ["many", "yes", "no"] zwi := by
 have aa := zie (P := P) (w := w) (base := base) T
 refine T.K_open_options.ok zi6 (fun vs H Q E h => ?_) (fun cdv A outer s H vs Q E hr h => ?_)
 ·obtain ⟨m, y, n, rfl, _⟩ := h
  rfl
 obtain ⟨m, y, n, rfl, m9, q⟩ := h
 have ad : (2 : Int) ^ 62 = 4611686018427387904 := by decide
 refine ⟨_, (zai (zap (zeo (N' := ["k", "yes", "no"]) (n := 1) (kp := [1, 2]) rfl (zcs rfl T.m_range (zaa (pv 0) zab)) rfl rfl rfl (fun _ _ _ _ _ => (zaw (i := 0) (of_decide_eq_true rfl) rfl (Or.inl rfl))) (fun _ _ _ _ _ => (zcl (zf2 (zbo (zag aa hr.lv rfl T.K_has (zaa (zax zno (pv 1) (pv 2)) (zaa (pv 0) zab))))))) (fun _ _ _ _ _ => (pv 0))))), ?_⟩
 refine ⟨_, rfl, _, rfl, by rw [ad]; omega, by rw [ad]; omega, ?_⟩
 rw [Int.toNat_natCast]
 refine zh9 (k := m) (fun i ys σ H2 => (∃ v, σ = [v, some (.int y), some (.int n)]) ∧ H2 = H ∧ i ≤ m ∧ ys = zal ((List.range i).filter fun k => !(y ||| n).testBit k)) ⟨⟨none, rfl⟩, rfl, Nat.zero_le _, rfl⟩ (fun i ys σ H2 hi pv => ?_) (fun i ys σ H2 hi pv => ?_) (fun ys σ H2 pv fl ac => ?_)
 ·obtain ⟨_, _, h1, rfl⟩ := pv
  rw [List.length_map]
  refine zar (Nat.le_trans (List.length_filter_le _ _) ?_)
  rw [List.length_range]
  omega
 ·obtain ⟨⟨v0, rfl⟩, rfl, h1, rfl⟩ := pv
  refine ⟨_, rfl, _, rfl, _, _, rfl, rfl, _, rfl, _, _, rfl, _, rfl, ?_⟩
  have ee := zhx (fun k => !(y ||| n).testBit k) i
  rw [zh3, zb8]
  refine zci (fun c2 => ?_) (fun c2 => ?_)
  ·refine ⟨_, rfl, ⟨_, rfl⟩, rfl, hi, ?_⟩
   rw [ee, if_pos c2]
   show _ = List.map _ (_ ++ [i])
   rw [List.map_append]
   rfl
  ·refine ⟨⟨_, rfl⟩, rfl, hi, ?_⟩
   rw [ee, if_neg c2, List.append_nil]
 obtain ⟨_, rfl, _, rfl⟩ := pv
 exact q fl _ (zaf ac _) ac zac
theorem zmy (T : Txt K mg a d) : FnOk P w K mg base CX0 1 a.f_many_ties d.f_many_ties ["wood"] zv8 := by
 refine T.K_many_ties.ok zmv (fun vs H Q E h => ?_) (fun cdv A outer s H vs Q E hr h => ?_)
 ·obtain ⟨wd, many, xs, ys, rfl, _⟩ := h
  rfl
 obtain ⟨wd, many, xs, ys, rfl, ⟨tb, tc, hw, hb, hc⟩, q⟩ := h
 refine ⟨_, (zai (zap (zax zbx (zaz (zdw (K := K)) rfl T.m_len PySem.boot_len (zaa (zat (ixT (K := K)) (pv 0) zad (fun _ _ => rfl)) zab)) (zaz (zdw (K := K)) rfl T.m_len PySem.boot_len (zaa (zat (ixT (K := K)) (pv 0) zad (fun _ _ => rfl)) zab))))), ?_⟩
 exact ⟨_, rfl, wd, _, _, _, rfl, rfl, sqT hw, at1, tb, _, rfl, .inr (sqT hb), _, rfl, wd, _, _, _, rfl, rfl, sqT hw, at2, tc, _, rfl, .inr (sqT hc), _, _, rfl, rfl, q⟩
theorem zrp (T : Txt K mg a d) : FnOk P w K mg base CX0 1 a.f_tie_at d.f_tie_at ["wood", "t"] zvk := by
 refine T.K_tie_at.ok sc_tie_at (fun vs H Q E h => ?_) (fun cdv A outer s H vs Q E hr h => ?_)
 ·obtain ⟨wd, many, xs, ys, t, v, rfl, _⟩ := h
  rfl
 obtain ⟨wd, many, xs, ys, t, v, rfl, ⟨tb, tc, hw, hb, hc⟩, hv, q⟩ := h
 refine ⟨_, (zae (zao (i := 2) sc_tie_at.nd rfl (Or.inl rfl) (zat (ixT (K := K)) (pv 0) zad (fun _ _ => rfl)))
   (zae (za4 (zan zki (pv 1) (zaz (zdw (K := K)) rfl T.m_len PySem.boot_len (zaa (pv 2) zab)) (zaq _)) (zai (zap (zat (ixT (K := K)) (pv 2) (pv 1) (fun _ _ => rfl)))) za0)
   (zai (zap (zat (ixT (K := K)) (zat (ixT (K := K)) (pv 0) zad (fun _ _ => rfl)) (zax zfz (pv 1) (zaz (zdw (K := K)) rfl T.m_len PySem.boot_len (zaa (pv 2) zab))) (fun _ _ => rfl)))))), ?_⟩
 refine ⟨_, rfl, wd, _, _, _, rfl, rfl, sqT hw, at1, ?_⟩
 refine ⟨_, rfl, _, rfl, tb, _, rfl, .inr (sqT hb), _, _, rfl, rfl, _, rfl, ?_⟩
 refine zci (fun c => ?_) (fun c => ?_)
 ·have c' : (t : Int) < (xs.length : Nat) := of_decide_eq_true c
  rw [List.getElem?_append_left (by omega)] at hv
  exact ⟨_, rfl, _, rfl, tb, _, _, _, rfl, rfl, sqT hb, zdx hv, q⟩
 ·have c' : ¬ (t : Int) < (xs.length : Nat) := of_decide_eq_false (Bool.eq_false_iff.mpr c)
  rw [List.getElem?_append_right (by omega)] at hv
  have e : ((t : Int) - ((xs.length : Nat) : Int)) = ((t - xs.length : Nat) : Int) := by omega
  refine ⟨_, rfl, wd, _, _, _, rfl, rfl, sqT hw, at2, _, rfl, _, rfl, tb, _, rfl, .inr (sqT hb), _, _, rfl, rfl, tc, _, _, _, rfl, rfl, sqT hc, ?_, q⟩
  show atI ys ((t : Int) - ((xs.length : Nat) : Int)) = some v
  rw [e]
  exact zdx hv
def zvh : Sp := fun vs H Q _ => ∃ (p : Addr) (ks : List Nat) (n : Nat), vs = [.ref p, .int n] ∧ H p = some (.tup (ks.map fun k : Nat => V.int (k : Int))) ∧ ks.length ≤ 1000 ∧ ∀ H', Same H H' → Q (.int (cnt ks n : Nat)) H'
theorem znt (T : Txt K mg a d) : FnOk P w K mg base CX0 2 a.f_count_in d.f_count_in ["kids", "some"] zvh := by
 have aa := zie (P := P) (w := w) (base := base) T
 refine T.K_count_in.ok zom (fun vs H Q E h => ?_) (fun cdv A outer s H vs Q E hr h => ?_)
 ·obtain ⟨p, ks, n, rfl, _⟩ := h
  rfl
 obtain ⟨p, ks, n, rfl, hp, hk, q⟩ := h
 refine ⟨_, (zai (zap (zaz (zdw (K := K)) rfl T.m_len PySem.boot_len (zaa (zeo (N' := ["k", "some"]) (n := 1) (kp := [1]) rfl (piT (K := K) (pv 0)) rfl rfl rfl (fun _ _ _ _ _ => (zaw (i := 0) (of_decide_eq_true rfl) rfl (Or.inl rfl))) (fun _ _ _ _ _ => (zcl (zbo (zag aa hr.lv rfl T.K_has (zaa (pv 1) (zaa (pv 0) zab)))))) (fun _ _ _ _ _ => (pv 0))) zab)))), ?_⟩
 refine ⟨_, rfl, p, rfl, ⟨_, sqT hp⟩, ?_⟩
 refine znf (K := K) (a := p) (xs := ks.map fun k : Nat => V.int (k : Int)) (fun i ys σ H2 => (∃ v, σ = [v, some (.int n)]) ∧ H2 = H ∧ i ≤ ks.length ∧ ys = ((ks.take i).filter fun k => n.testBit k).map fun k : Nat => V.int (k : Int)) ⟨⟨none, rfl⟩, rfl, Nat.zero_le _, rfl⟩ (fun i ys σ H2 hi pv => ?_) (fun i ys σ H2 hi pv => ?_) (fun i x ys σ H2 hx pv => ?_) (fun ys σ H2 pv l hl => ?_)
 ·obtain ⟨_, _, h1, rfl⟩ := pv
  rw [List.length_map]
  refine zar (Nat.le_trans (List.length_filter_le _ _) ?_)
  rw [List.length_take]
  omega
 ·rw [pv.2.1]
  exact sqT hp
 ·obtain ⟨⟨v, rfl⟩, rfl, h1, rfl⟩ := pv
  rw [List.getElem?_map] at hx
  obtain ⟨k, ac, rfl⟩ := Option.map_eq_some_iff.mp hx
  have hj : i < ks.length := (List.getElem?_eq_some_iff.mp ac).1
  have ee := PySem.take_succ_filter (fun k => n.testBit k) ks i k ac
  refine ⟨_, rfl, _, rfl, _, _, rfl, _, rfl, ?_⟩
  rw [zb8]
  refine zci (fun c => ?_) (fun c => ?_)
  ·refine ⟨_, rfl, ⟨_, rfl⟩, rfl, hj, ?_⟩
   rw [ee, if_pos c, List.map_append]
   rfl
  ·refine ⟨⟨_, rfl⟩, rfl, hj, ?_⟩
   rw [ee, if_neg c, List.append_nil]
 ·obtain ⟨_, rfl, _, rfl⟩ := pv
  have ad : ∀ L : List V, L.length = cnt ks n → ∀ H', Same H2 H' → Q (.int (L.length : Nat)) H' := fun L e H' sm => by
   rw [e]
   exact q H' sm
  exact ⟨l, _, rfl, .inl (SqL.of zac), ad _ (by simp [cnt]) _ (zaf hl _)⟩
theorem zhy (T : Txt K mg a d) : FnOk P w K mg base CX0 2 a.f_every_tie d.f_every_tie ["wood"] zuw := by
 have aa := zmy (P := P) (w := w) (base := base) T
 refine T.K_every_tie.ok zm7 (fun vs H Q E h => ?_) (fun cdv A outer s H vs Q E hr h => ?_)
 ·obtain ⟨wd, m, ts, rfl, _⟩ := h
  rfl
 obtain ⟨wd, m, ts, rfl, W, q⟩ := h
 have ac : (2 : Int) ^ 62 = 4611686018427387904 := by decide
 obtain ⟨xs, ys, WA, dn⟩ := W.ex
 have few := W.few
 have ln : ts.length = xs.length + ys.length := by
  have := dn.length
  rw [List.length_map, List.length_append] at this
  exact this
 refine ⟨_, (zai (zap (zbv (zk9 rfl) rfl T.m_list PyProof.Rows.boot_list (zaa (zbv zq1 rfl T.m_range PyProof.Rows.boot_range (zaa (zag aa hr.lv rfl T.K_many_ties (zaa (pv 0) zab)) zab)) zab)))), ?_⟩
 refine ⟨_, rfl, wd, m, xs, ys, rfl, WA, _, rfl, fun rp ad => ?_⟩
 refine ⟨rp, 0, _, rfl, zac, by rw [ac]; omega, by rw [ac]; omega, by rw [ac]; omega, by rw [ac]; omega, by omega, fun l hl => ?_⟩
 have e : ((List.range' 0 ((xs.length : Int) + (ys.length : Int) - 0).toNat).map fun i : Nat => V.int (0 + (i : Int))) = (List.range ts.length).map fun i : Nat => V.int (i : Int) := by
  have e1 : ((xs.length : Int) + (ys.length : Int) - 0).toNat = ts.length := by omega
  rw [e1, List.range_eq_range']
  simp
 rw [e]
 have s1 := (zaf ad (.rng 0 ((xs.length : Int) + (ys.length : Int)))).trans (zaf hl (.lst ((List.range ts.length).map fun i : Nat => V.int (i : Int))))
 exact q l _ s1 ((zaf ad (.rng 0 ((xs.length : Int) + (ys.length : Int)))).free hl) zac
theorem zft (T : Txt K mg a d) : FnOk P w K mg base CX0 3 a.f_sure_broken_bough d.f_sure_broken_bough ["bough", "yes", "no"] (zum Tie.sb) := by
 have ac := zie (P := P) (w := w) (base := base) T
 have aa := znt (P := P) (w := w) (base := base) T
 refine T.K_sure_broken_bough.ok sc_sure_broken_bough (fun vs H Q E h => ?_) (fun cdv A outer s H vs Q E hr h => ?_)
 ·obtain ⟨u, lo, hi, ks, m, y, n, v, rfl, _⟩ := h
  rfl
 obtain ⟨u, lo, hi, ks, m, y, n, v, rfl, hd, ok, hm, q⟩ := h
 obtain ⟨p, pk, rfl, hp, ai⟩ := zjr hd
 have few := ok.few
 have ah : ∃ t, PSs (zb3 CX0 P w K mg base ["bough", "yes", "no", "least", "greatest", "some_with_up", "some_without_up"] "sure_broken_bough" (zah za5) a.f_sure_broken_bough cdv A outer s H E).nox ((za2 za5).drop 4) t ∧ ∀ (v3 v4 : Option V) (b5 b6 : Bool) (H1 : Hp), Same H H1 → (!b5 && !b6) = (Tie.bough u lo hi ks).sb y n → t { nx := fun _ H' => Q .non H', rt := Q } [some (.ref p), some (.int y), some (.int n), v3, v4, some (.bl b5), some (.bl b6)] H1 := by
  refine ⟨_, (zai (zap (zdk (zjl (pv 5)) (zd4 (zjl (pv 6)))))), ?_⟩
  intro v3 v4 b5 b6 H1 s1 e
  have q1 := q H1 s1
  rw [← e] at q1
  refine ⟨_, rfl, _, rfl, _, rfl, ?_⟩
  refine zci (fun c => ?_) (fun c => ?_)
  ·rw [c, Bool.true_and] at q1
   exact ⟨_, rfl, _, rfl, q1⟩
  ·rw [Bool.eq_false_iff.mpr c, Bool.false_and] at q1
   exact q1
 obtain ⟨t4, h4, r4⟩ := ah
 have af : ∃ t, PSs (zb3 CX0 P w K mg base ["bough", "yes", "no", "least", "greatest", "some_with_up", "some_without_up"] "sure_broken_bough" (zah za5) a.f_sure_broken_bough cdv A outer s H E).nox ((za2 za5).drop 3) t ∧ ∀ (g : Int) (b5 : Bool) (H1 : Hp), Same H H1 → g = (ks.length : Int) - cnt ks n → b5 = (!n.testBit u && (decide ((cnt ks y : Int) ≤ hi) && decide (lo ≤ g))) → t { nx := fun _ H' => Q .non H', rt := Q } [some (.ref p), some (.int y), some (.int n), some (.int (cnt ks y : Nat)), some (.int g), some (.bl b5), none] H1 := by
  refine ⟨_, (zae (zao (i := 6) sc_sure_broken_bough.nd rfl (Or.inl rfl) (zdk (zjl (zag ac hr.lv rfl T.K_has (zaa (pv 1) (zaa (zat (ixT (K := K)) (pv 0) zad (fun _ _ => rfl)) zab)))) (zd4 (zbc zbq (pv 3) zad (zaq _)))))
   h4), ?_⟩
  intro g b5 H1 s1 eg e5
  have ad := s1 _ _ hp
  refine ⟨_, rfl, _, rfl, p, _, _, _, rfl, rfl, sqT ad, at0, _, _, rfl, _, rfl, _, rfl, ?_⟩
  rw [zb8]
  refine zci (fun c => ?_) (fun c => ?_)
  ·refine ⟨_, rfl, rfl, ?_⟩
   refine r4 _ _ _ _ _ s1 ?_
   rw [e5, eg, zh5]
   show _ = (!_ && !(!y.testBit u && decide (cnt ks y = 0)))
   rw [c, Bool.true_and]
  ·refine r4 _ _ _ _ _ s1 ?_
   rw [e5, eg]
   show _ = (!_ && !(!y.testBit u && decide (cnt ks y = 0)))
   rw [Bool.eq_false_iff.mpr c, Bool.false_and]
 obtain ⟨t3, h3, r3⟩ := af
 have ag : ∃ t, PSs (zb3 CX0 P w K mg base ["bough", "yes", "no", "least", "greatest", "some_with_up", "some_without_up"] "sure_broken_bough" (zah za5) a.f_sure_broken_bough cdv A outer s H E).nox ((za2 za5).drop 2) t ∧ ∀ (g : Int) (H1 : Hp), Same H H1 → g = (ks.length : Int) - cnt ks n → t { nx := fun _ H' => Q .non H', rt := Q } [some (.ref p), some (.int y), some (.int n), some (.int (cnt ks y : Nat)), some (.int g), none, none] H1 := by
  refine ⟨_, (zae (zao (i := 5) sc_sure_broken_bough.nd rfl (Or.inl rfl) (zdk (zjl (zag ac hr.lv rfl T.K_has (zaa (pv 2) (zaa (zat (ixT (K := K)) (pv 0) zad (fun _ _ => rfl)) zab)))) (zdk (zbc zl9 (pv 3) (zat (ixT (K := K)) (pv 0) zad (fun _ _ => rfl)) (zaq _)) (zd4 (zbc zl9 (zat (ixT (K := K)) (pv 0) zad (fun _ _ => rfl)) (pv 4) (zaq _))))))
   h3), ?_⟩
  intro g H1 s1 eg
  have ad := s1 _ _ hp
  refine ⟨_, rfl, _, rfl, p, _, _, _, rfl, rfl, sqT ad, at0, _, _, rfl, _, rfl, _, rfl, ?_⟩
  rw [zb8]
  refine zci (fun c => ?_) (fun c => ?_)
  ·refine ⟨_, rfl, _, rfl, p, _, _, _, rfl, rfl, sqT ad, at2, _, _, rfl, rfl, _, rfl, ?_⟩
   refine zci (fun c2 => ?_) (fun c2 => ?_)
   ·refine ⟨_, rfl, p, _, _, _, rfl, rfl, sqT ad, at1, _, rfl, _, _, rfl, rfl, ?_⟩
    exact r3 _ _ _ s1 eg (by rw [c, Bool.true_and, c2, Bool.true_and])
   ·exact r3 _ _ _ s1 eg (by rw [c, Bool.true_and, Bool.eq_false_iff.mpr c2, Bool.false_and])
  ·exact r3 _ _ _ s1 eg (by rw [Bool.eq_false_iff.mpr c, Bool.false_and])
 obtain ⟨t2, h2, r2⟩ := ag
 refine ⟨_, (zae (zao (i := 3) sc_sure_broken_bough.nd rfl (Or.inl rfl) (zag aa hr.lv rfl T.K_count_in (zaa (zat (ixT (K := K)) (pv 0) zad (fun _ _ => rfl)) (zaa (pv 1) zab))))
   (zae (zao (i := 4) sc_sure_broken_bough.nd rfl (Or.inl rfl) (zax zfz (zaz (zdw (K := K)) rfl T.m_len PySem.boot_len (zaa (zat (ixT (K := K)) (pv 0) zad (fun _ _ => rfl)) zab)) (zag aa hr.lv rfl T.K_count_in (zaa (zat (ixT (K := K)) (pv 0) zad (fun _ _ => rfl)) (zaa (pv 2) zab)))))
   h2)), ?_⟩
 refine ⟨_, rfl, p, _, _, _, rfl, rfl, sqT hp, at3, _, rfl, pk, ks, y, rfl, ai, by omega, fun H1 s1 => ?_⟩
 have ad := s1 _ _ hp
 have ae := s1 _ _ ai
 refine ⟨_, rfl, p, _, _, _, rfl, rfl, sqT ad, at3, pk, _, rfl, .inr (sqT ae), ?_⟩
 refine ⟨_, rfl, p, _, _, _, rfl, rfl, sqT ad, at3, _, rfl, pk, ks, n, rfl, ae, by omega, fun H2 s2 => ?_⟩
 refine ⟨_, _, rfl, rfl, ?_⟩
 exact r2 _ _ (s1.trans s2) (by rw [List.length_map])
theorem zlc (T : Txt K mg a d) : FnOk P w K mg base CX0 2 a.f_least_sum d.f_least_sum ["pairs", "yes", "no"] (zt2 zee) := by
 have aa := zie (P := P) (w := w) (base := base) T
 refine T.K_least_sum.ok zmw (fun vs H Q E h => ?_) (fun cdv A outer s H vs Q E hr h => ?_)
 ·obtain ⟨pq, xs, ps, y, n, rfl, _⟩ := h
  rfl
 obtain ⟨pq, xs, ps, y, n, rfl, hq, ac, few, q⟩ := h
 have lx : xs.length = ps.length := by rw [← ac.length, List.length_map]
 refine ⟨_, (zai (zap (zaz (zev rfl) rfl T.m_sum PyProof.Rows.boot_sum (zaa (zeo (N' := ["k", "number", "yes", "no"]) (n := 2) (kp := [1, 2]) rfl (zw9 (pv 0)) rfl rfl rfl (fun _ _ _ _ _ => (pgT (K := K) (n := 2) rfl (za3 (zaw (i := 0) (of_decide_eq_true rfl) rfl (Or.inl rfl)) (za3 (zaw (i := 1) (of_decide_eq_true rfl) rfl (Or.inl rfl)) zce)))) (fun _ _ _ _ _ => (zcl (PW.pt (zg2 (zbo (zag aa hr.lv rfl T.K_has (zaa (pv 2) (zaa (pv 0) zab)))) (zhf (PW.pt (zgc (zan zki (pv 1) zad (zaq _)) (zfg (zf2 (zbo (zag aa hr.lv rfl T.K_has (zaa (pv 3) (zaa (pv 0) zab))))))))))))) (fun _ _ _ _ _ => (pv 1))) zab)))), ?_⟩
 refine ⟨_, rfl, pq, rfl, ?_⟩
 refine zwv (K := K) (a := pq) (xs := xs) hq (fun i ys σ H2 => (∃ v v', σ = [v, v', some (.int y), some (.int n)]) ∧ H2 = H ∧ i ≤ ps.length ∧ ys = (((ps.take i).filter fun p => y.testBit p.1 || (decide (p.2 < 0) && !n.testBit p.1)).map (·.2)).map V.int) ⟨⟨none, none, rfl⟩, rfl, Nat.zero_le _, rfl⟩ (fun i ys σ H2 hi pv => ?_) (fun i ys σ H2 hi pv => ?_) (fun i x ys σ H2 hx pv => ?_) (fun ys σ H2 pv l hl => ?_)
 ·obtain ⟨_, _, h1, rfl⟩ := pv
  rw [List.length_map, List.length_map]
  refine zar (Nat.le_trans (List.length_filter_le _ _) ?_)
  rw [List.length_take]
  omega
 ·rw [pv.2.1]
 ·obtain ⟨⟨v, v', rfl⟩, rfl, h1, rfl⟩ := pv
  obtain ⟨pr, r, ae, rfl, af⟩ := zqe ac hx
  have hj : i < ps.length := (List.getElem?_eq_some_iff.mp ae).1
  have ee := PySem.take_succ_filter (fun p : Nat × Int => y.testBit p.1 || (decide (p.2 < 0) && !n.testBit p.1)) ps i pr ae
  have yes : (y.testBit pr.1 || (decide (pr.2 < 0) && !n.testBit pr.1)) = true → ((((ps.take i).filter fun p => y.testBit p.1 || (decide (p.2 < 0) && !n.testBit p.1)).map (·.2)).map V.int) ++ [V.int pr.2] = (((ps.take (i + 1)).filter fun p => y.testBit p.1 || (decide (p.2 < 0) && !n.testBit p.1)).map (·.2)).map V.int := fun c => by
   rw [ee, if_pos c, List.map_append, List.map_append]
   rfl
  have ad : (y.testBit pr.1 || (decide (pr.2 < 0) && !n.testBit pr.1)) = false → ((((ps.take i).filter fun p => y.testBit p.1 || (decide (p.2 < 0) && !n.testBit p.1)).map (·.2)).map V.int) = (((ps.take (i + 1)).filter fun p => y.testBit p.1 || (decide (p.2 < 0) && !n.testBit p.1)).map (·.2)).map V.int := fun c => by
   rw [ee, if_neg (by rw [c]; exact Bool.false_ne_true), List.append_nil]
  refine ⟨r, _, rfl, sqT af, rfl, _, _, rfl, _, _, rfl, rfl, ?_⟩
  refine ⟨_, rfl, _, rfl, _, _, rfl, _, rfl, ?_⟩
  rw [zb8]
  refine zci (fun c => ?_) (fun c => ?_)
  ·refine zll ?_
   exact ⟨_, rfl, ⟨_, _, rfl⟩, rfl, hj, yes (by rw [c, Bool.true_or])⟩
  ·have c' := Bool.eq_false_iff.mpr c
   refine ⟨_, rfl, _, _, rfl, rfl, _, rfl, ?_⟩
   refine zci (fun c2 => ?_) (fun c2 => ?_)
   ·refine ⟨_, rfl, _, rfl, _, _, rfl, _, rfl, ?_⟩
    rw [zb8]
    refine zci (fun c3 => ?_) (fun c3 => ?_)
    ·exact ⟨_, rfl, ⟨_, _, rfl⟩, rfl, hj, yes (by rw [c', Bool.false_or, c2, Bool.true_and, c3])⟩
    ·exact ⟨⟨_, _, rfl⟩, rfl, hj, ad (by rw [c', Bool.false_or, c2, Bool.true_and, Bool.eq_false_iff.mpr c3])⟩
   ·refine zd1 ?_
    exact ⟨⟨_, _, rfl⟩, rfl, hj, ad (by rw [c', Bool.false_or, Bool.eq_false_iff.mpr c2, Bool.false_and])⟩
 ·obtain ⟨_, rfl, _, rfl⟩ := pv
  refine ⟨l, _, rfl, SqL.of zac, ?_⟩
  have q1 := q _ (zaf hl (.lst ((((ps.take xs.length).filter fun p => y.testBit p.1 || (decide (p.2 < 0) && !n.testBit p.1)).map (·.2)).map V.int)))
  have e : zee ps y n = (((ps.take xs.length).filter fun p => y.testBit p.1 || (decide (p.2 < 0) && !n.testBit p.1)).map (·.2)).sum := by
   rw [lx, List.take_length]
   rfl
  rw [e] at q1
  exact q1
theorem zmq (T : Txt K mg a d) : FnOk P w K mg base CX0 2 a.f_least_sum d.f_least_sum ["pairs", "yes", "no"] (zvx zee) := (zlc T).imp fun _ _ _ _ => zro
theorem zk0 (T : Txt K mg a d) : FnOk P w K mg base CX0 4 a.f_sure_broken d.f_sure_broken ["tie", "yes", "no"] (zwa Tie.sb) := by
 have ad := zie (P := P) (w := w) (base := base) T
 have ac := zmq (P := P) (w := w) (base := base) T
 have aa := zft (P := P) (w := w) (base := base) T
 refine T.K_sure_broken.ok zkm (fun vs H Q E h => ?_) (fun cdv A outer s H vs Q E hr h => ?_)
 ·obtain ⟨t, m, y, n, v, rfl, _⟩ := h
  rfl
 obtain ⟨t, m, y, n, v, rfl, hd, ok, hm, q⟩ := h
 have q0 := q H (Same.refl H)
 refine ⟨_, (zae (za4 (zan zbq (zat (ixT (K := K)) (pv 0) zad (fun _ _ => rfl)) zbe (zaq _)) (zai (zap (zdk (zag ad hr.lv rfl T.K_has (zaa (pv 1) (zaa (zat (ixT (K := K)) (pv 0) zad (fun _ _ => rfl)) zab))) (zd4 (zag ad hr.lv rfl T.K_has (zaa (pv 2) (zaa (zat (ixT (K := K)) (pv 0) zad (fun _ _ => rfl)) zab))))))) za0)
   (zae (za4 (zan zbq (zat (ixT (K := K)) (pv 0) zad (fun _ _ => rfl)) zbe (zaq _)) (zai (zap (zdk (zag ad hr.lv rfl T.K_has (zaa (pv 1) (zaa (zat (ixT (K := K)) (pv 0) zad (fun _ _ => rfl)) zab))) (zd4 (zag ad hr.lv rfl T.K_has (zaa (pv 1) (zaa (zat (ixT (K := K)) (pv 0) zad (fun _ _ => rfl)) zab))))))) za0)
   (zae (za4 (zan zbq (zat (ixT (K := K)) (pv 0) zad (fun _ _ => rfl)) zbe (zaq _)) (zai (zap (zbc ziq (zag ac hr.lv rfl T.K_least_sum (zaa (zat (ixT (K := K)) (pv 0) zad (fun _ _ => rfl)) (zaa (pv 1) (zaa (pv 2) zab)))) (zat (ixT (K := K)) (pv 0) zad (fun _ _ => rfl)) (zaq _)))) za0)
   (zai (zap (zag aa hr.lv rfl T.K_sure_broken_bough (zaa (pv 0) (zaa (pv 1) (zaa (pv 2) zab))))))))), ?_⟩
 cases t with
 | needs x z =>
  obtain ⟨p, rfl, hp⟩ := zjc hd
  refine ⟨_, rfl, p, _, _, _, rfl, rfl, sqT hp, at0, rfl, _, rfl, ?_⟩
  refine zfr rfl ?_
  refine ⟨_, rfl, _, rfl, p, _, _, _, rfl, rfl, sqT hp, at1, _, _, rfl, _, rfl, ?_⟩
  rw [zb8]
  have q1 : Q (.bl (y.testBit x && n.testBit z)) H := q0
  refine zci (fun c => ?_) (fun c => ?_)
  ·rw [c, Bool.true_and] at q1
   refine ⟨_, rfl, _, rfl, p, _, _, _, rfl, rfl, sqT hp, at2, _, _, rfl, ?_⟩
   rw [zb8]
   exact q1
  ·rw [Bool.eq_false_iff.mpr c, Bool.false_and] at q1
   exact q1
 | bans x z =>
  obtain ⟨p, rfl, hp⟩ := zjc hd
  refine ⟨_, rfl, p, _, _, _, rfl, rfl, sqT hp, at0, rfl, _, rfl, ?_⟩
  refine zbs zjq ?_
  refine ⟨_, rfl, p, _, _, _, rfl, rfl, sqT hp, at0, rfl, _, rfl, ?_⟩
  refine zfr rfl ?_
  refine ⟨_, rfl, _, rfl, p, _, _, _, rfl, rfl, sqT hp, at1, _, _, rfl, _, rfl, ?_⟩
  rw [zb8]
  have q1 : Q (.bl (y.testBit x && y.testBit z)) H := q0
  refine zci (fun c => ?_) (fun c => ?_)
  ·rw [c, Bool.true_and] at q1
   refine ⟨_, rfl, _, rfl, p, _, _, _, rfl, rfl, sqT hp, at2, _, _, rfl, ?_⟩
   rw [zb8]
   exact q1
  ·rw [Bool.eq_false_iff.mpr c, Bool.false_and] at q1
   exact q1
 | most top ps =>
  obtain ⟨p, pq, xs, rfl, hp, hq, ae⟩ := zqg hd
  have few : ps.length ≤ m := ok.2.2.2
  refine ⟨_, rfl, p, _, _, _, rfl, rfl, sqT hp, at0, rfl, _, rfl, ?_⟩
  refine zbs zk4 ?_
  refine ⟨_, rfl, p, _, _, _, rfl, rfl, sqT hp, at0, rfl, _, rfl, ?_⟩
  refine zbs zmc ?_
  refine ⟨_, rfl, p, _, _, _, rfl, rfl, sqT hp, at0, rfl, _, rfl, ?_⟩
  refine zfr rfl ?_
  refine ⟨_, rfl, p, _, _, _, rfl, rfl, sqT hp, at2, _, rfl, _, rfl, pq, xs, ps, y, n, rfl, hq, ae, by omega, fun H1 s1 => ?_⟩
  exact ⟨_, rfl, p, _, _, _, rfl, rfl, sqT (s1 _ _ hp), at1, _, _, rfl, rfl, q H1 s1⟩
 | bough u lo hi ks =>
  obtain ⟨p, pk, e, hp, af⟩ := zjr hd
  subst e
  refine ⟨_, rfl, p, _, _, _, rfl, rfl, sqT hp, at0, rfl, _, rfl, ?_⟩
  refine zbs int_str ?_
  refine ⟨_, rfl, p, _, _, _, rfl, rfl, sqT hp, at0, rfl, _, rfl, ?_⟩
  refine zbs int_str ?_
  refine ⟨_, rfl, p, _, _, _, rfl, rfl, sqT hp, at0, rfl, _, rfl, ?_⟩
  refine zbs int_str ?_
  exact ⟨_, rfl, _, rfl, _, rfl, u, lo, hi, ks, m, y, n, _, rfl, hd, ok, hm, q⟩
theorem zdc (T : Txt K mg a d) : FnOk P w K mg base CX0 5 a.f_first_sure_broken d.f_first_sure_broken ["wood", "ties", "yes", "no"] zq0 := by
 have ac := zrp (P := P) (w := w) (base := base) T
 have aa := zk0 (P := P) (w := w) (base := base) T
 refine T.K_first_sure_broken.ok sc_first_sure_broken (fun vs H Q E h => ?_) (fun cdv A outer s H vs Q E hr h => ?_)
 ·obtain ⟨wd, m, ts, tl, il, y, n, rfl, _⟩ := h
  rfl
 obtain ⟨wd, m, ts, tl, il, y, n, rfl, W, ae, ai, q⟩ := h
 have m9 := W.m9
 refine ⟨_, (zae (zch PassesOwn.never rfl (piL (K := K) (pv 1)) (zaw (i := 4) sc_first_sure_broken.nd rfl (Or.inl rfl)) (zai (za4 (zbo (zag aa hr.lv rfl T.K_sure_broken (zaa (zag ac hr.lv rfl T.K_tie_at (zaa (pv 0) (zaa (pv 4) zab))) (zaa (pv 2) (zaa (pv 3) zab))))) (zai (zap (pv 4))) za0)))
   (zai (zap zco))), ?_⟩
 refine ⟨_, rfl, tl, rfl, ⟨_, SqL.of ae⟩, ?_⟩
 refine zcx (K := K) (a := tl) (xs := zal il) (fun i σ H2 => (∃ v, σ = [some (.ref wd), some (.ref tl), some (.int y), some (.int n), v]) ∧ Same H H2 ∧ (il.take i).find? (fun i => zko ts i y n) = none) ⟨⟨_, rfl⟩, Same.refl _, rfl⟩ (fun i σ H2 _ z => SqL.of (z.2.1 _ _ ae)) ?_ ?_
 ·rintro i x σ H2 hx ⟨⟨v, rfl⟩, s2, hb⟩
  rw [List.getElem?_map] at hx
  obtain ⟨t, ht, rfl⟩ := Option.map_eq_some_iff.mp hx
  have ad := ai t (List.mem_of_getElem? ht)
  have W2 := W.same s2
  obtain ⟨xs, ys, WA, dn⟩ := W2.ex
  have af : ts[t]? = some ts[t] := List.getElem?_eq_getElem ad
  obtain ⟨v2, ah, hd⟩ := DnL.get' dn (i := t) (d := ts[t].toD) (by rw [List.getElem?_map, af]; rfl)
  have ag : zko ts t y n = ts[t].sb y n := by unfold zko; rw [af]
  refine ⟨_, rfl, _, rfl, wd, m, xs, ys, t, v2, rfl, WA, ah, ?_⟩
  refine ⟨_, rfl, _, rfl, ts[t], m, y, n, v2, rfl, hd, W.ok _ (List.getElem_mem ad), by omega, fun H3 s3 => ?_⟩
  refine ⟨_, rfl, ?_⟩
  refine zci (fun c => ?_) (fun c => ?_)
  ·have q1 := q H3 (s2.trans s3)
   have e : za6 ts il y n = some t := by
    unfold za6
    have el : il = il.take i ++ t :: il.drop (i + 1) := by
     obtain ⟨hi, e⟩ := List.getElem?_eq_some_iff.mp ht
     rw [← e, List.getElem_cons_drop, List.take_append_drop]
    rw [el, List.find?_append, hb]
    simp [ag, c]
   rw [e] at q1
   exact ⟨_, rfl, q1⟩
  ·refine ⟨⟨_, rfl⟩, s2.trans s3, ?_⟩
   rw [List.take_add_one, ht, Option.toList_some, List.find?_append, hb]
   simp [ag, c]
 ·rintro σ H2 ⟨⟨v, rfl⟩, s2, hb⟩
  have q1 := q H2 s2
  rw [List.length_map, List.take_length] at hb
  have e : za6 ts il y n = none := hb
  rw [e] at q1
  exact q1
theorem zma (T : Txt K mg a d) (f : Nat) {p : Addr} {C : Hp → Prop} {m : Nat} {leaf : Nat → Nat → Option PyData} {fdL : FuncData} {pl : List Str} {φ : Heap → Prop}
  (L_leaf_at : FnOk P w K mg base CX0 7 p fdL pl (zv7 C leaf)) (LB_leaf_at : Binds K fdL pl []) (LP_leaf_at : ∀ h : Heap, φ h → ∃ o fd', h.get? p = some o ∧ o.data = .func fd') (hC : ∀ H H', Same H H' → C H → C H') (hCp : ∀ H, C H → H p = some (.ext φ))
  (G_told_tree : f ≠ 0 → FnOk P w K mg base CX0 (f + 7) a.f_told_tree d.f_told_tree ["wood", "ties", "yes", "no", "leaf_at"] (zmn (f - 1) p C m leaf)) : FnOk P w K mg base CX0 (f + 8) a.f_told_tree d.f_told_tree ["wood", "ties", "yes", "no", "leaf_at"] (zmn f p C m leaf) := by
 have aa := zdc (P := P) (w := w) (base := base) T
 have ad := zcn (P := P) (w := w) (base := base) T
 have ac := zcy (P := P) (w := w) (base := base) T
 refine T.K_told_tree.ok sc_told_tree (fun vs H Q E h => ?_) (fun cdv A outer s H vs Q E hr h => ?_)
 ·obtain ⟨wd, ts, tl, il, y, n, rfl, _⟩ := h
  rfl
 obtain ⟨wd, ts, tl, il, y, n, rfl, W, ae, ah, hf, c0, ag, q⟩ := h
 have m9 := W.m9
 obtain ⟨R, r0, rs, re⟩ := ag
 have rest : ∃ t, PSs (zb3 CX0 P w K mg base ["wood", "ties", "yes", "no", "leaf_at", "broken", "leaf", "k", "one", "other"] "told_tree" (zah zdh) a.f_told_tree cdv A outer s H E).nox ((za2 zdh).drop 5) t ∧ (∀ (k : Nat) (r : List Nat) (v5 v6 : Option V) (H1 : Hp), Same H H1 → zas m y n = k :: r → za6 ts il y n = none → leaf y n = none → t { nx := fun _ H' => Q .non H', rt := Q } [some (.ref wd), some (.ref tl), some (.int y), some (.int n), some (.ref p), v5, v6, some (.int (k : Int)), none, none] H1) := by
  by_cases al : f = 0
  ·refine ⟨znj, zlp, ?_⟩
   intro k r v5 v6 H1 s1 ho hb
   rw [ho, al] at hf
   simp at hf
  ·have G_told_tree := G_told_tree al
   refine ⟨_, (zae (zao (i := 8) sc_told_tree.nd rfl (Or.inl rfl) (zag G_told_tree hr.lv rfl T.K_told_tree (zaa (pv 0) (zaa (pv 1) (zaa (zag ac hr.lv rfl T.K_with_option (zaa (pv 2) (zaa (pv 7) zab))) (zaa (pv 3) (zaa (pv 4) zab)))))))
   (zae (zao (i := 9) sc_told_tree.nd rfl (Or.inl rfl) (zag G_told_tree hr.lv rfl T.K_told_tree (zaa (pv 0) (zaa (pv 1) (zaa (pv 2) (zaa (zag ac hr.lv rfl T.K_with_option (zaa (pv 3) (zaa (pv 7) zab))) (zaa (pv 4) zab)))))))
   (zai (zap (zbb (zaa zbe (zaa (pv 7) (zaa (pv 8) (zaa (pv 9) zab))))))))), ?_⟩
   intro k r v5 v6 H1 s1 ho hb am
   have hk : k ∈ zas m y n := by rw [ho]; exact List.mem_cons_self
   have km := (mem_open.mp hk).1
   have l1 := zc5 hk
   have l2 := zc8 hk
   refine ⟨_, rfl, _, rfl, _, rfl, _, rfl, y, k, rfl, by omega, _, rfl, _, rfl, wd, ts, tl, il, y ||| 2 ^ k, n, rfl, W.same s1, s1 _ _ ae, ah, by omega, hC _ _ s1 c0, ⟨R, (rs y n k r0 hk).1, rs, re⟩, fun v1 H2 s2 d1 => ?_⟩
   refine ⟨_, rfl, _, rfl, _, rfl, _, rfl, _, rfl, n, k, rfl, by omega, _, rfl, wd, ts, tl, il, y, n ||| 2 ^ k, rfl, W.same (s1.trans s2), (s1.trans s2) _ _ ae, ah, by omega, hC _ _ (s1.trans s2) c0, ⟨R, (rs y n k r0 hk).2, rs, re⟩, fun v2 H3 s3 d2 => ?_⟩
   refine ⟨_, rfl, _, rfl, _, rfl, zar (by show 4 ≤ 1000; decide), fun tp ai => ?_⟩
   have s4 := zaf ai (.tup [.str ("split" : Str), .int (k : Int), v1, v2])
   refine q _ _ (((s1.trans s2).trans s3).trans s4) ?_
   obtain ⟨f', rfl⟩ : ∃ f', f = f' + 1 := ⟨f - 1, by omega⟩
   rw [zis hb am ho]
   exact ⟨tp, _, rfl, zac, _, _, rfl, rfl, _, _, rfl, rfl, _, _, rfl, Dn.same (s3.trans s4) _ _ d1, _, _, rfl, Dn.same s4 _ _ d2, rfl⟩
 obtain ⟨t4, h4, r4⟩ := rest
 refine ⟨_, (zae (zao (i := 5) sc_told_tree.nd rfl (Or.inl rfl) (zag aa hr.lv rfl T.K_first_sure_broken (zaa (pv 0) (zaa (pv 1) (zaa (pv 2) (zaa (pv 3) zab))))))
   (zae (za4 (zan zh4 (pv 5) zco (zaq _)) (zai (zap (zbb (zaa zbe (zaa (pv 5) zab))))) za0)
   (zae (zao (i := 6) sc_told_tree.nd rfl (Or.inl rfl) (zsg (i := 4) L_leaf_at hr.lv rfl (.inl rfl) LB_leaf_at LP_leaf_at (zaa (pv 2) (zaa (pv 3) zab))))
   (zae (za4 (zan zh4 (pv 6) zco (zaq _)) (zai (zap (pv 6))) za0)
   (zae (zao (i := 7) sc_told_tree.nd rfl (Or.inl rfl) (zat (ixL (K := K)) (zag ad hr.lv rfl T.K_open_options (zaa (zat (ixT (K := K)) (pv 0) zad (fun _ _ => rfl)) (zaa (pv 2) (zaa (pv 3) zab)))) zad (fun _ _ => rfl)))
   h4))))), ?_⟩
 refine ⟨_, rfl, _, rfl, _, rfl, _, rfl, wd, m, ts, tl, il, y, n, rfl, W, ae, ah, fun H1 s1 => ?_⟩
 obtain ⟨o, ho⟩ : ∃ o, za6 ts il y n = o := ⟨_, rfl⟩
 rw [ho]
 obtain ⟨xs, ys, ⟨tb, tc, hw, hb, hc⟩, dn⟩ := W.ex
 rcases o with _ | t
 ·refine ⟨_, rfl, rfl, _, rfl, ?_⟩
  refine zcq rfl ?_
  refine ⟨rfl, _, rfl, _, rfl, hCp _ (hC _ _ s1 c0), y, n, rfl, hC _ _ s1 c0, fun v H2 s2 lv => ?_⟩
  unfold zl1 at lv
  cases hl : leaf y n with
  | some dd =>
   rw [hl] at lv
   obtain ⟨dv, pp, rfl⟩ := lv
   refine ⟨_, rfl, rfl, _, rfl, ?_⟩
   refine zk2 (by intro z; cases z) ?_
   refine ⟨_, rfl, ?_⟩
   refine q _ _ (s1.trans s2) ?_
   rw [zkh ho hl]
   exact dv
  | none =>
   rw [hl] at lv
   subst lv
   refine ⟨_, rfl, rfl, _, rfl, ?_⟩
   refine zcq rfl ?_
   have aj := s1.trans s2
   refine ⟨_, rfl, wd, _, _, _, rfl, rfl, sqT (aj _ _ hw), at0, _, rfl, _, rfl, m, y, n, rfl, by omega, fun l H3 s3 nl ak => ?_⟩
   obtain ⟨ol, af⟩ : ∃ ol, zas m y n = ol := ⟨_, rfl⟩
   rw [af] at ak
   rcases ol with _ | ⟨k, r⟩
   ·exact absurd hl (re y n r0 ho af)
   ·refine ⟨l, _, _, _, rfl, rfl, SqL.of ak, at0, ?_⟩
    exact r4 k r _ _ H3 (aj.trans s3) af ho hl
 ·refine ⟨_, rfl, rfl, _, rfl, ?_⟩
  refine zk2 (by intro z; cases z) ?_
  refine ⟨_, rfl, zar (by show 2 ≤ 1000; decide), fun tp ai => ?_⟩
  have s2 := zaf ai (.tup [.str ("broken" : Str), .int (t : Int)])
  refine q _ _ (s1.trans s2) ?_
  rw [zht ho]
  exact ⟨tp, _, rfl, zac, _, _, rfl, rfl, _, _, rfl, rfl, rfl⟩
theorem zhw (T : Txt K mg a d) {p : Addr} {C : Hp → Prop} {m : Nat} {leaf : Nat → Nat → Option PyData} {fdL : FuncData} {pl : List Str} {φ : Heap → Prop}
  (L : FnOk P w K mg base CX0 7 p fdL pl (zv7 C leaf)) (LB : Binds K fdL pl []) (LP : ∀ h : Heap, φ h → ∃ o fd', h.get? p = some o ∧ o.data = .func fd') (hC : ∀ H H', Same H H' → C H → C H') (hCp : ∀ H, C H → H p = some (.ext φ)) :
  ∀ f : Nat, FnOk P w K mg base CX0 (f + 8) a.f_told_tree d.f_told_tree ["wood", "ties", "yes", "no", "leaf_at"] (zmn f p C m leaf)
 | 0 => zma T 0 L LB LP hC hCp fun h => absurd rfl h
 | f + 1 => zma T (f + 1) L LB LP hC hCp fun _ => zhw T L LB LP hC hCp f
def zo8 : Sp := fun vs H Q _ => ∃ (wd : Addr) (m : Nat) (ts : List Tie) (y n : Nat), vs = [.ref wd, .int y, .int n] ∧ WoodT H wd m ts ∧ ∀ (v : V) (H' : Hp), Same H H' → zl1 (zdg m) y n H' v → Q v H'
theorem zmg (T : Txt K mg a d) : FnOk P w K mg base CX0 3 a.f_ware_leaf d.f_ware_leaf ["wood", "yes", "no"] zo8 := by
 have aa := zcn (P := P) (w := w) (base := base) T
 refine T.K_ware_leaf.ok zmm (fun vs H Q E h => ?_) (fun cdv A outer s H vs Q E hr h => ?_)
 ·obtain ⟨wd, m, ts, y, n, rfl, _⟩ := h
  rfl
 obtain ⟨wd, m, ts, y, n, rfl, W, q⟩ := h
 have m9 := W.m9
 refine ⟨_, (zae (za4 (zan zbq (zaz (zdw (K := K)) rfl T.m_len PySem.boot_len (zaa (zag aa hr.lv rfl T.K_open_options (zaa (zat (ixT (K := K)) (pv 0) zad (fun _ _ => rfl)) (zaa (pv 1) (zaa (pv 2) zab)))) zab)) zad (zaq _)) (zai (zap (zbb (zaa zbe zab)))) za0)
   (zai (zap zco))), ?_⟩
 obtain ⟨xs, ys, ⟨tb, tc, hw, hb, hc⟩, dn⟩ := W.ex
 refine ⟨_, rfl, wd, _, _, _, rfl, rfl, sqT hw, at0, _, rfl, _, rfl, m, y, n, rfl, by omega, fun l H2 s2 nl hl => ?_⟩
 refine ⟨l, _, rfl, .inl (SqL.of hl), rfl, _, rfl, ?_⟩
 rw [zh5, List.length_map]
 obtain ⟨ol, ac⟩ : ∃ ol, zas m y n = ol := ⟨_, rfl⟩
 rw [ac]
 rcases ol with _ | ⟨k, r⟩
 ·refine zfr rfl ?_
  refine ⟨zar (by show 1 ≤ 1000; decide), fun tp ad => ?_⟩
  have s3 := zaf ad (.tup [.str ("ware" : Str)])
  refine q _ _ (s2.trans s3) ?_
  unfold zl1 zdg
  rw [if_pos ac]
  exact ⟨⟨tp, _, rfl, zac, _, _, rfl, rfl, rfl⟩, tp, rfl⟩
 ·refine zbs (by simp) ?_
  refine q _ _ s2 ?_
  unfold zl1 zdg
  rw [if_neg (by rw [ac]; simp)]
theorem zn7 (T : Txt K mg a d) (LB : zi7 mg base a.c_cases_of a.t_cases_of) (f : Nat) : FnOk P w K mg base CX0 (f + 9) a.f_cases_of d.f_cases_of ["wood", "ties", "yes", "no"] (spT a.t_cases_of (zst f)) := by
 refine T.K_cases_of.okC zoe (fun vs H Q E h => ?_) (fun cdv A outer s H vs Q E ai hr h => ?_)
 ·obtain ⟨_, wd, m, ts, tl, il, y, n, rfl, _⟩ := h
  rfl
 obtain ⟨tb, wd, m, ts, tl, il, y, n, rfl, W, ag, ah, hf, q⟩ := h
 have LC : ((zb3 CX0 P w K mg base ["wood", "ties", "yes", "no"] "cases_of" (zah zb5) a.f_cases_of cdv A outer s H E).nox).env.code = .ref a.c_cases_of := ai.symm.trans T.code_cases_of
 have LF : ∀ y ∈ (zdd (zem (zxt (za2 zb5)[0]?))).names, y.2 = .free → ∃ c, ((zb3 CX0 P w K mg base ["wood", "ties", "yes", "no"] "cases_of" (zah zb5) a.f_cases_of cdv A outer s H E).nox).env.cells.lookup y.1 = some c := by
  intro y hy hz
  have e : y = (("wood" : Str), NameKind.free) := by
   have h := (by decide +kernel : ∀ y ∈ (zdd (zem (zxt (za2 zb5)[0]?))).names, y.2 = NameKind.free → y = (("wood" : Str), NameKind.free))
   exact h y hy hz
  subst e
  exact ⟨_, rfl⟩
 refine ⟨_, (zai (zap (zs9 (k := f + 8) hr.lv rfl T.K_told_tree.g T.K_told_tree.kp T.K_told_tree.B (fun _ => rfl) (zaa (pv 0) (zaa (pv 1) (zaa (pv 2) (zaa (pv 3) (zaa (zms LC LB rfl LF) zab)))))))), ?_⟩
 refine ⟨_, rfl, _, rfl, _, rfl, _, rfl, tb, fun p c' H1 np s1 hp hc ad ci _ _ => ?_⟩
 obtain ⟨cw, u, e1, r1, ic⟩ := ci 0 "wood" (.ref wd) rfl rfl rfl
 have ac : ((zb3 CX0 P w K mg base ["wood", "ties", "yes", "no"] "cases_of" (zah zb5) a.f_cases_of cdv A outer s H E).nox).env.cells = [(("wood" : Str), cw)] := by
  have z : cw = s.heap.objs.size + 1 := (Option.some.inj (show some (s.heap.objs.size + 1) = some cw from e1)).symm
  rw [z]
  rfl
 have aa := zmg (P := P) (w := w) (base := ad) T
 have L := zwe (P := P) (w := w) (K := K) (mg := mg) (base := ad) (ps := ["come", "gone"]) (fr := ["wood"]) (fv := [.ref wd]) (k := 6) (leaf := zdg m) (fun H => WoodT H wd m ts) hp ⟨rfl, rfl, rfl, by decide +kernel, by decide +kernel, by decide +kernel, by decide +kernel⟩
  (fun x cc h => by
   have h' := zbm LF h
   rw [ac] at h'
   obtain ⟨_, rfl⟩ := zg6 h'
   exact ⟨_, ic⟩)
  (fun x y cc h1 h2 => by
   have ae := zbm LF h1
   have af := zbm LF h2
   rw [ac] at ae af
   rw [(zg6 ae).1, (zg6 af).1])
  (fun y hy hz => by
   obtain ⟨c, hc⟩ := LF y hy hz
   exact ⟨c, zgr LF (by rw [← hz]; exact hy) hc⟩)
  (fun i x v h1 h2 => by
   cases i with
   | zero =>
    cases h1
    cases h2
    exact ⟨cw, u, zgr LF (by decide +kernel) e1, r1, ic⟩
   | succ i => cases h1)
  rfl (fun _ _ _ => rfl) rfl
  (fun q A outer s H y n Q hr W0 q' => ⟨_, zqa aa (hr.mono (by decide)) rfl T.K_ware_leaf.g T.K_ware_leaf.kp T.K_ware_leaf.B .nil zg3 (zaa (pv 2) (zaa (pv 0) (zaa (pv 1) zab))), ⟨_, rfl, _, rfl, _, rfl, wd, m, ts, y, n, rfl, W0, q'⟩⟩)
 have G := zhw (P := P) (w := w) (base := ad) (m := m) T L (.all fun us hl => match us, hl with | [_, _], _ => rfl) zei (fun H H' s h => ⟨h.1.same s, s _ _ h.2.1, s _ _ h.2.2⟩) (fun H h => h.2.1) f
 refine ⟨_, G, wd, ts, tl, il, y, n, rfl, W.same s1, s1 _ _ ag, ah, hf, ⟨W.same s1, hp, hc⟩, EndsR.all (fun y n hb ho => by unfold zdg; rw [if_pos ho]; simp) _ _, fun v H' s2 dv => q v H' (s1.trans s2) ?_⟩
 rw [← zha f y n hf]
 exact dv
theorem zhz (T : Txt K mg a d) (f : Nat) (G_first_keeping : f ≠ 0 → FnOk P w K mg base CX0 (f + 6) a.f_first_keeping d.f_first_keeping ["wood", "ties", "yes", "no"] (zm4 (f - 1))) : FnOk P w K mg base CX0 (f + 7) a.f_first_keeping d.f_first_keeping ["wood", "ties", "yes", "no"] (zm4 f) := by
 have aa := zdc (P := P) (w := w) (base := base) T
 have ad := zcn (P := P) (w := w) (base := base) T
 have ac := zcy (P := P) (w := w) (base := base) T
 refine T.K_first_keeping.ok sc_first_keeping (fun vs H Q E h => ?_) (fun cdv A outer s H vs Q E hr h => ?_)
 ·obtain ⟨wd, m, ts, tl, il, y, n, rfl, _⟩ := h
  rfl
 obtain ⟨wd, m, ts, tl, il, y, n, rfl, W, ae, ag, hf, q⟩ := h
 have m9 := W.m9
 have rest : ∃ t, PSs (zb3 CX0 P w K mg base ["wood", "ties", "yes", "no", "left", "k", "found"] "first_keeping" (zah zb1) a.f_first_keeping cdv A outer s H E).nox ((za2 zb1).drop 4) t ∧ (∀ (k : Nat) (v4 : Option V) (H1 : Hp), Same H H1 → (zas m y n).getLast? = some k → za6 ts il y n = none → t { nx := fun _ H' => Q .non H', rt := Q } [some (.ref wd), some (.ref tl), some (.int y), some (.int n), v4, some (.int (k : Int)), none] H1) := by
  by_cases ah : f = 0
  ·refine ⟨znj, zlp, ?_⟩
   intro k v4 H1 s1 ho hb
   rw [ah] at hf
   rw [List.eq_nil_of_length_eq_zero (Nat.le_zero.mp hf)] at ho
   cases ho
  ·have G_first_keeping := G_first_keeping ah
   refine ⟨_, (zae (zao (i := 6) sc_first_keeping.nd rfl (Or.inl rfl) (zag G_first_keeping hr.lv rfl T.K_first_keeping (zaa (pv 0) (zaa (pv 1) (zaa (pv 2) (zaa (zag ac hr.lv rfl T.K_with_option (zaa (pv 3) (zaa (pv 5) zab))) zab))))))
   (zae (za4 (zan zh4 (pv 6) zco (zaq _)) (zai (zap (pv 6))) za0)
   (zai (zap (zag G_first_keeping hr.lv rfl T.K_first_keeping (zaa (pv 0) (zaa (pv 1) (zaa (zag ac hr.lv rfl T.K_with_option (zaa (pv 2) (zaa (pv 5) zab))) (zaa (pv 3) zab))))))))), ?_⟩
   intro k v4 H1 s1 ho hb
   have hk := (zlq ho).1
   have km := (mem_open.mp hk).1
   have l1 := zc5 hk
   have l2 := zc8 hk
   have e : zbh ts il m f y n = (match zbh ts il m (f - 1) y (n ||| 2 ^ k) with | some s => some s | none => zbh ts il m (f - 1) (y ||| 2 ^ k) n) := by
    obtain ⟨f', rfl⟩ : ∃ f', f = f' + 1 := ⟨f - 1, by omega⟩
    exact zow hb ho
   refine ⟨_, rfl, _, rfl, _, rfl, _, rfl, _, rfl, n, k, rfl, by omega, wd, m, ts, tl, il, y, n ||| 2 ^ k, rfl, W.same s1, s1 _ _ ae, ag, by omega, fun H2 s2 => ?_⟩
   obtain ⟨o, af⟩ : ∃ o, zbh ts il m (f - 1) y (n ||| 2 ^ k) = o := ⟨_, rfl⟩
   rw [af]
   rcases o with _ | g
   ·refine ⟨_, rfl, rfl, _, rfl, ?_⟩
    refine zcq rfl ?_
    refine ⟨_, rfl, _, rfl, _, rfl, _, rfl, y, k, rfl, by omega, _, rfl, wd, m, ts, tl, il, y ||| 2 ^ k, n, rfl, W.same (s1.trans s2), (s1.trans s2) _ _ ae, ag, by omega, fun H3 s3 => ?_⟩
    have q1 := q H3 ((s1.trans s2).trans s3)
    rw [e, af] at q1
    exact q1
   ·refine ⟨_, rfl, rfl, _, rfl, ?_⟩
    refine zk2 (by intro z; cases z) ?_
    have q1 := q H2 (s1.trans s2)
    rw [e, af] at q1
    exact ⟨_, rfl, q1⟩
 obtain ⟨t4, h4, r4⟩ := rest
 refine ⟨_, (zae (za4 (zan zh4 (zag aa hr.lv rfl T.K_first_sure_broken (zaa (pv 0) (zaa (pv 1) (zaa (pv 2) (zaa (pv 3) zab))))) zco (zaq _)) (zai (zap zco)) za0)
   (zae (zao (i := 4) sc_first_keeping.nd rfl (Or.inl rfl) (zag ad hr.lv rfl T.K_open_options (zaa (zat (ixT (K := K)) (pv 0) zad (fun _ _ => rfl)) (zaa (pv 2) (zaa (pv 3) zab)))))
   (zae (za4 (zan zbq (zaz (zdw (K := K)) rfl T.m_len PySem.boot_len (zaa (pv 4) zab)) zad (zaq _)) (zai (zap (pv 2))) za0)
   (zae (zao (i := 5) sc_first_keeping.nd rfl (Or.inl rfl) (zat (ixL (K := K)) (pv 4) (znu zkn zad) (fun _ _ => rfl)))
   h4)))), ?_⟩
 refine ⟨_, rfl, _, rfl, _, rfl, _, rfl, wd, m, ts, tl, il, y, n, rfl, W, ae, ag, fun H1 s1 => ?_⟩
 obtain ⟨o, ho⟩ : ∃ o, za6 ts il y n = o := ⟨_, rfl⟩
 rw [ho]
 obtain ⟨xs, ys, ⟨tb, tc, hw, hb, hc⟩, dn⟩ := W.ex
 rcases o with _ | t
 ·refine ⟨rfl, _, rfl, ?_⟩
  refine zcq rfl ?_
  refine ⟨_, rfl, wd, _, _, _, rfl, rfl, sqT (s1 _ _ hw), at0, _, rfl, _, rfl, m, y, n, rfl, by omega, fun l H2 s2 nl hl => ?_⟩
  refine ⟨_, rfl, l, _, rfl, .inl (SqL.of hl), rfl, _, rfl, ?_⟩
  rw [zh5, List.length_map]
  by_cases hn : zas m y n = []
  ·refine zfr (by rw [hn]; rfl) ?_
   have q1 := q H2 (s1.trans s2)
   have e : zbh ts il m f y n = some y := by
    exact zpd ho hn
   rw [e] at q1
   exact ⟨_, rfl, q1⟩
  ·refine zbs (fun z => hn (List.eq_nil_of_length_eq_zero z)) ?_
   obtain ⟨k, hk⟩ : ∃ k, (zas m y n).getLast? = some k := by
    cases e : (zas m y n).getLast? with
    | none => exact absurd (List.getLast?_eq_none_iff.mp e) hn
    | some k => exact ⟨k, rfl⟩
   have ai : atI (zal (zas m y n)) (-1) = some (.int (k : Int)) := by
    obtain ⟨l', e⟩ := List.getLast?_eq_some_iff.mp hk
    rw [e]
    exact zva l' k
   refine ⟨_, rfl, _, rfl, l, _, _, _, rfl, rfl, SqL.of hl, ai, ?_⟩
   exact r4 k _ H2 (s1.trans s2) hk ho
 ·refine ⟨rfl, _, rfl, ?_⟩
  refine zk2 (by intro z; cases z) ?_
  have q1 := q H1 s1
  have e : zbh ts il m f y n = none := by
   exact zng ho
  rw [e] at q1
  exact q1
theorem zbt (T : Txt K mg a d) : ∀ f : Nat, FnOk P w K mg base CX0 (f + 7) a.f_first_keeping d.f_first_keeping ["wood", "ties", "yes", "no"] (zm4 f)
 | 0 => zhz T 0 fun h => absurd rfl h
 | f + 1 => zhz T (f + 1) fun _ => zbt T f
theorem zk7 (T : Txt K mg a d) : FnOk P w K mg base CX0 17 a.f_first_ware d.f_first_ware ["wood", "yes", "no"] ztv := by
 have ae := zie (P := P) (w := w) (base := base) T
 have ac := zcy (P := P) (w := w) (base := base) T
 have ad := zhy (P := P) (w := w) (base := base) T
 have aa := zbt (P := P) (w := w) (base := base) T 9
 refine T.K_first_ware.ok zla (fun vs H Q E h => ?_) (fun cdv A outer s H vs Q E hr h => ?_)
 ·obtain ⟨wd, m, ts, y, n, rfl, _⟩ := h
  rfl
 obtain ⟨wd, m, ts, y, n, rfl, W, m9, m1, S, q⟩ := h
 refine ⟨_, (zae (za4 (zbo (zag ae hr.lv rfl T.K_has (zaa (pv 2) (zaa zad zab)))) (zai (zap zco)) za0)
   (zai (zap (zag aa hr.lv rfl T.K_first_keeping (zaa (pv 0) (zaa (zag ad hr.lv rfl T.K_every_tie (zaa (pv 0) zab)) (zaa (zag ac hr.lv rfl T.K_with_option (zaa (pv 1) (zaa zad zab))) (zaa (pv 2) zab)))))))), ?_⟩
 refine ⟨_, rfl, _, _, rfl, _, rfl, ?_⟩
 have e0 : zox (n : Int) 0 = n.testBit 0 := zb8 n 0
 rw [e0]
 refine zci (fun c => ?_) (fun c => ?_)
 ·refine q H none (Same.refl H) fun s' sm hs => ?_
  unfold zbg
  rw [hs.2 0 c, Bool.false_and]
 ·have c' := Bool.eq_false_iff.mpr c
  have of := zc1 m (y ||| 2 ^ 0) n
  have S' : Stand m (y ||| 2 ^ 0) n := ⟨zso S.dj c', zmz S.ym (by omega), S.nm⟩
  refine ⟨_, rfl, _, rfl, wd, m, ts, rfl, W, fun l H1 s1 nl hl => ?_⟩
  refine ⟨_, rfl, y, 0, rfl, by omega, _, rfl, wd, m, ts, l, zdv ts, y ||| 2 ^ 0, n, rfl, W.same s1, hl, fun i hi => List.mem_range.mp hi, by omega, fun H2 s2 => ?_⟩
  have F := zen (il := zdv ts) W.ok 9 (y ||| 2 ^ 0) n (by omega) S'
  have af : ∀ s', InS (y ||| 2 ^ 0) n s' ∧ zds ts (zdv ts) s' = true ↔ InS y n s' ∧ zbg ts s' = true := fun s' => by
   unfold zbg
   rw [zi3, Bool.and_eq_true]
   constructor
   ·rintro ⟨a1, a2⟩
    exact ⟨⟨fun j hj => a1.1 j (by rw [zb4, hj, Bool.true_or]), a1.2⟩, a1.1 0 (by rw [zb4, decide_eq_true rfl, Bool.or_true]), a2⟩
   ·rintro ⟨a1, a2, a3⟩
    refine ⟨⟨fun j hj => ?_, a1.2⟩, a3⟩
    rw [zb4, Bool.or_eq_true, decide_eq_true_eq] at hj
    rcases hj with z | rfl
    ·exact a1.1 j z
    ·exact a2
  generalize zbh ts (zdv ts) m 9 (y ||| 2 ^ 0) n = o at F ⊢
  refine q H2 o (s1.trans s2) ?_
  cases o with
  | none =>
   intro s' sm hs
   cases e : zbg ts s' with
   | false => rfl
   | true =>
    have := (af s').mpr ⟨hs, e⟩
    rw [F s' sm this.1] at this
    cases this.2
  | some g =>
   obtain ⟨b1, b2, b3, b4⟩ := F
   obtain ⟨c1, c2⟩ := (af g).mp ⟨b2, b3⟩
   refine ⟨b1, c1, c2, fun s' sm hs hw => ?_⟩
   have := (af s').mpr ⟨hs, hw⟩
   exact b4 s' sm this.1 this.2
theorem zpz (T : Txt K mg a d) : FnOk P w K mg base CX0 17 a.f_bars d.f_bars ["wood", "ties", "yes", "no"] zwg := by
 have aa := zbt (P := P) (w := w) (base := base) T 9
 refine T.K_bars.ok zvb (fun vs H Q E h => ?_) (fun cdv A outer s H vs Q E hr h => ?_)
 ·obtain ⟨wd, m, ts, tl, il, y, n, rfl, _⟩ := h
  rfl
 obtain ⟨wd, m, ts, tl, il, y, n, rfl, W, m9, ac, ad, q⟩ := h
 have of := zc1 m y n
 refine ⟨_, (zai (zap (zbc znb (zag aa hr.lv rfl T.K_first_keeping (zaa (pv 0) (zaa (pv 1) (zaa (pv 2) (zaa (pv 3) zab))))) zco (zaq _)))), ?_⟩
 refine ⟨_, rfl, _, rfl, _, rfl, _, rfl, wd, m, ts, tl, il, y, n, rfl, W, ac, ad, by omega, fun H1 s1 => ?_⟩
 have q1 := q H1 s1
 unfold zeh at q1
 rw [← ztr] at q1
 exact ⟨rfl, q1⟩
theorem zfo (T : Txt K mg a d) : FnOk P w K mg base CX0 1 a.f_left_without d.f_left_without ["things", "one"] zpb := by
 refine T.K_left_without.ok zfn (fun vs H Q E h => ?_) (fun cdv A outer s H vs Q E hr h => ?_)
 ·obtain ⟨l, il, t, rfl, _⟩ := h
  rfl
 obtain ⟨l, il, t, rfl, hl, few, q⟩ := h
 refine ⟨_, (zai (zap (zeo (N' := ["other", "one"]) (n := 1) (kp := [1]) rfl (piL (K := K) (pv 0)) rfl rfl rfl (fun _ _ _ _ _ => (zaw (i := 0) (of_decide_eq_true rfl) rfl (Or.inl rfl))) (fun _ _ _ _ _ => (zcl (zan zgz (pv 0) (pv 1) (zaq _)))) (fun _ _ _ _ _ => (pv 0))))), ?_⟩
 refine ⟨_, rfl, l, rfl, ⟨_, SqL.of hl⟩, ?_⟩
 refine zcc (K := K) (a := l) (xs := zal il) (fun j ys σ H2 => (∃ v, σ = [v, some (.int (t : Int))]) ∧ H2 = H ∧ ys = zal ((il.take j).filter fun i => !decide (i = t))) ⟨⟨none, rfl⟩, rfl, rfl⟩ (fun j ys σ H2 hj pv => ?_) (fun j ys σ H2 hj pv => ?_) (fun j x ys σ H2 hx pv => ?_) (fun ys σ H2 pv p hp => ?_)
 ·obtain ⟨_, _, rfl⟩ := pv
  rw [List.length_map]
  refine zar (Nat.le_trans (List.length_filter_le _ _) ?_)
  rw [List.length_take]
  omega
 ·rw [pv.2.1]
  exact SqL.of hl
 ·obtain ⟨⟨v0, rfl⟩, rfl, rfl⟩ := pv
  rw [List.getElem?_map] at hx
  obtain ⟨i, hi, rfl⟩ := Option.map_eq_some_iff.mp hx
  have et : il.take (j + 1) = il.take j ++ [i] := by rw [List.take_add_one, hi, Option.toList_some]
  refine ⟨_, rfl, _, rfl, rfl, _, rfl, ?_⟩
  by_cases c : i = t
  ·refine zcq (by rw [c]) ?_
   refine ⟨⟨_, rfl⟩, rfl, ?_⟩
   rw [et, List.filter_append]
   simp [c]
  ·refine zk2 (fun z => c (by injection z with z; omega)) ?_
   refine ⟨_, rfl, ⟨_, rfl⟩, rfl, ?_⟩
   rw [et, List.filter_append]
   simp [c]
 obtain ⟨_, rfl, rfl⟩ := pv
 rw [List.length_map, List.take_length]
 exact q p _ (zaf hp _) hp zac
def zt0 : Sp := fun vs H Q _ => ∃ (wd : Addr) (m : Nat) (ts : List Tie) (y n : Nat), vs = [.ref wd, .int y, .int n] ∧ WoodT H wd m ts ∧ m ≤ 9 ∧ ∀ (lf : Addr) (H' : Hp), Same H H' → H lf = none → H' lf = some (.lst (zal (zc6 ts m y n))) → Q (.ref lf) H'
theorem zlb (T : Txt K mg a d) : FnOk P w K mg base CX0 18 a.f_least_ties d.f_least_ties ["wood", "yes", "no"] zt0 := by
 have aa := zhy (P := P) (w := w) (base := base) T
 have af := zpz (P := P) (w := w) (base := base) T
 have ac := zfo (P := P) (w := w) (base := base) T
 refine T.K_least_ties.ok sc_least_ties (fun vs H Q E h => ?_) (fun cdv A outer s H vs Q E hr h => ?_)
 ·obtain ⟨wd, m, ts, y, n, rfl, _⟩ := h
  rfl
 obtain ⟨wd, m, ts, y, n, rfl, W, m9, q⟩ := h
 have few := W.few
 have of := zc1 m y n
 have ai : ∀ i ∈ zdv ts, i < ts.length := fun i hi => List.mem_range.mp hi
 have al : (zdv ts).length = ts.length := List.length_range
 refine ⟨_, (zae (zao (i := 3) sc_least_ties.nd rfl (Or.inl rfl) (zag aa hr.lv rfl T.K_every_tie (zaa (pv 0) zab)))
   (zae (zch PassesOwn.never rfl (piL (K := K) (zag aa hr.lv rfl T.K_every_tie (zaa (pv 0) zab))) (zaw (i := 4) sc_least_ties.nd rfl (Or.inl rfl)) (zae (zao (i := 5) sc_least_ties.nd rfl (Or.inl rfl) (zag ac hr.lv rfl T.K_left_without (zaa (pv 3) (zaa (pv 4) zab))))
   (zai (za4 (zbo (zag af hr.lv rfl T.K_bars (zaa (pv 0) (zaa (pv 5) (zaa (pv 1) (zaa (pv 2) zab)))))) (zai (zao (i := 3) sc_least_ties.nd rfl (Or.inl rfl) (pv 5))) za0))))
   (zai (zap (pv 3))))), ?_⟩
 refine ⟨_, rfl, wd, m, ts, rfl, W, fun l0 H1 s1 am ak => ?_⟩
 refine ⟨_, rfl, wd, m, ts, rfl, W.same s1, fun l1 H3 s3 ao aj => ?_⟩
 refine ⟨l1, rfl, ⟨_, SqL.of aj⟩, ?_⟩
 have ag := s1.trans s3
 refine zcx (K := K) (a := l1) (xs := zal (zdv ts)) (fun i σ H4 => ∃ (lf : Addr) (v4 v5 : Option V), σ = [some (.ref wd), some (.int y), some (.int n), some (.ref lf), v4, v5] ∧ Same H3 H4 ∧ H4 lf = some (.lst (zal (((zdv ts).take i).foldl (zbj ts m y n) (zdv ts)))) ∧ H lf = none) ⟨l0, _, _, rfl, Same.refl _, s3 _ _ ak, am⟩ (fun i σ H4 _ z => by obtain ⟨_, _, _, _, s4, _⟩ := z; exact SqL.of (s4 _ _ aj)) ?_ ?_
 ·rintro i x σ H4 hx ⟨lf, v4, v5, rfl, s4, ad, ah⟩
  rw [List.getElem?_map] at hx
  obtain ⟨t, ht, rfl⟩ := Option.map_eq_some_iff.mp hx
  generalize ae : ((zdv ts).take i).foldl (zbj ts m y n) (zdv ts) = left at ad
  have sub : left.Sublist (zdv ts) := by rw [← ae]; exact zgn _ _
  have ap := sub.length_le
  have e1 : ((zdv ts).take (i + 1)).foldl (zbj ts m y n) (zdv ts) = zbj ts m y n left t := by
   rw [List.take_add_one, ht, Option.toList_some, List.foldl_append, ae]
   rfl
  refine ⟨_, rfl, _, rfl, lf, left, t, rfl, ad, by omega, fun p H5 s5 np hp => ?_⟩
  refine ⟨_, rfl, _, rfl, _, rfl, _, rfl, wd, m, ts, p, zfj left t, y, n, rfl, W.same ((ag.trans s4).trans s5), m9, hp, fun i hi => ai i (sub.subset (List.mem_filter.mp hi).1), fun H6 s6 => ?_⟩
  refine ⟨_, rfl, ?_⟩
  refine zci (fun c2 => ?_) (fun c2 => ?_)
  ·refine ⟨_, rfl, p, _, _, rfl, (s4.trans s5).trans s6, ?_, (ag.trans s4).free np⟩
   rw [e1]
   unfold zbj
   rw [if_pos c2]
   exact s6 _ _ hp
  ·refine ⟨lf, _, _, rfl, (s4.trans s5).trans s6, ?_, ah⟩
   rw [e1]
   unfold zbj
   rw [if_neg c2]
   exact (s5.trans s6) _ _ ad
 ·rintro σ H4 ⟨lf, v4, v5, rfl, s4, ad, ah⟩
  rw [List.length_map, List.take_length] at ad
  have sub : (zc6 ts m y n).Sublist (zdv ts) := zgn _ _
  have ad : H4 lf = some (.lst (zal (zc6 ts m y n))) := ad
  exact ⟨_, rfl, q lf H4 (ag.trans s4) ah ad⟩
def zn0 : Sp := fun vs H Q _ => ∃ (wd lf : Addr) (m : Nat) (ts : List Tie) (left : List Nat) (y n : Nat), vs = [.ref wd, .ref lf, .int y, .int n] ∧ WoodT H wd m ts ∧ m ≤ 9 ∧ H lf = some (.lst (zal left)) ∧ (∀ i ∈ left, i < ts.length) ∧ left.length ≤ 900 ∧ ∀ (ol : Addr) (H' : Hp), Same H H' → H ol = none → ztm H' ol ts m y n left → Q (.ref ol) H'
theorem zld (T : Txt K mg a d) : FnOk P w K mg base CX0 18 a.f_tie_others d.f_tie_others ["wood", "ties", "yes", "no"] zn0 := by
 have ac := zfo (P := P) (w := w) (base := base) T
 have aa := zbt (P := P) (w := w) (base := base) T 9
 refine T.K_tie_others.ok zlo (fun vs H Q E h => ?_) (fun cdv A outer s H vs Q E hr h => ?_)
 ·obtain ⟨wd, lf, m, ts, left, y, n, rfl, _⟩ := h
  rfl
 obtain ⟨wd, lf, m, ts, left, y, n, rfl, W, m9, ae, ag, ak, q⟩ := h
 have of := zc1 m y n
 refine ⟨_, (zai (zap (zeo (N' := ["t", "wood", "yes", "no", "ties"]) (n := 1) (kp := [0, 2, 3, 1]) rfl (piL (K := K) (pv 1)) rfl rfl rfl (fun _ _ _ _ _ => (zaw (i := 0) (of_decide_eq_true rfl) rfl (Or.inl rfl))) (fun _ _ _ _ _ => zfe) (fun _ _ _ _ _ => (zbb (zaa (pv 0) (zaa (zag aa hr.lv rfl T.K_first_keeping (zaa (pv 1) (zaa (zag ac hr.lv rfl T.K_left_without (zaa (pv 4) (zaa (pv 0) zab))) (zaa (pv 2) (zaa (pv 3) zab))))) zab))))))), ?_⟩
 refine ⟨_, rfl, lf, rfl, ⟨_, SqL.of ae⟩, ?_⟩
 refine zcc (K := K) (a := lf) (xs := zal left) (fun j ys σ H5 => (∃ v, σ = [v, some (.ref wd), some (.int y), some (.int n), some (.ref lf)]) ∧ Same H H5 ∧ ys.length = j ∧ ∀ (i t : Nat), i < j → left[i]? = some t → ∃ q, ys[i]? = some (.ref q) ∧ H5 q = some (.tup [.int (t : Int), zhq (zbh ts (zfj left t) m 9 y n)])) ⟨⟨none, rfl⟩, Same.refl _, rfl, fun i t hi => absurd hi (Nat.not_lt_zero i)⟩ (fun j ys σ H5 hj pv => ?_) (fun j ys σ H5 hj pv => ?_) (fun j x ys σ H5 hx pv => ?_) (fun ys σ H5 pv ol ai => ?_)
 ·obtain ⟨_, _, h1, _⟩ := pv
  rw [List.length_map] at hj
  exact zar (by omega)
 ·exact SqL.of (pv.2.1 _ _ ae)
 ·obtain ⟨⟨v, rfl⟩, s5, h1, ad⟩ := pv
  rw [List.getElem?_map] at hx
  obtain ⟨t, ht, rfl⟩ := Option.map_eq_some_iff.mp hx
  refine ⟨_, rfl, _, rfl, _, rfl, _, rfl, lf, left, t, rfl, s5 _ _ ae, by omega, fun p H6 s6 np hp => ?_⟩
  refine ⟨_, rfl, _, rfl, wd, m, ts, p, zfj left t, y, n, rfl, W.same (s5.trans s6), hp, fun i hi => ag i (List.mem_filter.mp hi).1, by omega, fun H7 s7 => ?_⟩
  refine ⟨zar (by show 2 ≤ 1000; decide), fun tp aj => ?_⟩
  have s8 := zaf aj (.tup [.int (t : Int), zhq (zbh ts (zfj left t) m 9 y n)])
  have ah := (s6.trans s7).trans s8
  refine ⟨⟨_, rfl⟩, s5.trans ah, by rw [List.length_append, List.length_singleton, h1], fun i t' hi af => ?_⟩
  by_cases e : i = j
  ·subst e
   rw [ht] at af
   cases af
   refine ⟨tp, ?_, zac⟩
   rw [List.getElem?_append_right (by omega), h1, Nat.sub_self]
   rfl
  ·obtain ⟨p', a1, a2⟩ := ad i t' (by omega) af
   refine ⟨p', ?_, ah _ _ a2⟩
   rw [List.getElem?_append_left (by omega)]
   exact a1
 ·obtain ⟨_, s5, h1, ad⟩ := pv
  rw [List.length_map] at h1 ad
  have s6 := zaf ai (.lst ys)
  refine q ol _ (s5.trans s6) (s5.free ai) ⟨ys, zac, h1, fun j t ht => ?_⟩
  obtain ⟨p', a1, a2⟩ := ad j t (List.getElem?_eq_some_iff.mp ht).1 ht
  exact ⟨p', a1, s6 _ _ a2⟩
theorem zdf (T : Txt K mg a d) : FnOk P w K mg base CX0 2 a.f_stand_of d.f_stand_of ["picks"] zl6 := by
 have aa := zcy (P := P) (w := w) (base := base) T
 refine T.K_stand_of.ok sc_stand_of (fun vs H Q E h => ?_) (fun cdv A outer s H vs Q E hr h => ?_)
 ·obtain ⟨pl, ps, rfl, _⟩ := h
  rfl
 obtain ⟨pl, ps, rfl, PA, q⟩ := h
 obtain ⟨xs, ac, pk⟩ := PA.ex
 have lx := pk.length
 refine ⟨_, (zae (zao (i := 1) sc_stand_of.nd rfl (Or.inl rfl) (zag aa hr.lv rfl T.K_with_option (zaa zad (zaa zad zab))))
   (zae (zao (i := 2) sc_stand_of.nd rfl (Or.inl rfl) zad)
   (zae (zch PassesOwn.never rfl (piL (K := K) (pv 0)) (pgT (K := K) (n := 2) rfl (za3 (zaw (i := 3) sc_stand_of.nd rfl (Or.inl rfl)) (za3 (zaw (i := 4) sc_stand_of.nd rfl (Or.inl rfl)) zce))) (zai (za4 (zbo (pv 4)) (zai (zao (i := 1) sc_stand_of.nd rfl (Or.inl rfl) (zag aa hr.lv rfl T.K_with_option (zaa (pv 1) (zaa (pv 3) zab))))) (zai (zao (i := 2) sc_stand_of.nd rfl (Or.inl rfl) (zag aa hr.lv rfl T.K_with_option (zaa (pv 2) (zaa (pv 3) zab))))))))
   (zai (zap (zbb (zaa (pv 1) (zaa (pv 2) zab)))))))), ?_⟩
 refine ⟨0, 0, rfl, by decide, ?_⟩
 refine ⟨_, rfl, pl, rfl, ⟨_, SqL.of ac⟩, ?_⟩
 refine zcx (K := K) (a := pl) (xs := xs) (fun i σ H2 => (∃ v3 v4 : Option V, σ = [some (.ref pl), some (.int (zaj (ps.take i) : Int)), some (.int (zau (ps.take i) : Int)), v3, v4]) ∧ H2 = H) ⟨⟨none, none, rfl⟩, rfl⟩ (fun i σ H2 _ z => by rw [z.2]; exact SqL.of ac) ?_ ?_
 ·rintro i x σ H2 hx ⟨⟨v3, v4, rfl⟩, rfl⟩
  obtain ⟨p, t, hp, rfl, ht⟩ := pk.get hx
  have et : ps.take (i + 1) = ps.take i ++ [p] := by rw [List.take_add_one, hp, Option.toList_some]
  have ad := PA.le p (List.mem_of_getElem? hp)
  refine ⟨t, _, rfl, sqT ht, rfl, _, _, rfl, _, _, rfl, rfl, ?_⟩
  refine ⟨_, rfl, _, rfl, ?_⟩
  cases e : p.2
  ·refine zd1 ?_
   refine ⟨_, rfl, _, rfl, zau (ps.take i), p.1, rfl, by omega, ?_⟩
   refine ⟨⟨some (.int (p.1 : Int)), some (.bl false), ?_⟩, rfl⟩
   rw [et, zgf, zho, e]
   rfl
  ·refine zll ?_
   refine ⟨_, rfl, _, rfl, zaj (ps.take i), p.1, rfl, by omega, ?_⟩
   refine ⟨⟨some (.int (p.1 : Int)), some (.bl true), ?_⟩, rfl⟩
   rw [et, zgf, zho, e]
   rfl
 ·rintro σ H2 ⟨⟨v3, v4, rfl⟩, rfl⟩
  rw [← lx, List.take_length]
  refine ⟨_, rfl, _, rfl, zar (by show 2 ≤ 1000; decide), fun t ht => ?_⟩
  exact q t _ (zaf ht _) zac
theorem zd5 (T : Txt K mg a d) : FnOk P w K mg base CX0 3 a.f_open_at d.f_open_at ["wood", "picks"] zto := by
 have ac := zdf (P := P) (w := w) (base := base) T
 have aa := zcn (P := P) (w := w) (base := base) T
 refine T.K_open_at.ok sc_open_at (fun vs H Q E h => ?_) (fun cdv A outer s H vs Q E hr h => ?_)
 ·obtain ⟨wd, pl, m, xs, ys, ps, rfl, _⟩ := h
  rfl
 obtain ⟨wd, pl, m, xs, ys, ps, rfl, WA, m9, PA, q⟩ := h
 refine ⟨_, (zae (zao (i := 2) sc_open_at.nd rfl (Or.inl rfl) (zag ac hr.lv rfl T.K_stand_of (zaa (pv 1) zab)))
   (zai (zap (zag aa hr.lv rfl T.K_open_options (zaa (zat (ixT (K := K)) (pv 0) zad (fun _ _ => rfl)) (zaa (zat (ixT (K := K)) (pv 2) zad (fun _ _ => rfl)) (zaa (zat (ixT (K := K)) (pv 2) zad (fun _ _ => rfl)) zab))))))), ?_⟩
 refine ⟨_, rfl, pl, ps, rfl, PA, fun t H1 s1 ht => ?_⟩
 obtain ⟨tb, tc, hw, hb, hc⟩ := WoodAt.same s1 WA
 refine ⟨_, rfl, wd, _, _, _, rfl, rfl, sqT hw, at0, _, rfl, t, _, _, _, rfl, rfl, sqT ht, at0, _, rfl, t, _, _, _, rfl, rfl, sqT ht, at1, ?_⟩
 exact ⟨m, zaj ps, zau ps, rfl, m9, fun l H2 s2 nl hl => q l H2 (s1.trans s2) (s1.free nl) hl⟩
theorem ze1 (T : Txt K mg a d) : FnOk P w K mg base CX0 18 a.f_first_ware_at d.f_first_ware_at ["wood", "picks"] zrl := by
 have ac := zdf (P := P) (w := w) (base := base) T
 have aa := zk7 (P := P) (w := w) (base := base) T
 refine T.K_first_ware_at.ok sc_first_ware_at (fun vs H Q E h => ?_) (fun cdv A outer s H vs Q E hr h => ?_)
 ·obtain ⟨wd, pl, m, ts, ps, rfl, _⟩ := h
  rfl
 obtain ⟨wd, pl, m, ts, ps, rfl, W, m9, m1, PA, S, q⟩ := h
 refine ⟨_, (zae (zao (i := 2) sc_first_ware_at.nd rfl (Or.inl rfl) (zag ac hr.lv rfl T.K_stand_of (zaa (pv 1) zab)))
   (zai (zap (zag aa hr.lv rfl T.K_first_ware (zaa (pv 0) (zaa (zat (ixT (K := K)) (pv 2) zad (fun _ _ => rfl)) (zaa (zat (ixT (K := K)) (pv 2) zad (fun _ _ => rfl)) zab))))))), ?_⟩
 refine ⟨_, rfl, pl, ps, rfl, PA, fun t H1 s1 ht => ?_⟩
 refine ⟨_, rfl, _, rfl, t, _, _, _, rfl, rfl, sqT ht, at0, _, rfl, t, _, _, _, rfl, rfl, sqT ht, at1, ?_⟩
 exact ⟨wd, m, ts, zaj ps, zau ps, rfl, W.same s1, m9, m1, S, fun H2 o s2 h => q H2 o (s1.trans s2) (by cases o <;> exact h)⟩
theorem zel (T : Txt K mg a d) : FnOk P w K mg base CX0 19 a.f_leads_on d.f_leads_on ["wood", "picks", "pick"] zu6 := by
 have aa := ze1 (P := P) (w := w) (base := base) T
 refine T.K_leads_on.ok zos (fun vs H Q E h => ?_) (fun cdv A outer s H vs Q E hr h => ?_)
 ·obtain ⟨wd, pl, tp, m, ts, ps, p, rfl, _⟩ := h
  rfl
 obtain ⟨wd, pl, tp, m, ts, ps, p, rfl, W, m9, m1, PA, pf, ag, ah, S, q⟩ := h
 obtain ⟨xs, ad, pk⟩ := PA.ex
 have lx := pk.length
 refine ⟨_, (zai (zap (zbc zh4 (zag aa hr.lv rfl T.K_first_ware_at (zaa (pv 0) (zaa (zax zea (pv 1) (za8 (zaa (pv 2) zab))) zab))) zco (zaq _)))), ?_⟩
 refine ⟨_, rfl, _, rfl, _, rfl, zar (by show 1 ≤ 1000; decide), fun l1 af => ?_⟩
 have s1 := zaf af (.lst [.ref tp])
 have h1 : L2.upd H l1 (.lst [.ref tp]) l1 = some (.lst [.ref tp]) := zac
 generalize L2.upd H l1 (.lst [.ref tp]) = H1 at s1 h1 ⊢
 refine ⟨pl, l1, _, _, rfl, rfl, s1 _ _ ad, h1, zar (by show xs.length + 1 ≤ 1000; omega), fun l2 ae => ?_⟩
 have s2 := zaf ae (.lst (xs ++ [.ref tp]))
 have h2 : L2.upd H1 l2 (.lst (xs ++ [.ref tp])) l2 = some (.lst (xs ++ [.ref tp])) := zac
 generalize L2.upd H1 l2 (.lst (xs ++ [.ref tp])) = H2 at s2 h2 ⊢
 have ac := s1.trans s2
 have PB : PicksAt H2 l2 (ps ++ [p]) := ⟨⟨_, h2, PickL.snoc (ac _ _ ah) (pk.same (Same.tup ac))⟩, by rw [List.length_append, List.length_singleton]; omega, fun x hx => by
  rcases List.mem_append.mp hx with z | z
  ·exact PA.le x z
  ·rw [List.mem_singleton.mp z]; exact ag⟩
 refine ⟨wd, l2, m, ts, ps ++ [p], rfl, W.same ac, m9, m1, PB, S, fun H3 o s3 ho => ?_⟩
 have q1 := q H3 o (ac.trans s3) ho
 refine ⟨rfl, ?_⟩
 cases o <;> exact q1
theorem zez (T : Txt K mg a d) : FnOk P w K mg base CX0 1 a.f_left_without d.f_left_without ["things", "one"] zo6 := by
 refine T.K_left_without.ok zfn (fun vs H Q E h => ?_) (fun cdv A outer s H vs Q E hr h => ?_)
 ·obtain ⟨l, tp, ps, p, rfl, _⟩ := h
  rfl
 obtain ⟨l, tp, ps, p, rfl, pa, ad, q⟩ := h
 obtain ⟨xs, hl, pl⟩ := pa.ex
 have few := pa.few
 have lx := pl.length
 refine ⟨_, (zai (zap (zeo (N' := ["other", "one"]) (n := 1) (kp := [1]) rfl (piL (K := K) (pv 0)) rfl rfl rfl (fun _ _ _ _ _ => (zaw (i := 0) (of_decide_eq_true rfl) rfl (Or.inl rfl))) (fun _ _ _ _ _ => (zcl (zan (zkf hr.units) (pv 0) (pv 1) (zaq _)))) (fun _ _ _ _ _ => (pv 0))))), ?_⟩
 refine ⟨_, rfl, l, rfl, ⟨_, SqL.of hl⟩, ?_⟩
 refine zcc (K := K) (a := l) (xs := xs) (fun j ys σ H2 => (∃ v, σ = [v, some (.ref tp)]) ∧ H2 = H ∧ ys.length ≤ j ∧ PickL H (zck (ps.take j) p) ys) ⟨⟨none, rfl⟩, rfl, Nat.le_refl _, rfl⟩ (fun j ys σ H2 hj pv => ?_) (fun j ys σ H2 hj pv => ?_) (fun j x ys σ H2 hx pv => ?_) (fun ys σ H2 pv la aa => ?_)
 ·exact zar (by have := pv.2.2.1; omega)
 ·rw [pv.2.1]
  exact SqL.of hl
 ·obtain ⟨⟨v0, rfl⟩, rfl, lj, pk⟩ := pv
  obtain ⟨p1, t1, ae, rfl, ac⟩ := pl.get hx
  have et : zck (ps.take (j + 1)) p = zck (ps.take j) p ++ (if p1 = p then [] else [p1]) := by
   unfold zck
   rw [List.take_add_one, ae, Option.toList_some, List.filter_append]
   congr 1
   by_cases c : p1 = p
   ·rw [if_pos c, List.filter_cons_of_neg (by rw [decide_eq_true c]; exact Bool.false_ne_true)]
    rfl
   ·rw [if_neg c, List.filter_cons_of_pos (by rw [decide_eq_false c]; rfl)]
    rfl
  refine ⟨_, rfl, _, rfl, zbw p1, zbw p, zqp ac, zqp ad, ziw _, ziw _, _, rfl, ?_⟩
  rw [zjn]
  by_cases c : p1 = p
  ·refine zcq c ?_
   refine ⟨⟨_, rfl⟩, rfl, by omega, ?_⟩
   rw [et, if_pos c, List.append_nil]
   exact pk
  ·refine zk2 c ?_
   refine ⟨_, rfl, ⟨_, rfl⟩, rfl, by rw [List.length_append]; simp only [List.length_cons, List.length_nil]; omega, ?_⟩
   rw [et, if_neg c]
   exact PickL.snoc ac pk
 obtain ⟨_, rfl, lj, pk⟩ := pv
 rw [← lx, List.take_length] at pk
 have s1 := zaf aa (.lst ys)
 exact q la _ s1 aa ⟨⟨ys, zac, pk.same (Same.tup s1)⟩, Nat.le_trans (List.length_filter_le _ _) few, fun x hx => pa.le x (List.mem_filter.mp hx).1⟩
theorem zkq (T : Txt K mg a d) : FnOk P w K mg base CX0 18 a.f_least_picks d.f_least_picks ["wood", "ties", "picks", "asked"] zt9 := by
 have aa := zez (P := P) (w := w) (base := base) T
 have ac := zdf (P := P) (w := w) (base := base) T
 have ad := zpz (P := P) (w := w) (base := base) T
 refine T.K_least_picks.ok sc_least_picks (fun vs H Q E h => ?_) (fun cdv A outer s H vs Q E hr h => ?_)
 ·obtain ⟨wd, tl, l, tp, m, ts, il, ps, p, rfl, _⟩ := h
  rfl
 obtain ⟨wd, tl, l, tp, m, ts, il, ps, p, rfl, W, m9, ar, am, pa, few, aw, aq, q⟩ := h
 obtain ⟨xs, hl, pl⟩ := pa.ex
 refine ⟨_, (zae (zao (i := 4) sc_least_picks.nd rfl (Or.inl rfl) (pv 2))
   (zae (zch PassesOwn.never rfl (piL (K := K) (pv 2)) (zaw (i := 5) sc_least_picks.nd rfl (Or.inl rfl)) (zae (zao (i := 6) sc_least_picks.nd rfl (Or.inl rfl) (zag aa hr.lv rfl T.K_left_without (zaa (pv 4) (zaa (pv 5) zab))))
   (zae (zao (i := 7) sc_least_picks.nd rfl (Or.inl rfl) (zag ac hr.lv rfl T.K_stand_of (zaa (zax zea (pv 6) (za8 (zaa (pv 3) zab))) zab)))
   (zai (za4 (zbo (zag ad hr.lv rfl T.K_bars (zaa (pv 0) (zaa (pv 1) (zaa (zat (ixT (K := K)) (pv 7) zad (fun _ _ => rfl)) (zaa (zat (ixT (K := K)) (pv 7) zad (fun _ _ => rfl)) zab)))))) (zai (zao (i := 4) sc_least_picks.nd rfl (Or.inl rfl) (pv 6))) za0)))))
   (zai (zap (pv 4))))), ?_⟩
 refine ⟨_, rfl, ?_⟩
 refine ⟨_, rfl, l, rfl, ⟨_, SqL.of hl⟩, ?_⟩
 refine zcx (K := K) (a := l) (xs := xs) (fun i σ H2 => ∃ (l2 : Addr) (o5 o6 o7 : Option V), σ = [some (.ref wd), some (.ref tl), some (.ref l), some (.ref tp), some (.ref l2), o5, o6, o7] ∧ Same H H2 ∧ PicksAt H2 l2 (lpk ts il m p (ps.take i) ps)) ⟨l, none, none, none, rfl, Same.refl _, pa⟩ (fun i σ H2 hi pv => ?_) (fun i x σ H2 hx pv => ?_) (fun σ H2 pv => ?_)
 ·obtain ⟨_, _, _, _, _, s2, _⟩ := pv
  exact SqL.of (s2 _ _ hl)
 ·obtain ⟨l2, o5, o6, o7, rfl, s2, ae⟩ := pv
  obtain ⟨p1, t1, al, rfl, au⟩ := pl.get hx
  have sub := (zgp (ts := ts) (il := il) (m := m) (a := p) (ps.take i) ps).length_le
  refine ⟨_, rfl, _, rfl, l2, t1, _, p1, rfl, ae, s2 _ _ au, fun l3 H3 s3 ax ag => ?_⟩
  have ai := s2.trans s3
  obtain ⟨zs, hz, _⟩ := ag.ex
  have lw : (zck (lpk ts il m p (ps.take i) ps) p1).length ≤ 19 := Nat.le_trans (List.length_filter_le _ _) (by omega)
  refine ⟨_, rfl, _, rfl, zar (by show 1 ≤ 1000; decide), fun l4 ao => ?_⟩
  have s4 := zaf ao (.lst [.ref tp])
  have g4 : L2.upd H3 l4 (.lst [.ref tp]) l4 = some (.lst [.ref tp]) := zac
  generalize L2.upd H3 l4 (.lst [.ref tp]) = H4 at s4 g4 ⊢
  have lz : zs.length ≤ 20 := by
   obtain ⟨ay, ak, pz⟩ := ag.ex
   rw [hz] at ak
   cases ak
   rw [← pz.length]
   omega
  refine ⟨l3, l4, zs, _, rfl, rfl, s4 _ _ hz, g4, zar (by show zs.length + 1 ≤ 1000; omega), fun l5 av => ?_⟩
  have s5 := zaf av (.lst (zs ++ [.ref tp]))
  have g5 : L2.upd H4 l5 (.lst (zs ++ [.ref tp])) l5 = some (.lst (zs ++ [.ref tp])) := zac
  generalize L2.upd H4 l5 (.lst (zs ++ [.ref tp])) = H5 at s5 g5 ⊢
  have ah := s4.trans s5
  have ap := ag.snoc hz (by omega) aq (ai _ _ aw) ah g5
  refine ⟨l5, _, rfl, ap, fun t6 H6 s6 aj => ?_⟩
  have af := (ai.trans ah).trans s6
  refine ⟨_, rfl, _, rfl, _, rfl, t6, _, _, _, rfl, rfl, sqT aj, at0, _, rfl, t6, _, _, _, rfl, rfl, sqT aj, at1, wd, m, ts, tl, il, _, _, rfl, W.same af, m9, af _ _ ar, am, fun H7 s7 => ?_⟩
  refine ⟨_, rfl, ?_⟩
  have ev := zjw (ts := ts) (il := il) (m := m) (a := p) (p := p1) (ps.take i) ps
  have et : ps.take (i + 1) = ps.take i ++ [p1] := by rw [List.take_add_one, al, Option.toList_some]
  refine zci (fun c => ?_) (fun c => ?_)
  ·refine ⟨_, rfl, l3, _, _, _, rfl, af.trans s7, ?_⟩
   rw [et, ev, if_pos c]
   exact (ag.same ah).same (s6.trans s7)
  ·refine ⟨l2, _, _, _, rfl, af.trans s7, ?_⟩
   rw [et, ev, if_neg c]
   exact ae.same ((s3.trans ah).trans (s6.trans s7))
 obtain ⟨l2, o5, o6, o7, rfl, s2, ae⟩ := pv
 rw [← pl.length, List.take_length] at ae
 exact ⟨_, rfl, q l2 H2 s2 ae⟩
theorem zjp (T : Txt K mg a d) : FnOk P w K mg base CX0 18 a.f_pick_others d.f_pick_others ["wood", "ties", "picks", "asked"] zm8 := by
 have ac := zez (P := P) (w := w) (base := base) T
 have ad := zdf (P := P) (w := w) (base := base) T
 have aa := zbt (P := P) (w := w) (base := base) T 9
 refine T.K_pick_others.ok sc_pick_others (fun vs H Q E h => ?_) (fun cdv A outer s H vs Q E hr h => ?_)
 ·obtain ⟨wd, tl, l, tp, m, ts, il, ps, p, rfl, _⟩ := h
  rfl
 obtain ⟨wd, tl, l, tp, m, ts, il, ps, p, rfl, W, m9, aD, aw, pa, few, av, aA, q⟩ := h
 obtain ⟨xs, hl, pl⟩ := pa.ex
 have lx := pl.length
 refine ⟨_, (zae (zao (i := 4) sc_pick_others.nd rfl (Or.inl rfl) (za8 zab))
   (zae (zch PassesOwn.never rfl (piL (K := K) (pv 2)) (zaw (i := 5) sc_pick_others.nd rfl (Or.inl rfl)) (zae (zao (i := 6) sc_pick_others.nd rfl (Or.inl rfl) (zag ad hr.lv rfl T.K_stand_of (zaa (zax zea (zag ac hr.lv rfl T.K_left_without (zaa (pv 2) (zaa (pv 5) zab))) (za8 (zaa (pv 3) zab))) zab)))
   (zai (zca (zeu (K := K) PySem.F.plainAttrs_list PySem.F.slot_list_append PySem.F.type_list_append zcr (pv 4) (zaa (zbb (zaa (pv 5) (zaa (zag aa hr.lv rfl T.K_first_keeping (zaa (pv 0) (zaa (pv 1) (zaa (zat (ixT (K := K)) (pv 6) zad (fun _ _ => rfl)) (zaa (zat (ixT (K := K)) (pv 6) zad (fun _ _ => rfl)) zab))))) zab))) zab))))))
   (zai (zap (pv 4))))), ?_⟩
 refine ⟨zar (by show 0 ≤ 1000; decide), fun ol ah => ?_⟩
 have s0 := zaf ah (.lst [])
 have g0 : L2.upd H ol (.lst []) ol = some (.lst []) := zac
 generalize L2.upd H ol (.lst []) = H0 at s0 g0 ⊢
 have ay := s0 _ _ hl
 have aI : l ≠ ol := fun z => by rw [z, ah] at hl; cases hl
 have ae : ∀ H2, SameX ol H0 H2 → Same H H2 := fun H2 x => SameX.freshW s0 ah g0 x
 refine ⟨_, rfl, l, rfl, ⟨_, SqL.of ay⟩, ?_⟩
 refine zcx (K := K) (a := l) (xs := xs) (fun i σ H2 => ∃ (o5 o6 : Option V) (ys : List V), σ = [some (.ref wd), some (.ref tl), some (.ref l), some (.ref tp), some (.ref ol), o5, o6] ∧ SameX ol H0 H2 ∧ H2 ol = some (.lst ys) ∧ ys.length = i ∧ ∀ (j : Nat) p1, j < i → ps[j]? = some p1 → ∃ q t, ys[j]? = some (.ref q) ∧ H2 q = some (.tup [.ref t, zhq (zbh ts il m 9 (zaj (zck ps p1 ++ [p])) (zau (zck ps p1 ++ [p])))]) ∧ H2 t = some (.tup [.int (p1.1 : Int), .bl p1.2])) ⟨none, none, [], rfl, SameX.refl _ _, g0, rfl, fun j p1 hj => absurd hj (Nat.not_lt_zero _)⟩ (fun i σ H2 hi pv => ?_) (fun i x σ H2 hx pv => ?_) (fun σ H2 pv => ?_)
 ·obtain ⟨_, _, _, _, x2, _⟩ := pv
  exact SqL.of (ae H2 x2 _ _ hl)
 ·obtain ⟨o5, o6, ys, rfl, x2, ag, ly, am⟩ := pv
  have aH := (List.getElem?_eq_some_iff.mp hx).1
  obtain ⟨p1, t1, aF, rfl, ar⟩ := pl.get hx
  have s2 := ae H2 x2
  refine ⟨_, rfl, _, rfl, l, t1, ps, p1, rfl, pa.same s2, s2 _ _ ar, fun l3 H3 s3 aG aq => ?_⟩
  have az := s2.trans s3
  obtain ⟨zs, hz, pz⟩ := aq.ex
  have lw : (zck ps p1).length ≤ 19 := Nat.le_trans (List.length_filter_le _ _) few
  have lz := pz.length
  refine ⟨_, rfl, zar (by show 1 ≤ 1000; decide), fun l4 ax => ?_⟩
  have s4 := zaf ax (.lst [.ref tp])
  have g4 : L2.upd H3 l4 (.lst [.ref tp]) l4 = some (.lst [.ref tp]) := zac
  generalize L2.upd H3 l4 (.lst [.ref tp]) = H4 at s4 g4 ⊢
  refine ⟨l3, l4, zs, _, rfl, rfl, s4 _ _ hz, g4, zar (by show zs.length + 1 ≤ 1000; omega), fun l5 aE => ?_⟩
  have s5 := zaf aE (.lst (zs ++ [.ref tp]))
  have g5 : L2.upd H4 l5 (.lst (zs ++ [.ref tp])) l5 = some (.lst (zs ++ [.ref tp])) := zac
  generalize L2.upd H4 l5 (.lst (zs ++ [.ref tp])) = H5 at s5 g5 ⊢
  have au := s4.trans s5
  have aB := aq.snoc hz (by omega) aA (az _ _ av) au g5
  refine ⟨l5, _, rfl, aB, fun t6 H6 s6 ap => ?_⟩
  have ak := (s3.trans au).trans s6
  have ao := s2.trans ak
  have al : H6 ol = some (.lst ys) := ak _ _ ag
  have of := zc1 m (zaj (zck ps p1 ++ [p])) (zau (zck ps p1 ++ [p]))
  refine ⟨_, rfl, .inl ⟨rfl, _, SqL.of al⟩, ?_⟩
  refine ⟨_, rfl, _, rfl, _, rfl, _, rfl, t6, _, _, _, rfl, rfl, sqT ap, at0, _, rfl, t6, _, _, _, rfl, rfl, sqT ap, at1, wd, m, ts, tl, il, _, _, rfl, W.same ao, ao _ _ aD, aw, by omega, fun H7 s7 => ?_⟩
  refine ⟨zar (by show 2 ≤ 1000; decide), fun q8 aC => ?_⟩
  have s8 := zaf aC (.tup [.ref t1, zhq (zbh ts il m 9 (zaj (zck ps p1 ++ [p])) (zau (zck ps p1 ++ [p])))])
  have g8 : L2.upd H7 q8 (.tup [.ref t1, zhq (zbh ts il m 9 (zaj (zck ps p1 ++ [p])) (zau (zck ps p1 ++ [p])))]) q8 = some (.tup [.ref t1, zhq (zbh ts il m 9 (zaj (zck ps p1 ++ [p])) (zau (zck ps p1 ++ [p])))]) := zac
  generalize L2.upd H7 q8 (.tup [.ref t1, zhq (zbh ts il m 9 (zaj (zck ps p1 ++ [p])) (zau (zck ps p1 ++ [p])))]) = H8 at s8 g8 ⊢
  have ai := (ak.trans s7).trans s8
  have af : H8 ol = some (.lst ys) := ai _ _ ag
  refine ⟨ol, ys, _, rfl, rfl, af, zbd (by omega), ?_⟩
  have x9 := za1 (pen := ol) (H := H8) (.lst (ys ++ [.ref q8]))
  have t9 := SameX.tup af x9
  have tt := zav (Same.tup ai) t9
  refine ⟨_, _, ys ++ [.ref q8], rfl, (x2.trans (Same.x ai)).trans x9, zac, by rw [List.length_append, ly]; rfl, fun j p2 hj aj => ?_⟩
  rcases Nat.lt_or_ge j i with z | z
  ·obtain ⟨q', t', a1, a2, a3⟩ := am j p2 z aj
   exact ⟨q', t', by rw [List.getElem?_append_left (by omega)]; exact a1, tt _ _ a2, tt _ _ a3⟩
  ·have e : j = i := by omega
   subst e
   rw [aF] at aj
   cases aj
   exact ⟨q8, t1, by rw [List.getElem?_append_right (by omega), ly, Nat.sub_self]; rfl, t9 _ _ g8, (zav (Same.tup (s2.trans ai)) t9) _ _ ar⟩
 obtain ⟨o5, o6, ys, rfl, x2, ag, ly, am⟩ := pv
 exact ⟨_, rfl, q ol H2 (ae H2 x2) ah ⟨ys, ag, by omega, fun j p1 hj => am j p1 (by rw [← lx]; exact (List.getElem?_eq_some_iff.mp hj).1) hj⟩⟩
theorem zlf (T : Txt K mg a d) (LB : zi7 mg base a.c_cases_of a.t_cases_of) : FnOk P w K mg base CX0 19 a.f_why_barred d.f_why_barred ["wood", "picks", "asked"] (spT a.t_cases_of zw6) := by
 have ac := zdf (P := P) (w := w) (base := base) T
 have ag := zlb (P := P) (w := w) (base := base) T
 have ae := zkq (P := P) (w := w) (base := base) T
 have ai := zn7 (P := P) (w := w) (base := base) T LB 9
 have af := zld (P := P) (w := w) (base := base) T
 have ad := zjp (P := P) (w := w) (base := base) T
 refine T.K_why_barred.ok sc_why_barred (fun vs H Q E h => ?_) (fun cdv A outer s H vs Q E hr h => ?_)
 ·obtain ⟨_, wd, pl, tp, m, ts, ps, p, rfl, _⟩ := h
  rfl
 obtain ⟨tb, wd, pl, tp, m, ts, ps, p, rfl, W, bN, m9, pa, few, nd, aD, aG, q⟩ := h
 obtain ⟨xs, hl, px⟩ := pa.ex
 have lx := px.length
 refine ⟨_, (zae (zao (i := 3) sc_why_barred.nd rfl (Or.inl rfl) (zag ac hr.lv rfl T.K_stand_of (zaa (zax zea (pv 1) (za8 (zaa (pv 2) zab))) zab)))
   (zae (zao (i := 4) sc_why_barred.nd rfl (Or.inl rfl) (zag ag hr.lv rfl T.K_least_ties (zaa (pv 0) (zaa (zat (ixT (K := K)) (pv 3) zad (fun _ _ => rfl)) (zaa (zat (ixT (K := K)) (pv 3) zad (fun _ _ => rfl)) zab)))))
   (zae (zao (i := 5) sc_why_barred.nd rfl (Or.inl rfl) (zag ae hr.lv rfl T.K_least_picks (zaa (pv 0) (zaa (pv 4) (zaa (zaz (zmt (K := K)) rfl T.m_sorted PyProof.Rows.boot_sorted (zaa (pv 1) zab)) (zaa (pv 2) zab))))))
   (zae (zao (i := 3) sc_why_barred.nd rfl (Or.inl rfl) (zag ac hr.lv rfl T.K_stand_of (zaa (zax zea (pv 5) (za8 (zaa (pv 2) zab))) zab)))
   (zae (zao (i := 6) sc_why_barred.nd rfl (Or.inl rfl) (zag ai hr.lv rfl T.K_cases_of (zaa (pv 0) (zaa (pv 4) (zaa (zat (ixT (K := K)) (pv 3) zad (fun _ _ => rfl)) (zaa (zat (ixT (K := K)) (pv 3) zad (fun _ _ => rfl)) zab))))))
   (zae (zao (i := 7) sc_why_barred.nd rfl (Or.inl rfl) (zax zea (zag af hr.lv rfl T.K_tie_others (zaa (pv 0) (zaa (pv 4) (zaa (zat (ixT (K := K)) (pv 3) zad (fun _ _ => rfl)) (zaa (zat (ixT (K := K)) (pv 3) zad (fun _ _ => rfl)) zab))))) (zag ad hr.lv rfl T.K_pick_others (zaa (pv 0) (zaa (pv 4) (zaa (pv 5) (zaa (pv 2) zab)))))))
   (zai (zap (zbb (zaa (pv 4) (zaa (pv 5) (zaa (pv 6) (zaa (pv 7) zab))))))))))))), ?_⟩
 refine ⟨_, rfl, _, rfl, zar (by show 1 ≤ 1000; decide), fun l4 br => ?_⟩
 have s4 := zaf br (.lst [.ref tp])
 have g4 : L2.upd H l4 (.lst [.ref tp]) l4 = some (.lst [.ref tp]) := zac
 generalize L2.upd H l4 (.lst [.ref tp]) = H4 at s4 g4 ⊢
 refine ⟨pl, l4, xs, _, rfl, rfl, s4 _ _ hl, g4, zar (by show xs.length + 1 ≤ 1000; omega), fun l5 bq => ?_⟩
 have s5 := zaf bq (.lst (xs ++ [.ref tp]))
 have g5 : L2.upd H4 l5 (.lst (xs ++ [.ref tp])) l5 = some (.lst (xs ++ [.ref tp])) := zac
 generalize L2.upd H4 l5 (.lst (xs ++ [.ref tp])) = H5 at s5 g5 ⊢
 have ba := s4.trans s5
 have bj := pa.snoc hl (by omega) aG aD ba g5
 refine ⟨l5, _, rfl, bj, fun t6 H6 s6 be => ?_⟩
 have bf := ba.trans s6
 refine ⟨_, rfl, _, rfl, t6, _, _, _, rfl, rfl, sqT be, at0, _, rfl, t6, _, _, _, rfl, rfl, sqT be, at1, wd, m, ts, _, _, rfl, W.same bf, m9, fun lf H7 s7 bI aM => ?_⟩
 generalize aY : zc6 ts m (zaj (ps ++ [p])) (zau (ps ++ [p])) = il at aM q
 have aF : ∀ i ∈ il, i < ts.length := fun i hi => by
  rw [← aY] at hi
  exact List.mem_range.mp (leastL_sub.subset hi)
 have bp : il.length ≤ 900 := by
  rw [← aY]
  have := (leastL_sub (ts := ts) (m := m) (y := zaj (ps ++ [p])) (n := zau (ps ++ [p]))).length_le
  unfold zdv at this
  rw [List.length_range] at this
  omega
 have bg := bf.trans s7
 have bv := pa.same bg
 obtain ⟨bJ, bh, bA⟩ := bv.ex
 obtain ⟨es, e1, e2, e3, e4⟩ := bA.es
 refine ⟨_, rfl, _, rfl, _, rfl, pl, es, rfl, SqL.of (by rw [← e1]; exact bh), ⟨fun e he => ⟨_, (e4 e he).1⟩, ?_⟩, ?_, fun al pe pw l8 bB => ?_⟩
 ·rw [e2]
  have : (ps.map fun p => ((p.1 : Nat) : Int)) = (ps.map (·.1)).map fun k : Nat => (k : Int) := by rw [List.map_map]; rfl
  rw [this]
  rw [List.nodup_iff_pairwise_ne, List.pairwise_map]
  exact List.Pairwise.imp (fun {a b} h z => h (by omega)) (List.nodup_iff_pairwise_ne.mp nd)
 ·have := congrArg List.length e3
  rw [List.length_map] at this
  omega
 have s8 := zaf bB (.lst (al.map fun e => V.ref e.2))
 have g8 : L2.upd H7 l8 (.lst (al.map fun e => V.ref e.2)) l8 = some (.lst (al.map fun e => V.ref e.2)) := zac
 generalize L2.upd H7 l8 (.lst (al.map fun e => V.ref e.2)) = H8 at s8 g8 ⊢
 have aS : ∀ e ∈ al, H7 e.2 = some (.tup [.int e.1, .bl (zc4 H7 e.2).2]) ∧ e.1 = (((zc4 H7 e.2).1 : Nat) : Int) := fun e he => e4 e (pe.mem_iff.mp he)
 obtain ⟨ak, au⟩ : ∃ ak, ak = al.map fun e => zc4 H7 e.2 := ⟨_, rfl⟩
 have pm : ak.Perm ps := by
  rw [au, ← e3]
  exact pe.map _
 have up : (ak.map (·.1)).Pairwise (· < ·) := by
  rw [au, List.map_map, List.pairwise_map]
  rw [List.pairwise_map] at pw
  refine List.Pairwise.imp_of_mem (fun {a b} ha hb h => ?_) pw
  have a1 := (aS a ha).2
  have b1 := (aS b hb).2
  show (zc4 H7 a.2).1 < (zc4 H7 b.2).1
  omega
 have aJ : ak.length ≤ 19 := by rw [pm.length_eq]; exact few
 have bF : PicksAt H8 l8 ak := ⟨⟨_, g8, by rw [au]; exact (PickL.of_es al aS).same (Same.tup s8)⟩, by omega, fun x hx => pa.le x (pm.mem_iff.mp hx)⟩
 have aK := bg.trans s8
 refine ⟨_, rfl, wd, lf, l8, tp, m, ts, il, ak, p, rfl, W.same aK, m9, s8 _ _ aM, aF, bF, aJ, aK _ _ aD, aG, fun lp H9 s9 az => ?_⟩
 have sub := (zgp (ts := ts) (il := il) (m := m) (a := p) ak ak).length_le
 have aO := aK.trans s9
 obtain ⟨zs, hz, pz⟩ := az.ex
 have lz := pz.length
 refine ⟨_, rfl, _, rfl, zar (by show 1 ≤ 1000; decide), fun aA aT => ?_⟩
 have aE := zaf aT (.lst [.ref tp])
 have aV : L2.upd H9 aA (.lst [.ref tp]) aA = some (.lst [.ref tp]) := zac
 generalize L2.upd H9 aA (.lst [.ref tp]) = aW at aE aV ⊢
 refine ⟨lp, aA, zs, _, rfl, rfl, aE _ _ hz, aV, zar (by show zs.length + 1 ≤ 1000; omega), fun aC aQ => ?_⟩
 have aI := zaf aQ (.lst (zs ++ [.ref tp]))
 have bd : L2.upd aW aC (.lst (zs ++ [.ref tp])) aC = some (.lst (zs ++ [.ref tp])) := zac
 generalize L2.upd aW aC (.lst (zs ++ [.ref tp])) = bK at aI bd ⊢
 have aP := az.snoc hz (by omega) aG (aO _ _ aD) (aE.trans aI) bd
 refine ⟨aC, _, rfl, aP, fun aH bu bo ar => ?_⟩
 have av := (aE.trans aI).trans bo
 have aq := aO.trans av
 have aj : bu lf = some (.lst (zal il)) := ((s8.trans s9).trans av) _ _ aM
 have of := zc1 m (zaj (lpk ts il m p ak ak ++ [p])) (zau (lpk ts il m p ak ak ++ [p]))
 refine ⟨_, rfl, _, rfl, _, rfl, aH, _, _, _, rfl, rfl, sqT ar, at0, _, rfl, aH, _, _, _, rfl, rfl, sqT ar, at1, aq.tab tb, wd, m, ts, lf, il, _, _, rfl, W.same aq, aj, aF, by omega, fun tv bH ax dv => ?_⟩
 have aL := aq.trans ax
 have ay := ax _ _ ar
 refine ⟨_, rfl, _, rfl, _, rfl, aH, _, _, _, rfl, rfl, sqT ay, at0, _, rfl, aH, _, _, _, rfl, rfl, sqT ay, at1, wd, lf, m, ts, il, _, _, rfl, W.same aL, m9, ax _ _ aj, aF, bp, fun o1 bO aB bG ot => ?_⟩
 have ao := (av.trans ax).trans aB
 have aw := aO.trans ao
 refine ⟨_, rfl, _, rfl, _, rfl, _, rfl, wd, lf, lp, tp, m, ts, il, _, p, rfl, W.same aw, m9, (ax.trans aB) _ _ aj, aF, az.same ao, by omega, aw _ _ aD, aG, fun o2 aU bc bM op => ?_⟩
 obtain ⟨am, aN, bz, bx⟩ := ot.ex
 obtain ⟨ap, aR, bi, bt⟩ := op.ex
 refine ⟨o1, o2, am, ap, rfl, rfl, bc _ _ aN, aR, zar (by omega), fun ol bw => ?_⟩
 have aZ := zaf bw (.lst (am ++ ap))
 have bb : L2.upd aU ol (.lst (am ++ ap)) ol = some (.lst (am ++ ap)) := zac
 generalize L2.upd aU ol (.lst (am ++ ap)) = bL at aZ bb ⊢
 refine ⟨_, rfl, _, rfl, _, rfl, _, rfl, zar (by show 4 ≤ 1000; decide), fun qq bE => ?_⟩
 have aX := zaf bE (.tup [.ref lf, .ref lp, tv, .ref ol])
 have ah := aZ.trans aX
 have aa := bc.trans ah
 refine q _ _ ak ⟨pm, up⟩ (aw.trans aa) ⟨qq, lf, lp, ol, o1, o2, tv, am, ap, rfl, zac, ((ax.trans aB).trans aa) _ _ aj, (az.same ao).same aa, Dn.same (aB.trans aa) _ _ dv, ⟨am, aa _ _ aN, bz, fun j t hj => ?_⟩, ⟨ap, ah _ _ aR, bi, fun j t hj => ?_⟩, aa _ _ aN, ah _ _ aR, aX _ _ bb⟩
 ·obtain ⟨q', a1, a2⟩ := bx j t hj
  exact ⟨q', a1, aa _ _ a2⟩
 ·obtain ⟨q', t', a1, a2, a3⟩ := bt j t hj
  exact ⟨q', t', a1, ah _ _ a2, ah _ _ a3⟩
theorem zdi (T : Txt K mg a d) : FnOk P w K mg base CX0 1 a.f_law_take d.f_law_take ["_law_state", "_law_most"] (zwm K) := by
 refine T.K_law_take.ok sc_law_take (fun vs H Q E h => ?_) (fun cdv A outer s H vs Q E hr h => ?_)
 ·obtain ⟨pen, sp, ns, aa, k, rfl, _⟩ := h
  rfl
 obtain ⟨pen, sp, ns, aa, k, rfl, pn, k0, k1, m0, q⟩ := h
 have hp := pn.at_
 have el : (ns.map V.int).length = ns.length := List.length_map _
 have ac : ∀ j : Int, 0 ≤ j → j < ns.length → ∃ v : Int, atI (ns.map V.int) j = some (.int v) := fun j j0 j1 => by
  obtain ⟨m, rfl⟩ : ∃ m : Nat, j = (m : Int) := ⟨j.toNat, by omega⟩
  have hj : m < ns.length := by omega
  refine ⟨ns[m], zdx ?_⟩
  rw [List.getElem?_map, List.getElem?_eq_getElem hj]
  rfl
 have ad : ∃ t, PSs (zb3 CX0 P w K mg base ["_law_state", "_law_most", "_law_script", "_law_at", "_law_number"] "_law_take" (zah zeb) a.f_law_take cdv A outer s H E).nox ((za2 zeb).drop 5) t ∧ ∀ (N : Int) (v0 v2 v3 : Option V), t { nx := fun _ H' => Q .non H', rt := Q } [v0, some (.int aa), v2, v3, some (.int N)] (L2.upd H pen (.lst [.ref sp, .int (k + 1)])) := by
  refine ⟨_, (zai (zap (zax zf8 (zax zf8 (zax zet (zax zf8 (zax zet (pv 4) zad) zad) (zax zbx (zax zf8 (pv 4) zad) zad)) zad) (pv 1)))), fun N v0 v2 v3 => ?_⟩
  have n0 : 0 ≤ N * 48271 % 2147483629 := Int.emod_nonneg _ (by decide)
  have n1 : N * 48271 % 2147483629 < 2147483629 := Int.emod_lt_of_pos _ (by decide)
  refine ⟨_, rfl, _, _, rfl, rfl, .inr ⟨by decide, by decide⟩, _, _, rfl, rfl, (by show (0 : Int) < 2147483629; decide), _, rfl, _, _, rfl, rfl, (by show (0 : Int) < 65521; decide), _, _, rfl, rfl, _, _, rfl, rfl, .inl ⟨by omega, by omega⟩, _, _, rfl, rfl, (by show (0 : Int) < 999999937; decide), _, rfl, _, _, rfl, rfl, m0, ?_⟩
  exact q _ (Int.emod_nonneg _ (by omega)) (Int.emod_lt_of_pos _ m0)
 obtain ⟨t5, h5, r5⟩ := ad
 refine ⟨_, (zae (zh8 (pv 0) (zwb (K := K) rfl (za3 (zaw (i := 2) sc_law_take.nd rfl (Or.inl rfl)) (za3 (zaw (i := 3) sc_law_take.nd rfl (Or.inl rfl)) zce))))
   (zae (zh8 (zax zbx (pv 3) zad) (zud (pv 0) zad zof))
   (zae (za4 (zan zki (pv 3) (zaz (zdw (K := K)) rfl T.m_len PySem.boot_len (zaa (pv 2) zab)) (zaq _)) (zai (zap (zax zf8 (zat (ixL (K := K)) (pv 2) (pv 3) (fun _ _ => rfl)) (pv 1)))) za0)
   (zae (zao (i := 4) sc_law_take.nd rfl (Or.inl rfl) (zax zbx (zax zbx (zax zet (zax zet (pv 3) (pv 3)) zad) (zax zet zad (pv 3))) zad))
   (zae (za4 (zan ziq (zaz (zdw (K := K)) rfl T.m_len PySem.boot_len (zaa (pv 2) zab)) zad (zaq _)) (zai (zao (i := 4) sc_law_take.nd rfl (Or.inl rfl) (zax zbx (pv 4) (zax zet (zax zf8 (zat (ixL (K := K)) (pv 2) (zax zf8 (zax zet (pv 3) zad) (zaz (zdw (K := K)) rfl T.m_len PySem.boot_len (zaa (pv 2) zab))) (fun _ _ => rfl)) zad) (zax zbx (pv 3) zad))))) za0)
   h5))))), ?_⟩
 refine ⟨_, rfl, pen, _, rfl, SqL.of hp, rfl, _, _, rfl, _, _, rfl, rfl, ?_⟩
 refine ⟨_, rfl, _, _, rfl, rfl, _, rfl, pen, _, _, _, rfl, rfl, hp, rfl, ?_⟩
 have hS := pn.scr _ (za1 (pen := pen) (H := H) (.lst [.ref sp, .int (k + 1)]))
 refine ⟨_, rfl, _, rfl, sp, _, rfl, .inl hS, _, _, rfl, rfl, _, rfl, ?_⟩
 refine zci (fun c => ?_) (fun c => ?_)
 ·have c' : k < ((ns.map V.int).length : Nat) := of_decide_eq_true c
  rw [el] at c'
  obtain ⟨v, hv⟩ := ac k k0 c'
  exact ⟨_, rfl, _, rfl, sp, _, _, _, rfl, rfl, hS, hv, _, rfl, _, _, rfl, rfl, m0, q _ (Int.emod_nonneg _ (by omega)) (Int.emod_lt_of_pos _ m0)⟩
 refine ⟨_, rfl, _, rfl, _, _, rfl, rfl, (by unfold CMul; omega), _, _, rfl, rfl, .inr ⟨by decide, by decide⟩, _, rfl, _, _, rfl, rfl, .inl ⟨by decide, by decide⟩, _, _, rfl, rfl, _, _, rfl, rfl, ?_⟩
 refine ⟨_, rfl, sp, _, rfl, .inl hS, _, _, rfl, rfl, _, rfl, ?_⟩
 refine zci (fun c2 => ?_) (fun c2 => ?_)
 ·have ae : (0 : Int) < ((ns.map V.int).length : Nat) := of_decide_eq_true c2
  rw [el] at ae
  have ag : 0 ≤ k * 3 % (ns.length : Int) := Int.emod_nonneg _ (by omega)
  have af : k * 3 % (ns.length : Int) < ns.length := Int.emod_lt_of_pos _ ae
  obtain ⟨v, hv⟩ := ac _ ag af
  have v0 : 0 ≤ v % 2147483563 := Int.emod_nonneg _ (by decide)
  have v1 : v % 2147483563 < 2147483563 := Int.emod_lt_of_pos _ (by decide)
  refine ⟨_, rfl, _, rfl, _, rfl, _, _, rfl, rfl, .inr ⟨by decide, by decide⟩, _, rfl, sp, _, rfl, .inl hS, _, _, rfl, rfl, (by rw [el]; exact ae), sp, _, _, _, rfl, rfl, hS, (by rw [el]; exact hv), ?_⟩
  refine ⟨_, _, rfl, rfl, (by show (0 : Int) < 2147483563; decide), _, rfl, _, _, rfl, rfl, _, _, rfl, rfl, .inl ⟨by omega, by omega⟩, _, _, rfl, rfl, ?_⟩
  exact r5 _ _ _ _
 ·exact r5 _ _ _ _
theorem zlg (T : Txt K mg a d) : FnOk P w K mg base CX0 2 a.f_law_boughs d.f_law_boughs ["_law_state", "_law_many"] (zqy K) := by
 have aa := zdi (P := P) (w := w) (base := base) T
 refine T.K_law_boughs.ok sc_law_boughs (fun vs H Q E h => ?_) (fun cdv A outer s H vs Q E hr h => ?_)
 ·obtain ⟨pen, sp, ns, m, k, rfl, _⟩ := h
  rfl
 obtain ⟨pen, sp, ns, m, k, rfl, pn, k0, k1, m1, m9, q⟩ := h
 have aK : (2 : Int) ^ 62 = 4611686018427387904 := by decide
 have ax : ∃ t, PSs (zb3 CX0 P w K mg base ["_law_state", "_law_many", "_law_groups", "_law_k", "_law_up", "_law_old", "_law_boughs_here", "_law_kids", "_law_size", "_law_low", "_law_high"] "_law_boughs" (zah zcf) a.f_law_boughs cdv A outer s H E).nox ((zdt (za2 zcf) 3).drop 3) t ∧ ∀ (D : zgt) (g bl l : Addr) (u lo hi : Int) (af : List Int) (v3 v5 v8 : Option V) (xs : List V) (H5 : Hp), H5 l = some (.lst (af.map V.int)) → H5 bl = some (.lst xs) → xs.length ≤ 100 →
   (∀ (v : V) (H6 : Hp), Same H5 H6 → Dn H6 (zrc u lo hi af) v → D.nx [some (.ref pen), some (.int (m : Int)), some (.ref g), v3, some (.int u), v5, some (.ref bl), some (.ref l), v8, some (.int lo), some (.int hi)] (L2.upd H6 bl (.lst (xs ++ [v])))) →
   t D [some (.ref pen), some (.int (m : Int)), some (.ref g), v3, some (.int u), v5, some (.ref bl), some (.ref l), v8, some (.int lo), some (.int hi)] H5 := by
  refine ⟨_, (zai (zca (zeu (K := K) PySem.F.plainAttrs_list PySem.F.slot_list_append PySem.F.type_list_append zcr (pv 6) (zaa (zbb (zaa (pv 4) (zaa (pv 9) (zaa (pv 10) (zaa (zbv zc9 rfl T.m_tuple PyProof.Rows.boot_tuple (zaa (pv 7) zab)) zab))))) zab)))), ?_⟩
  intro D g bl l u lo hi af v3 v5 v8 xs H5 hl aj few nx
  refine ⟨_, rfl, .inl ⟨rfl, _, SqL.of aj⟩, _, rfl, _, rfl, _, rfl, _, rfl, l, _, rfl, .inl ⟨SqL.of hl, fun tk bW => ?_⟩⟩
  refine ⟨zar (by show 4 ≤ 1000; decide), fun tb bY => ?_⟩
  have s1 := zaf bW (.tup (af.map V.int))
  have s2 := zaf bY (.tup [.int u, .int lo, .int hi, .ref tk])
  have bg := s1.trans s2
  refine ⟨bl, _, _, rfl, rfl, bg _ _ aj, zbd (by omega), ?_⟩
  exact nx _ _ bg ⟨tb, _, rfl, zac, _, _, rfl, rfl, _, _, rfl, rfl, _, _, rfl, rfl, _, _, rfl, ⟨tk, _, rfl, s2 _ _ zac, zn8 af⟩, rfl⟩
 obtain ⟨tA, hA, rA⟩ := ax
 refine ⟨_, (zae (zao (i := 2) sc_law_boughs.nd rfl (Or.inl rfl) (za8 zab))
   (zae (zch PassesOwn.never rfl (zrd rfl T.m_range (zaa zad (zaa (pv 1) zab))) (zaw (i := 3) sc_law_boughs.nd rfl (Or.inl rfl)) (zae (zao (i := 4) sc_law_boughs.nd rfl (Or.inr rfl) (zax zet (zag aa hr.lv rfl T.K_law_take (zaa (pv 0) (zaa (pv 3) zab))) (zbv zlv rfl T.m_int PyProof.Rows.boot_int (zaa (zbc ziq (zag aa hr.lv rfl T.K_law_take (zaa (pv 0) (zaa zad zab))) zad (zaq _)) zab))))
   (zae (zf6 (i := 5) sc_law_boughs.nd rfl rfl rfl (N' := ["_law_group", "_law_up"]) (n := 1) (kp := [4]) rfl (piL (K := K) (pv 2)) rfl rfl rfl (fun _ _ _ _ _ => (zaw (i := 0) (of_decide_eq_true rfl) rfl (Or.inl rfl))) (fun _ _ _ _ _ => (zcl (zan zbq (zat (ixT (K := K)) (pv 0) zad (fun _ _ => rfl)) (pv 1) (zaq _)))) (fun _ _ _ _ _ => (pv 0)))
   (zai (za4 (PW.pt (zgc (zan (zkf hr.units) (pv 5) (za8 zab) (zaq _)) (zfg (zan ziq (zag aa hr.lv rfl T.K_law_take (zaa (pv 0) (zaa zad zab))) zad (zaq _))))) (zai (zca (zeu (K := K) PySem.F.plainAttrs_list PySem.F.slot_list_append PySem.F.type_list_append zcr (zat (ixT (K := K)) (zat (ixL (K := K)) (pv 5) (znu zkn zad) (fun _ _ => rfl)) zad (fun _ _ => rfl)) (zaa (pv 3) zab)))) (zai (zca (zeu (K := K) PySem.F.plainAttrs_list PySem.F.slot_list_insert PySem.F.type_list_insert zrf (pv 2) (zaa (zag aa hr.lv rfl T.K_law_take (zaa (pv 0) (zaa (zax zbx (zaz (zdw (K := K)) rfl T.m_len PySem.boot_len (zaa (pv 2) zab)) zad) zab))) (zaa (zbb (zaa (pv 4) (zaa (za8 (zaa (pv 3) zab)) zab))) zab))))))))))
   (zae (zao (i := 6) sc_law_boughs.nd rfl (Or.inl rfl) (za8 zab))
   (zae (zch PassesOwn.never rfl (piL (K := K) (pv 2)) (pgT (K := K) (n := 2) rfl (za3 (zaw (i := 4) sc_law_boughs.nd rfl (Or.inr rfl)) (za3 (zaw (i := 7) sc_law_boughs.nd rfl (Or.inl rfl)) zce))) (zae (zao (i := 8) sc_law_boughs.nd rfl (Or.inl rfl) (zaz (zdw (K := K)) rfl T.m_len PySem.boot_len (zaa (pv 7) zab)))
   (zae (zh8 (zat (ixL (K := K)) (za8 (zaa (zbb (zaa (pv 8) (zaa (pv 8) zab))) (zaa (zbb (zaa zad (zaa (pv 8) zab))) (zaa (zbb (zaa zad (zaa zad zab))) (zaa (zbb (zaa zad (zaa zad zab))) zab))))) (zag aa hr.lv rfl T.K_law_take (zaa (pv 0) (zaa zad zab))) (fun _ _ => rfl)) (pgT (K := K) (n := 2) rfl (za3 (zaw (i := 9) sc_law_boughs.nd rfl (Or.inl rfl)) (za3 (zaw (i := 10) sc_law_boughs.nd rfl (Or.inl rfl)) zce))))
   (zae (za4 (zan zbq (zag aa hr.lv rfl T.K_law_take (zaa (pv 0) (zaa zad zab))) zad (zaq _)) (zae (zao (i := 9) sc_law_boughs.nd rfl (Or.inl rfl) (zag aa hr.lv rfl T.K_law_take (zaa (pv 0) (zaa (zax zbx (pv 8) zad) zab))))
   (zai (zao (i := 10) sc_law_boughs.nd rfl (Or.inl rfl) (zaz (zia rfl) rfl T.m_max PyProof.Rows.boot_max (zaa zad (zaa (zax zbx (pv 9) (zag aa hr.lv rfl T.K_law_take (zaa (pv 0) (zaa (zax zbx (zax zfz (pv 8) (pv 9)) zad) zab)))) zab)))))) za0)
   hA))))
   (zai (zap (pv 6))))))), ?_⟩
 refine ⟨zar (by decide), fun g hg => ?_⟩
 have ba : pen ≠ g := zam pn.at_ hg
 refine ⟨_, rfl, _, _, rfl, ⟨by rw [aK]; omega, by rw [aK]; omega, by rw [aK]; omega, by rw [aK]; omega⟩, ?_⟩
 obtain ⟨Pv, az⟩ : ∃ Pv : Nat → St → Hp → Prop, ∀ i σ H2, Pv i σ H2 ↔ (∃ (v3 v4 v5 : Option V) (gs : List Grp) (kk : Int), σ = [some (.ref pen), some (.int (m : Int)), some (.ref g), v3, v4, v5, none, none, none, none, none] ∧ SameX pen H H2 ∧ H2 pen = some (.lst [.ref sp, .int kk]) ∧ k ≤ kk ∧ kk ≤ k + 4 * i ∧ GAt H H2 g gs ∧ GOk ((i : Int) + 1) gs) := ⟨_, fun _ _ _ => Iff.rfl⟩
 refine zl3 (lo := 1) (n := ((m : Int) - 1).toNat) Pv ((az _ _ _).mpr ⟨none, none, none, [], k, rfl, Same.x (zaf hg _), (zaf hg _) _ _ pn.at_, Int.le_refl _, by omega, ⟨zac, hg, (fun _ z => nomatch z), (fun _ z => nomatch z), List.nodup_nil⟩, ⟨(fun _ z => nomatch z), List.Perm.refl _⟩⟩) ?_ ?_
 ·rintro i σ H2 hi ao
  obtain ⟨v3, v4, v5, gs, kk, rfl, sx, ap, bA, bE, GA, GK⟩ := (az _ _ _).mp ao
  have few := GK.few
  have i9 : (i : Int) < 9 := by omega
  have el : ∀ l : List Grp, (l.map fun x => V.ref x.t).length = l.length := fun l => List.length_map _
  have e1 : 1 + (i : Int) = (i : Int) + 1 := by omega
  have e2 : ((i + 1 : Nat) : Int) + 1 = (i : Int) + 2 := by omega
  refine ⟨_, rfl, _, rfl, pen, sp, ns, _, kk, rfl, pn.to sx ap, by omega, by omega, by omega, fun c c0 c1 => ?_⟩
  have ad := sx.trans (za1 (pen := pen) (H := H2) (.lst [.ref sp, .int (kk + 1)]))
  have bU := GA.pen (ys := [.ref sp, .int (kk + 1)]) ⟨_, pn.at_⟩ ap
  refine ⟨_, rfl, pen, sp, ns, 3, kk + 1, rfl, pn.to ad zac, by omega, by omega, by decide, fun d d0 d1 => ?_⟩
  have bc := ad.trans (za1 (pen := pen) (.lst [.ref sp, .int (kk + 1 + 1)]))
  have aF := bU.pen (ys := [.ref sp, .int (kk + 1 + 1)]) ⟨_, pn.at_⟩ zac
  have aR : L2.upd (L2.upd H2 pen (.lst [.ref sp, .int (kk + 1)])) pen (.lst [.ref sp, .int (kk + 1 + 1)]) pen = some (.lst [.ref sp, .int (kk + 1 + 1)]) := zac
  generalize L2.upd (L2.upd H2 pen (.lst [.ref sp, .int (kk + 1)])) pen (.lst [.ref sp, .int (kk + 1 + 1)]) = H4 at bc aF aR ⊢
  refine ⟨_, _, rfl, rfl, .inr ⟨_, rfl, ?_⟩⟩
  refine ⟨_, _, rfl, rfl, .inl ⟨by omega, by omega⟩, ?_⟩
  obtain ⟨u, hu, u0, u1⟩ : ∃ u : Int, c * (if decide (d > 0) = true then 1 else 0) = u ∧ 0 ≤ u ∧ u < (i : Int) + 1 := by
   refine ⟨_, rfl, ?_, ?_⟩ <;> split <;> omega
  dsimp only
  rw [hu]
  refine ⟨_, rfl, g, rfl, ⟨_, SqL.of aF.at_⟩, ?_⟩
  refine zcc (K := K) (a := g) (xs := gs.map fun x => V.ref x.t) (fun j ys σ H5 => (∃ v, σ = [v, some (.int u)]) ∧ H5 = H4 ∧ ys = ((gs.take j).filter fun x => decide (x.up = u)).map fun x => V.ref x.t) ⟨⟨none, rfl⟩, rfl, rfl⟩ (fun j ys σ H5 hj pv => ?_) (fun j ys σ H5 hj pv => ?_) (fun j x ys σ H5 hx pv => ?_) (fun ys σ H5 pv ol bo => ?_)
  ·obtain ⟨_, _, rfl⟩ := pv
   rw [el]
   have := List.length_filter_le (fun x : Grp => decide (x.up = u)) (gs.take j)
   rw [List.length_take] at this
   exact zar (by omega)
  ·rw [pv.2.1]
   exact SqL.of aF.at_
  ·obtain ⟨⟨v, rfl⟩, rfl, rfl⟩ := pv
   rw [List.getElem?_map] at hx
   obtain ⟨y, hy, rfl⟩ := Option.map_eq_some_iff.mp hx
   have et : gs.take (j + 1) = gs.take j ++ [y] := by rw [List.take_add_one, hy, Option.toList_some]
   refine ⟨_, rfl, y.t, _, _, _, rfl, rfl, sqT (aF.tup y (List.mem_of_getElem? hy)), at0, _, rfl, rfl, _, rfl, ?_⟩
   by_cases cc : y.up = u
   ·refine zfr (by rw [cc]) ?_
    refine ⟨_, rfl, ⟨_, rfl⟩, rfl, ?_⟩
    rw [et, List.filter_append, List.filter_cons_of_pos (by simpa using cc), List.map_append]
    rfl
   ·refine zbs (fun z => cc (by injection z)) ?_
    refine ⟨⟨_, rfl⟩, rfl, ?_⟩
    rw [et, List.filter_append, List.filter_cons_of_neg (by simpa using cc), List.filter_nil, List.append_nil]
  obtain ⟨_, rfl, rfl⟩ := pv
  have bX : ol ≠ pen := Ne.symm (zam aR bo)
  rw [el, List.take_length] at *
  generalize aB : gs.filter (fun x => decide (x.up = u)) = ac at *
  have aH : ∀ x ∈ ac, x ∈ gs := fun x hx => by rw [← aB] at hx; exact (List.mem_filter.mp hx).1
  have s6 := zaf bo (.lst (ac.map fun x => V.ref x.t))
  have bj := aF.same s6
  have bi := s6 _ _ aR
  have be := bc.trans (Same.x s6)
  have ay : L2.upd H5 ol (.lst (ac.map fun x => V.ref x.t)) ol = some (.lst (ac.map fun x => V.ref x.t)) := zac
  generalize L2.upd H5 ol (.lst (ac.map fun x => V.ref x.t)) = H6 at s6 bj bi be ay ⊢
  refine ⟨_, rfl, zar (by decide), fun aJ aQ => ?_⟩
  have s7 := zaf aQ (.lst [])
  have aw := bj.same s7
  have aD := s7 _ _ bi
  have aE := be.trans (Same.x s7)
  have aq := s7 _ _ ay
  have ak : L2.upd H6 aJ (.lst []) aJ = some (.lst []) := zac
  generalize L2.upd H6 aJ (.lst []) = H7 at s7 aw aD aE aq ak ⊢
  refine ⟨.list (ac.map zo7), .list [], ⟨ol, _, rfl, aq, zqm aw ac aH⟩, ⟨aJ, _, rfl, ak, rfl⟩, zoq ac, zoy, _, rfl, ?_⟩
  rw [zu4]
  have new : ∀ (k3 : Int) (H8 : Hp) (v5 : Option V), k ≤ k3 → k3 ≤ k + 4 * i + 4 → SameX pen H H8 → H8 pen = some (.lst [.ref sp, .int k3]) → GAt H H8 g gs → ∀ (nl nt : Addr) (j : Nat), H8 nl = none → L2.upd H8 nl (.lst [.int (1 + (i : Int))]) nt = none → j ≤ gs.length →
    Pv (i + 1) [some (.ref pen), some (.int (m : Int)), some (.ref g), some (.int (1 + (i : Int))), some (.int u), v5, none, none, none, none, none] (L2.upd (L2.upd (L2.upd H8 nl (.lst [.int (1 + (i : Int))])) nt (.tup [.int u, .ref nl])) g (.lst ((gs.map fun x => V.ref x.t).take j ++ V.ref nt :: (gs.map fun x => V.ref x.t).drop j))) := by
   intro k3 H8 v5 bV ce ag ah ae nl nt j ai am hj
   have s9 := (zaf ai (.lst [.int (1 + (i : Int))])).trans (zaf am (.tup [.int u, .ref nl]))
   rw [← List.map_take, ← List.map_drop]
   refine (az _ _ _).mpr ⟨_, _, _, gs.take j ++ ⟨nt, u, nl, [1 + (i : Int)]⟩ :: gs.drop j, k3, rfl, SameX.put (ag.trans (Same.x s9)) hg (Ne.symm ba) (s9 _ _ ae.at_), ?_, bV, by push_cast; omega, ?_, ?_⟩
   ·rw [zak ba]
    exact s9 _ _ ah
   ·exact GAt.ins (pre := gs.take j) (post := gs.drop j) (by rw [List.take_append_drop]; exact ae) (ag.free ⟨_, ah⟩ ai) ai am
   ·rw [e2, e1]
    exact GOk.ins (k := i) (by rw [List.take_append_drop]; exact GK) u0 u1
  by_cases c5 : ac = []
  ·refine zcq (by rw [c5]; rfl) ?_
   refine zd1 ?_
   refine ⟨_, rfl, .inl ⟨rfl, _, SqL.of aw.at_⟩, _, rfl, _, rfl, g, _, rfl, .inl (SqL.of aw.at_), ?_⟩
   refine ⟨_, _, rfl, rfl, pen, sp, ns, _, kk + 1 + 1, rfl, pn.to aE aD, by omega, by omega, (by rw [el]; omega), fun j j0 j1 => ?_⟩
   rw [el] at j1
   have ag := aE.trans (za1 (pen := pen) (.lst [.ref sp, .int (kk + 1 + 1 + 1)]))
   have ae := aw.pen (ys := [.ref sp, .int (kk + 1 + 1 + 1)]) ⟨_, pn.at_⟩ aD
   have ah : L2.upd H7 pen (.lst [.ref sp, .int (kk + 1 + 1 + 1)]) pen = some (.lst [.ref sp, .int (kk + 1 + 1 + 1)]) := zac
   generalize L2.upd H7 pen (.lst [.ref sp, .int (kk + 1 + 1 + 1)]) = H8 at ag ae ah ⊢
   refine ⟨_, rfl, _, rfl, zar (by show 1 ≤ 1000; decide), fun nl ai => ?_⟩
   refine ⟨zar (by show 2 ≤ 1000; decide), fun nt am => ?_⟩
   have s9 := (zaf ai (.lst [.int (1 + (i : Int))])).trans (zaf am (.tup [.int u, .ref nl]))
   refine ⟨g, _, _, _, rfl, rfl, s9 _ _ ae.at_, j0, (by rw [el]; omega), (by rw [el]; exact zbd (by omega)), ?_⟩
   exact new (kk + 1 + 1 + 1) H8 _ (by omega) (by omega) ag ah ae nl nt j.toNat ai am (by omega)
  ·refine zk2 (fun z => c5 (by cases ac with | nil => rfl | cons x r => cases z)) ?_
   refine ⟨_, rfl, pen, sp, ns, 3, kk + 1 + 1, rfl, pn.to aE aD, by omega, by omega, by decide, fun e e0 cj => ?_⟩
   have ag := aE.trans (za1 (pen := pen) (.lst [.ref sp, .int (kk + 1 + 1 + 1)]))
   have ae := aw.pen (ys := [.ref sp, .int (kk + 1 + 1 + 1)]) ⟨_, pn.at_⟩ aD
   have ah : L2.upd H7 pen (.lst [.ref sp, .int (kk + 1 + 1 + 1)]) pen = some (.lst [.ref sp, .int (kk + 1 + 1 + 1)]) := zac
   have aG : L2.upd H7 pen (.lst [.ref sp, .int (kk + 1 + 1 + 1)]) ol = some (.lst (ac.map fun x => V.ref x.t)) := by rw [zak bX]; exact aq
   generalize L2.upd H7 pen (.lst [.ref sp, .int (kk + 1 + 1 + 1)]) = H8 at ag ae ah aG ⊢
   refine ⟨_, _, rfl, rfl, _, rfl, ?_⟩
   refine zci (fun c6 => ?_) (fun c6 => ?_)
   ·have bx : 0 < ac.length := List.length_pos_iff.mpr c5
    obtain ⟨x, bp⟩ : ∃ x, ac[ac.length - 1]? = some x := ⟨_, List.getElem?_eq_getElem (by omega)⟩
    have hx := aH x (List.mem_of_getElem? bp)
    have cp : ac.length ≤ gs.length := by rw [← aB]; exact List.length_filter_le _ _
    obtain ⟨pre, post, aW⟩ := List.append_of_mem hx
    have ty := ae.tup x hx
    have ly := ae.lst x hx
    refine ⟨_, rfl, _, rfl, ol, _, _, .ref x.t, rfl, rfl, SqL.of aG, ?_, x.t, _, _, _, rfl, rfl, sqT ty, at1, .inl ⟨rfl, _, SqL.of ly.1⟩, _, rfl, x.l, _, _, rfl, rfl, ly.1, ?_, ?_⟩
    ·unfold atI ixN
     rw [el, if_neg (by omega), if_pos (by omega)]
     show (List.map _ ac)[((-1 : Int) + (ac.length : Int)).toNat]? = _
     rw [show ((-1 : Int) + (ac.length : Int)).toNat = ac.length - 1 by omega, List.getElem?_map, bp]
     rfl
    ·have h1 := GK.perm.length_eq
     rw [List.length_map, List.length_range', aW, List.flatMap_append, List.flatMap_cons, List.length_append, List.length_append] at h1
     rw [List.length_map]
     exact zbd (by omega)
    have G9 : GAt H _ g _ := GAt.put (k := 1 + (i : Int)) (pre := pre) (post := post) (x := x) (by rw [← aW]; exact ae)
    refine (az _ _ _).mpr ⟨_, _, _, _, kk + 1 + 1 + 1, rfl, SameX.put ag ly.2.1 (fun z => by have := pn.at_; rw [← z, ly.2.1] at this; cases this) ly.1, ?_, by omega, by push_cast; omega, G9, ?_⟩
    ·rw [zak (fun z => by have := pn.at_; rw [z, ly.2.1] at this; cases this)]
     exact ah
    ·rw [e2, e1]
     exact GOk.put (k := i) (by rw [← aW]; exact GK)
   ·refine ⟨_, rfl, .inl ⟨rfl, _, SqL.of ae.at_⟩, _, rfl, _, rfl, g, _, rfl, .inl (SqL.of ae.at_), ?_⟩
    refine ⟨_, _, rfl, rfl, pen, sp, ns, _, kk + 1 + 1 + 1, rfl, pn.to ag ah, by omega, by omega, (by rw [el]; omega), fun j j0 j1 => ?_⟩
    rw [el] at j1
    have bt := ag.trans (za1 (pen := pen) (.lst [.ref sp, .int (kk + 1 + 1 + 1 + 1)]))
    have bb := ae.pen (ys := [.ref sp, .int (kk + 1 + 1 + 1 + 1)]) ⟨_, pn.at_⟩ ah
    have bv : L2.upd H8 pen (.lst [.ref sp, .int (kk + 1 + 1 + 1 + 1)]) pen = some (.lst [.ref sp, .int (kk + 1 + 1 + 1 + 1)]) := zac
    generalize L2.upd H8 pen (.lst [.ref sp, .int (kk + 1 + 1 + 1 + 1)]) = H9 at bt bb bv ⊢
    refine ⟨_, rfl, _, rfl, zar (by show 1 ≤ 1000; decide), fun nl ai => ?_⟩
    refine ⟨zar (by show 2 ≤ 1000; decide), fun nt am => ?_⟩
    have bR := (zaf ai (.lst [.int (1 + (i : Int))])).trans (zaf am (.tup [.int u, .ref nl]))
    refine ⟨g, _, _, _, rfl, rfl, bR _ _ bb.at_, j0, (by rw [el]; omega), (by rw [el]; exact zbd (by omega)), ?_⟩
    exact new (kk + 1 + 1 + 1 + 1) H9 _ (by omega) (by omega) bt bv bb nl nt j.toNat ai am (by omega)
 ·rintro σ H2 ao
  obtain ⟨v3, v4, v5, gs, kk, rfl, sx, ap, bA, bE, GA, GK⟩ := (az _ _ _).mp ao
  have em : (((m : Int) - 1).toNat : Int) + 1 = (m : Int) := by omega
  rw [em] at GK
  have few := GK.few
  have el : (gs.map fun x => V.ref x.t).length = gs.length := List.length_map _
  refine ⟨zar (by decide), fun bl aj => ?_⟩
  have bK : H bl = none := sx.free ⟨_, ap⟩ aj
  have aL : bl ≠ pen := fun z => by rw [z, ap] at aj; cases aj
  have b9 : g ≠ bl := zam GA.at_ aj
  have s3 := zaf aj (.lst [])
  refine ⟨_, rfl, g, rfl, ⟨_, SqL.of (s3 _ _ GA.at_)⟩, ?_⟩
  obtain ⟨Pw, aC⟩ : ∃ Pw : Nat → St → Hp → Prop, ∀ j σ H3, Pw j σ H3 ↔ (∃ (v3 v4 v5 v7 v8 v9 aV : Option V) (kc : Int) (bs : List PyData) (xs : List V), σ = [some (.ref pen), some (.int (m : Int)), some (.ref g), v3, v4, v5, some (.ref bl), v7, v8, v9, aV] ∧ SameX pen H2 H3 ∧ H3 pen = some (.lst [.ref sp, .int kc]) ∧ kk ≤ kc ∧ kc ≤ kk + 4 * j ∧ H3 bl = some (.lst xs) ∧ DnL H3 bs xs ∧ bs.length = j ∧ (∀ b ∈ bs, zfc m b = true) ∧ bs.flatMap zkx = (gs.take j).flatMap (·.kids) ∧ bs.all (zbn 3) = true) := ⟨_, fun _ _ _ => Iff.rfl⟩
  refine zcx (K := K) (a := g) (xs := gs.map fun x => V.ref x.t) Pw ((aC _ _ _).mpr ⟨_, _, _, _, _, _, _, kk, [], [], rfl, Same.x s3, s3 _ _ ap, Int.le_refl _, by omega, zac, rfl, rfl, (fun _ z => nomatch z), rfl, rfl⟩) (fun j σ H3 _ z => ?_) ?_ ?_
  ·obtain ⟨_, _, _, _, _, _, _, _, _, _, _, ad, _⟩ := (aC _ _ _).mp z
   exact SqL.of (ad _ _ (Ne.symm ba) GA.at_)
  ·rintro j y σ H3 hy ao
   obtain ⟨v3, v4, v5, v7, v8, v9, aV, kc, bs, xs, rfl, ad, aM, bP, bu, aA, dn, ln, aP, ki, fl⟩ := (aC _ _ _).mp ao
   rw [List.getElem?_map] at hy
   obtain ⟨x, aS, rfl⟩ := Option.map_eq_some_iff.mp hy
   have hm := List.mem_of_getElem? aS
   have hj : j < gs.length := (List.getElem?_eq_some_iff.mp aS).1
   have lx := GA.lst x hm
   have aY : x.l ≠ pen := fun z => by have := pn.at_; rw [← z, lx.2.1] at this; cases this
   have aO := ad _ _ aY lx.1
   have gx := GK.each x hm
   have bG : (x.kids.map V.int).length = x.kids.length := List.length_map _
   have kp := List.length_pos_iff.mpr gx.2.1
   have kl : x.kids.length ≤ 9 := by
    have pk := GK.perm.length_eq
    rw [List.length_map, List.length_range'] at pk
    obtain ⟨l1, l2, e⟩ := List.append_of_mem hm
    rw [e, List.flatMap_append, List.flatMap_cons, List.length_append, List.length_append] at pk
    omega
   have cq := dn.length
   refine ⟨x.t, _, rfl, sqT ((SameX.tup ap ad) _ _ (GA.tup x hm)), rfl, _, _, rfl, _, _, rfl, rfl, ?_⟩
   refine ⟨_, rfl, x.l, _, rfl, .inl (SqL.of aO), ?_⟩
   rw [bG]
   have aI : ∀ (lo hi kd : Int) (H5 : Hp) (w3 w5 w8 : Option V), SameX pen H3 H5 → H5 pen = some (.lst [.ref sp, .int kd]) → kc ≤ kd → kd ≤ kc + 4 → H5 bl = some (.lst xs) → 0 ≤ lo → lo ≤ hi → 1 ≤ hi → hi ≤ x.kids.length → ∀ (v : V) (H6 : Hp), Same H5 H6 → Dn H6 (zrc x.up lo hi x.kids) v →
     Pw (j + 1) [some (.ref pen), some (.int (m : Int)), some (.ref g), w3, some (.int x.up), w5, some (.ref bl), some (.ref x.l), w8, some (.int lo), some (.int hi)] (L2.upd H6 bl (.lst (xs ++ [v]))) := by
    intro lo hi kd H5 w3 w5 w8 bf bM cg cn bN l0 l1 h1 h2 v H6 s6 dv
    have av := s6 _ _ bN
    have fb := zt5 x.up lo hi x.kids (by omega)
    have d6 := DnL.same s6 _ _ (DnL.tupS (SameX.tup aM bf) fl dn)
    refine (aC _ _ _).mpr ⟨_, _, _, _, _, _, _, kd, bs ++ [zrc x.up lo hi x.kids], xs ++ [v], rfl, SameX.put ((ad.trans bf).trans (Same.x s6)) aj aL av, ?_, by omega, by push_cast; omega, zac, ?_, ?_, fun b bO => ?_, ?_, ?_⟩
    ·rw [zak (Ne.symm aL)]
     exact s6 _ _ bM
    ·exact (DnL.pen av fl d6).append ⟨v, [], rfl, Dn.pen av fb dv, rfl⟩
    ·rw [List.length_append, List.length_singleton, ln]
    ·rcases List.mem_append.mp bO with z | z
     ·exact aP b z
     ·rw [List.mem_singleton.mp z]
      exact zw3 gx.1 gx.2.1 gx.2.2 l0 l1 h1 h2
    ·rw [List.flatMap_append, ki, zmh aS]
     simp [zs2]
    ·rw [List.all_append, fl]
     simp [fb]
   refine ⟨_, rfl, _, rfl, zar (by show 2 ≤ 1000; decide), fun t1 bz => ?_⟩
   refine ⟨_, rfl, zar (by show 2 ≤ 1000; decide), fun t2 bw => ?_⟩
   refine ⟨zar (by show 2 ≤ 1000; decide), fun t3 bI => ?_⟩
   refine ⟨zar (by show 2 ≤ 1000; decide), fun t4 bL => ?_⟩
   refine ⟨zar (by show 4 ≤ 1000; decide), fun tl bJ => ?_⟩
   have q1 := zaf bz (.tup [.int (x.kids.length : Nat), .int (x.kids.length : Nat)])
   have q2 := zaf bw (.tup [.int 0, .int (x.kids.length : Nat)])
   have q3 := zaf bI (.tup [.int 1, .int 1])
   have q4 := zaf bL (.tup [.int 0, .int 1])
   have q5 := zaf bJ (.lst [.ref t1, .ref t2, .ref t3, .ref t4])
   have sA := (((q1.trans q2).trans q3).trans q4).trans q5
   have e1 := q5 _ _ (q4 _ _ (q3 _ _ (q2 _ _ zac)))
   have e2 := q5 _ _ (q4 _ _ (q3 _ _ zac))
   have e3 := q5 _ _ (q4 _ _ zac)
   have e4 := q5 _ _ zac
   have e5 : L2.upd (L2.upd (L2.upd (L2.upd (L2.upd H3 t1 (.tup [.int (x.kids.length : Nat), .int (x.kids.length : Nat)])) t2 (.tup [.int 0, .int (x.kids.length : Nat)])) t3 (.tup [.int 1, .int 1])) t4 (.tup [.int 0, .int 1])) tl (.lst [.ref t1, .ref t2, .ref t3, .ref t4]) tl = some (.lst [.ref t1, .ref t2, .ref t3, .ref t4]) := zac
   generalize L2.upd (L2.upd (L2.upd (L2.upd (L2.upd H3 t1 (.tup [.int (x.kids.length : Nat), .int (x.kids.length : Nat)])) t2 (.tup [.int 0, .int (x.kids.length : Nat)])) t3 (.tup [.int 1, .int 1])) t4 (.tup [.int 0, .int 1])) tl (.lst [.ref t1, .ref t2, .ref t3, .ref t4]) = H4 at sA e1 e2 e3 e4 e5 ⊢
   have bT := ad.trans (Same.x (pen := pen) sA)
   have aN := sA _ _ aM
   have cm := sA _ _ aA
   have bF := pn.to (sx.trans bT) aN
   refine ⟨_, rfl, pen, sp, ns, 4, kc, rfl, bF, by omega, by omega, by decide, fun y y0 y1 => ?_⟩
   have b7 : tl ≠ pen := fun z => by rw [z, aN] at e5; cases e5
   obtain ⟨tt, ar, al, bQ, ht, g1, g2, g3, g4⟩ : ∃ (tt : Addr) (ar al : Int), atI [V.ref t1, V.ref t2, V.ref t3, V.ref t4] y = some (.ref tt) ∧ H4 tt = some (.tup [.int ar, .int al]) ∧ 0 ≤ ar ∧ ar ≤ al ∧ 1 ≤ al ∧ al ≤ x.kids.length := by
    have e : y = 0 ∨ y = 1 ∨ y = 2 ∨ y = 3 := by omega
    rcases e with e | e | e | e <;> rw [e]
    ·exact ⟨t1, _, _, rfl, e1, by omega, by omega, by omega, by omega⟩
    ·exact ⟨t2, _, _, rfl, e2, by omega, by omega, by omega, by omega⟩
    ·exact ⟨t3, _, _, rfl, e3, by omega, by omega, by omega, by omega⟩
    ·exact ⟨t4, _, _, rfl, e4, by omega, by omega, by omega, by omega⟩
   have aT : SameX pen H3 (L2.upd H4 pen (.lst [.ref sp, .int (kc + 1)])) := (Same.x (pen := pen) sA).trans (za1 _)
   have bd : L2.upd H4 pen (.lst [.ref sp, .int (kc + 1)]) tt = some (.tup [.int ar, .int al]) := by rw [zak (fun z => by rw [z, aN] at ht; cases ht)]; exact ht
   have bh : L2.upd H4 pen (.lst [.ref sp, .int (kc + 1)]) pen = some (.lst [.ref sp, .int (kc + 1)]) := zac
   refine ⟨tl, _, _, _, rfl, rfl, SqL.of (by rw [zak b7]; exact e5), bQ, ?_⟩
   generalize L2.upd H4 pen (.lst [.ref sp, .int (kc + 1)]) = H5 at aT bd bh ⊢
   refine ⟨tt, _, rfl, sqT bd, rfl, _, _, rfl, _, _, rfl, rfl, ?_⟩
   have bS := pn.to ((sx.trans ad).trans aT) bh
   refine ⟨_, rfl, pen, sp, ns, 3, kc + 1, rfl, bS, by omega, by omega, by decide, fun z z0 z1 => ?_⟩
   have au := aT.trans (za1 (pen := pen) (.lst [.ref sp, .int (kc + 1 + 1)]))
   have aX : L2.upd H5 pen (.lst [.ref sp, .int (kc + 1 + 1)]) pen = some (.lst [.ref sp, .int (kc + 1 + 1)]) := zac
   generalize L2.upd H5 pen (.lst [.ref sp, .int (kc + 1 + 1)]) = H6 at au aX ⊢
   refine ⟨rfl, _, rfl, ?_⟩
   refine zci (fun c => ?_) (fun c => ?_)
   ·have bZ := pn.to ((sx.trans ad).trans au) aX
    refine ⟨_, rfl, _, rfl, _, _, rfl, rfl, pen, sp, ns, _, kc + 1 + 1, rfl, bZ, by omega, by omega, by omega, fun lo bB bx => ?_⟩
    have aU := au.trans (za1 (pen := pen) (.lst [.ref sp, .int (kc + 1 + 1 + 1)]))
    have br : L2.upd H6 pen (.lst [.ref sp, .int (kc + 1 + 1 + 1)]) pen = some (.lst [.ref sp, .int (kc + 1 + 1 + 1)]) := zac
    generalize L2.upd H6 pen (.lst [.ref sp, .int (kc + 1 + 1 + 1)]) = H7 at aU br ⊢
    have bH := pn.to ((sx.trans ad).trans aU) br
    refine ⟨_, rfl, _, rfl, _, rfl, _, rfl, _, _, rfl, rfl, _, _, rfl, rfl, pen, sp, ns, _, kc + 1 + 1 + 1, rfl, bH, by omega, by omega, by omega, fun w w0 w1 => ?_⟩
    have aZ := aU.trans (za1 (pen := pen) (.lst [.ref sp, .int (kc + 1 + 1 + 1 + 1)]))
    refine ⟨_, _, rfl, rfl, _, _, rfl, ?_⟩
    have bq := aZ _ _ aL aA
    refine rA _ g bl x.l x.up lo _ x.kids _ _ _ xs _ (aZ _ _ aY aO) bq (by omega) (aI lo _ (kc + 1 + 1 + 1 + 1) _ _ _ _ aZ zac (by omega) (by omega) bq bB ?_ ?_ ?_)
    all_goals split <;> omega
   ·have av := au _ _ aL aA
    exact rA _ g bl x.l x.up ar al x.kids _ _ _ xs _ (au _ _ aY aO) av (by omega) (aI ar al (kc + 1 + 1) _ _ _ _ au aX (by omega) (by omega) av g1 g2 g3 g4)
  ·rintro σ H3 ao
   obtain ⟨v3, v4, v5, v7, v8, v9, aV, kc, bs, xs, rfl, ad, aM, bP, bu, aA, dn, ln, aP, ki, fl⟩ := (aC _ _ _).mp ao
   rw [el] at ln ki bu
   rw [List.take_length] at ki
   exact ⟨_, rfl, q bl bs xs kc H3 (sx.trans ad) aM (by omega) (by omega) aA bK dn ⟨aP, by rw [ki]; exact GK.perm⟩ (by omega) fl⟩
theorem zmj (T : Txt K mg a d) : FnOk P w K mg base CX0 2 a.f_law_cross d.f_law_cross ["_law_state", "_law_many", "_law_most"] (zpw K) := by
 have aa := zdi (P := P) (w := w) (base := base) T
 refine T.K_law_cross.ok sc_law_cross (fun vs H Q E h => ?_) (fun cdv A outer s H vs Q E hr h => ?_)
 ·obtain ⟨pen, sp, ns, m, ac, k, rfl, _⟩ := h
  rfl
 obtain ⟨pen, sp, ns, m, ac, k, rfl, pn, k0, k1, m1, m9, bW, bU, q⟩ := h
 have aN : (2 : Int) ^ 62 = 4611686018427387904 := by decide
 have aL : ∃ t, PSs (zb3 CX0 P w K mg base ["_law_state", "_law_many", "_law_most", "_law_cross_here", "_law_turn", "_law_one", "_law_other", "_law_way", "_law_far", "_law_pairs", "_law_total", "_law_top"] "_law_cross" (zah zbp) a.f_law_cross cdv A outer s H E).nox ((zu7 (za2 zbp) [(1, false), (3, true)]).drop 3) t ∧ ∀ (D : zgt) (cl pl : Addr) (ad kd : Int) (ps : List PyData) (xs zs : List V) (v4 v5 v6 v7 ai ah : Option V) (H5 : Hp), Pen K H5 pen sp ns kd → 0 ≤ kd → kd ≤ 950000 → H5 pl = some (.lst xs) → zje H5 m ps xs → 0 < ps.length → H5 cl = some (.lst zs) → zs.length ≤ 100 → cl ≠ pen → pl ≠ pen →
   (∀ (v : V) (top : Int) (ae : Option V) (H6 : Hp), SameX pen H5 H6 → H6 pen = some (.lst [.ref sp, .int (kd + 1 + 1)]) → Dn H6 (.tuple [.str ("most" : Str), .int top, .tuple ps]) v → H6 cl = some (.lst zs) → D.nx [some (.ref pen), some (.int (m : Int)), some (.int ac), some (.ref cl), v4, v5, v6, v7, some (.int ad), some (.ref pl), ae, some (.int top)] (L2.upd H6 cl (.lst (zs ++ [v])))) →
   t D [some (.ref pen), some (.int (m : Int)), some (.int ac), some (.ref cl), v4, v5, v6, v7, some (.int ad), some (.ref pl), ai, ah] H5 := by
  refine ⟨_, (zae (zao (i := 10) sc_law_cross.nd rfl (Or.inl rfl) (zaz (zev rfl) rfl T.m_sum PyProof.Rows.boot_sum (zaa (zeo (N' := ["_law_c", "_law_number"]) (n := 2) (kp := []) rfl (piL (K := K) (pv 9)) rfl rfl rfl (fun _ _ _ _ _ => (pgT (K := K) (n := 2) rfl (za3 (zaw (i := 0) (of_decide_eq_true rfl) rfl (Or.inl rfl)) (za3 (zaw (i := 1) (of_decide_eq_true rfl) rfl (Or.inl rfl)) zce)))) (fun _ _ _ _ _ => zfe) (fun _ _ _ _ _ => (zaz (zia rfl) rfl T.m_max PyProof.Rows.boot_max (zaa zad (zaa (pv 1) zab))))) zab)))
   (zae (zao (i := 11) sc_law_cross.nd rfl (Or.inl rfl) (zax zfz (zax zfz (zag aa hr.lv rfl T.K_law_take (zaa (pv 0) (zaa (zax zbx (pv 10) zad) zab))) zad) (zax zet (pv 8) (zax zqo (zag aa hr.lv rfl T.K_law_take (zaa (pv 0) (zaa zad zab))) zad))))
   (zai (zca (zeu (K := K) PySem.F.plainAttrs_list PySem.F.slot_list_append PySem.F.type_list_append zcr (pv 3) (zaa (zbb (zaa zbe (zaa (pv 11) (zaa (zbv zc9 rfl T.m_tuple PyProof.Rows.boot_tuple (zaa (pv 9) zab)) zab)))) zab)))))), ?_⟩
  intro D cl pl ad kd ps xs zs v4 v5 v6 v7 ai ah H5 ay bd bg au pt p0 aw bc af aM nx
  have few := pt.few
  have lx := pt.dn.length
  refine ⟨_, rfl, pl, rfl, ⟨_, SqL.of au⟩, ?_⟩
  refine zcc (K := K) (a := pl) (xs := xs) (fun i ys σ H7 => (∃ v v', σ = [v, v']) ∧ H7 = H5 ∧ ∃ nl : List Int, ys = nl.map V.int ∧ 0 ≤ nl.sum ∧ nl.length = i) ⟨⟨none, none, rfl⟩, rfl, [], rfl, Int.le_refl _, rfl⟩ (fun i ys σ H7 hi pv => ?_) (fun i ys σ H7 hi pv => ?_) (fun i x ys σ H7 hx pv => ?_) (fun ys σ H7 pv l hl => ?_)
  ·obtain ⟨_, _, nl, rfl, _, h1⟩ := pv
   rw [List.length_map]
   exact zar (by omega)
  ·rw [pv.2.1]
   exact SqL.of au
  ·obtain ⟨⟨v, v', rfl⟩, rfl, nl, rfl, h0, h1⟩ := pv
   obtain ⟨dd, bq, bx⟩ := pt.dn.get hx
   have pk := (List.all_eq_true.mp pt.ok) dd (List.mem_of_getElem? bq)
   obtain ⟨r, xa, nb, rfl, bE⟩ : ∃ (r : Addr) (xa : V) (nb : Int), x = .ref r ∧ H7 r = some (.tup [xa, .int nb]) := by
    unfold zfy at pk
    split at pk
    next dx dy =>
     obtain ⟨iy, rfl⟩ := zmi pk
     obtain ⟨r, ys, rfl, br, xa, r1, rfl, ha, xb, r2, rfl, hb, aY⟩ := ze5 bx
     cases (show r2 = [] from aY)
     cases zdm hb
     exact ⟨r, xa, iy, rfl, br⟩
    next => cases pk
   refine ⟨r, _, rfl, sqT bE, rfl, _, _, rfl, _, _, rfl, rfl, ?_⟩
   refine ⟨_, rfl, _, _, rfl, ⟨_, _, rfl⟩, rfl, nl ++ [if nb > 0 then nb else 0], ?_, ?_, ?_⟩
   ·rw [List.map_append]
    rfl
   ·rw [List.sum_append]
    have : 0 ≤ (if nb > 0 then nb else 0) := by split <;> omega
    simp only [List.sum_cons, List.sum_nil]
    omega
   ·rw [List.length_append, List.length_singleton, h1]
  obtain ⟨_, rfl, nl, rfl, h0, _⟩ := pv
  have s7 := zaf hl (.lst (nl.map V.int))
  have aS := ay.to (Same.x s7) (s7 _ _ ay.at_)
  refine ⟨l, nl, rfl, SqL.of zac, ?_⟩
  have aF := s7 _ _ aw
  have ag := s7 _ _ au
  have d7 := DnL.same s7 _ _ pt.dn
  have x7 : SameX pen H7 _ := Same.x (pen := pen) s7
  generalize L2.upd H7 l (.lst (nl.map V.int)) = H8 at s7 aS aF ag d7 x7 ⊢
  refine ⟨_, rfl, _, rfl, _, _, rfl, rfl, pen, sp, ns, _, kd, rfl, aS, by omega, by omega, by omega, fun x x0 x1 => ?_⟩
  have x8 := x7.trans (za1 (pen := pen) (.lst [.ref sp, .int (kd + 1)]))
  have aA : L2.upd H8 pen (.lst [.ref sp, .int (kd + 1)]) cl = some (.lst zs) := by rw [zak af]; exact aF
  have aJ : L2.upd H8 pen (.lst [.ref sp, .int (kd + 1)]) pl = some (.lst xs) := by rw [zak aM]; exact ag
  have d8 := DnL.pen (ys := [.ref sp, .int (kd + 1)]) aS.at_ pt.flat d7
  have aV := aS.to (za1 (pen := pen) (H := H8) (.lst [.ref sp, .int (kd + 1)])) zac
  generalize L2.upd H8 pen (.lst [.ref sp, .int (kd + 1)]) = H9 at x8 aA aJ d8 aV ⊢
  refine ⟨_, _, rfl, rfl, _, rfl, _, rfl, pen, sp, ns, 4, kd + 1, rfl, aV, by omega, by omega, by decide, fun y y0 y1 => ?_⟩
  have x9 := x8.trans (za1 (pen := pen) (.lst [.ref sp, .int (kd + 1 + 1)]))
  have al : L2.upd H9 pen (.lst [.ref sp, .int (kd + 1 + 1)]) cl = some (.lst zs) := by rw [zak af]; exact aA
  have aH : L2.upd H9 pen (.lst [.ref sp, .int (kd + 1 + 1)]) pl = some (.lst xs) := by rw [zak aM]; exact aJ
  have d9 := DnL.pen (ys := [.ref sp, .int (kd + 1 + 1)]) aV.at_ pt.flat d8
  have av : L2.upd H9 pen (.lst [.ref sp, .int (kd + 1 + 1)]) pen = some (.lst [.ref sp, .int (kd + 1 + 1)]) := zac
  generalize L2.upd H9 pen (.lst [.ref sp, .int (kd + 1 + 1)]) = HA at x9 al aH d9 av ⊢
  have y2 : 0 ≤ y / 3 := Int.ediv_nonneg y0 (by decide)
  have y3 : y / 3 ≤ 1 := by omega
  refine ⟨_, _, rfl, rfl, ⟨by decide, by decide⟩, _, _, rfl, rfl, .inr ⟨by omega, by omega⟩, _, _, rfl, rfl, ?_⟩
  refine ⟨_, rfl, .inl ⟨rfl, _, SqL.of al⟩, _, rfl, _, rfl, pl, _, rfl, .inl ⟨SqL.of aH, fun tk bQ => ?_⟩⟩
  refine ⟨zar (by show 3 ≤ 1000; decide), fun tt bL => ?_⟩
  have sa := zaf bQ (.tup xs)
  have sb := zaf bL (.tup [.str ("most" : Str), .int (x - 1 - ad * (y / 3)), .ref tk])
  have az := sa.trans sb
  refine ⟨cl, _, _, rfl, rfl, az _ _ al, zbd (by omega), ?_⟩
  exact nx _ _ _ _ (x9.trans (Same.x az)) (az _ _ av) ⟨tt, _, rfl, zac, _, _, rfl, rfl, _, _, rfl, rfl, _, _, rfl, ⟨tk, _, rfl, sb _ _ zac, DnL.same az _ _ d9⟩, rfl⟩ (az _ _ al)
 obtain ⟨tC, hC, rC⟩ := aL
 have aD : ∃ t, PSs (zb3 CX0 P w K mg base ["_law_state", "_law_many", "_law_most", "_law_cross_here", "_law_turn", "_law_one", "_law_other", "_law_way", "_law_far", "_law_pairs", "_law_total", "_law_top"] "_law_cross" (zah zbp) a.f_law_cross cdv A outer s H E).nox (zu7 (za2 zbp) [(1, false), (3, true)]) t ∧ ∀ (D : zgt) (cl : Addr) (one kc : Int) (zs : List V) (v4 v6 v7 v8 v9 ai ah : Option V) (H4 : Hp), Pen K H4 pen sp ns kc → 0 ≤ kc → kc ≤ 940000 → 0 ≤ one → one < m → H4 cl = some (.lst zs) → zs.length ≤ 100 → cl ≠ pen →
   (∀ (v : V) (top : Int) (ps : List PyData) (w8 w9 ae aj : Option V) (kd : Int) (H6 : Hp), SameX pen H4 H6 → H6 pen = some (.lst [.ref sp, .int kd]) → kc ≤ kd → kd ≤ kc + 21 → Dn H6 (.tuple [.str ("most" : Str), .int top, .tuple ps]) v → (ps.all zfy = true ∧ ps.all (zbn 1) = true ∧ zbf (m : Int) (ps.map zpy) (-1) = true ∧ ps.length ≤ m ∧ 0 < ps.length) → H6 cl = some (.lst zs) → D.nx [some (.ref pen), some (.int (m : Int)), some (.int ac), some (.ref cl), v4, some (.int one), v6, v7, w8, w9, ae, aj] (L2.upd H6 cl (.lst (zs ++ [v])))) →
   t D [some (.ref pen), some (.int (m : Int)), some (.int ac), some (.ref cl), v4, some (.int one), v6, v7, v8, v9, ai, ah] H4 := by
  refine ⟨_, (zae (zao (i := 8) sc_law_cross.nd rfl (Or.inr rfl) (zat (ixL (K := K)) (za8 (zaa zad (zaa (zax zo1 zad zad) zab))) (zag aa hr.lv rfl T.K_law_take (zaa (pv 0) (zaa zad zab))) (fun _ _ => rfl)))
   (zae (zf6 (i := 9) sc_law_cross.nd rfl rfl rfl (N' := ["_law_c", "_law_state", "_law_far"]) (n := 1) (kp := [0, 8]) rfl (zcs rfl T.m_range (zaa (pv 1) zab)) rfl rfl rfl (fun _ _ _ _ _ => (zaw (i := 0) (of_decide_eq_true rfl) rfl (Or.inl rfl))) (fun _ _ _ _ _ => (zcl (zan ziq (zag aa hr.lv rfl T.K_law_take (zaa (pv 1) (zaa zad zab))) zad (zaq _)))) (fun _ _ _ _ _ => (zbb (zaa (pv 0) (zaa (zax zfz (zag aa hr.lv rfl T.K_law_take (zaa (pv 1) (zaa (zax zet zad (pv 2)) zab))) (zax zqo (pv 2) zad)) zab)))))
   (zae (za4 (zan (zr2 hr.units) (pv 9) (za8 zab) (zaq _)) (zai (zao (i := 9) sc_law_cross.nd rfl (Or.inl rfl) (za8 (zaa (zbb (zaa (pv 5) (zaa (pv 8) zab))) zab)))) za0)
   hC))), ?_⟩
  intro D cl one kc zs v4 v6 v7 v8 v9 ai ah H4 am bT bX o0 o1 ap bc af nx
  refine ⟨_, _, rfl, rfl, ⟨by decide, by decide, by decide⟩, zar (by show 2 ≤ 1000; decide), fun aP bj => ?_⟩
  have sf := zaf bj (.lst [.int 4, .int (10 ^ (57 : Int).toNat)])
  have xf := Same.x (pen := pen) sf
  have bF : aP ≠ pen := Ne.symm (zam am.at_ bj)
  refine ⟨_, rfl, pen, sp, ns, 2, kc, rfl, am.to xf (sf _ _ am.at_), by omega, by omega, by decide, fun y y0 y1 => ?_⟩
  have xg := xf.trans (za1 (pen := pen) (.lst [.ref sp, .int (kc + 1)]))
  obtain ⟨ad, bb, f0⟩ : ∃ ad : Int, atI [V.int 4, V.int (10 ^ (57 : Int).toNat)] y = some (.int ad) ∧ 0 < ad := by
   have e : y = 0 ∨ y = 1 := by omega
   rcases e with e | e <;> rw [e]
   ·exact ⟨_, rfl, by decide⟩
   ·exact ⟨_, rfl, by decide +kernel⟩
  refine ⟨aP, _, _, _, rfl, rfl, SqL.of (by rw [zak bF]; exact zac), bb, ?_⟩
  have aU : L2.upd (L2.upd H4 aP (.lst [.int 4, .int (10 ^ (57 : Int).toNat)])) pen (.lst [.ref sp, .int (kc + 1)]) pen = some (.lst [.ref sp, .int (kc + 1)]) := zac
  generalize L2.upd (L2.upd H4 aP (.lst [.int 4, .int (10 ^ (57 : Int).toNat)])) pen (.lst [.ref sp, .int (kc + 1)]) = H5 at xg aU ⊢
  generalize bV : kc + 1 = kd at *
  have ay := am.to xg aU
  refine ⟨_, rfl, _, rfl, by rw [aN]; omega, by rw [aN]; omega, ?_⟩
  rw [Int.toNat_natCast]
  refine zh9 (k := m) (fun j ys σ H6 => (∃ v, σ = [v, some (.ref pen), some (.int ad)]) ∧ SameX pen H5 H6 ∧ j ≤ m ∧ ∃ (kq : Int) (ps : List PyData), H6 pen = some (.lst [.ref sp, .int kq]) ∧ kd ≤ kq ∧ kq ≤ kd + 2 * j ∧ zje H6 j ps ys) ⟨⟨none, rfl⟩, SameX.refl _ _, Nat.zero_le _, kd, [], aU, Int.le_refl _, by omega, ⟨rfl, rfl, rfl, rfl, Nat.le_refl _⟩⟩ (fun j ys σ H6 hj pv => ?_) (fun j ys σ H6 hj pv => ?_) (fun ys σ H6 pv pl au => ?_)
  ·obtain ⟨_, _, jm, kq, ps, _, _, _, pt⟩ := pv
   have := pt.few
   have := pt.dn.length
   exact zar (by omega)
  ·obtain ⟨⟨v, rfl⟩, aq, jm, kq, ps, ak, bv, bA, pt⟩ := pv
   have few := pt.few
   have bp := ay.to aq ak
   refine ⟨_, rfl, pen, sp, ns, 3, kq, rfl, bp, by omega, by omega, by decide, fun b b0 b1 => ?_⟩
   have xh := aq.trans (za1 (pen := pen) (.lst [.ref sp, .int (kq + 1)]))
   have d7 := DnL.pen (ys := [.ref sp, .int (kq + 1)]) ak pt.flat pt.dn
   have ao : L2.upd H6 pen (.lst [.ref sp, .int (kq + 1)]) pen = some (.lst [.ref sp, .int (kq + 1)]) := zac
   generalize L2.upd H6 pen (.lst [.ref sp, .int (kq + 1)]) = H7 at xh d7 ao ⊢
   refine ⟨_, _, rfl, rfl, _, rfl, ?_⟩
   refine zci (fun c => ?_) (fun c => ?_)
   ·refine ⟨_, rfl, _, rfl, _, rfl, _, _, rfl, rfl, .inl ⟨by decide, by decide⟩, pen, sp, ns, _, kq + 1, rfl, ay.to xh ao, by omega, by omega, by omega, fun e e0 e1 => ?_⟩
    have xi := xh.trans (za1 (pen := pen) (.lst [.ref sp, .int (kq + 1 + 1)]))
    have d8 := DnL.pen (ys := [.ref sp, .int (kq + 1 + 1)]) ao pt.flat d7
    have bi : L2.upd H7 pen (.lst [.ref sp, .int (kq + 1 + 1)]) pen = some (.lst [.ref sp, .int (kq + 1 + 1)]) := zac
    generalize L2.upd H7 pen (.lst [.ref sp, .int (kq + 1 + 1)]) = H8 at xi d8 bi ⊢
    refine ⟨_, rfl, _, _, rfl, rfl, ⟨by decide, by decide⟩, _, _, rfl, rfl, zar (by show 2 ≤ 1000; decide), fun tp aI => ?_⟩
    have s9 := zaf aI (.tup [.int (j : Int), .int (e - ad / 2)])
    refine ⟨⟨_, rfl⟩, xi.trans (Same.x s9), hj, kq + 1 + 1, ps ++ [.tuple [.int (j : Int), .int (e - ad / 2)]], s9 _ _ bi, by omega, by push_cast; omega, ⟨?_, ?_, ?_, ?_, ?_⟩⟩
    ·exact (DnL.same s9 _ _ d8).append ⟨_, [], rfl, ⟨tp, _, rfl, zac, _, _, rfl, rfl, _, _, rfl, rfl, rfl⟩, rfl⟩
    ·rw [List.all_append, pt.ok]
     rfl
    ·rw [List.all_append, pt.flat]
     rfl
    ·rw [List.map_append]
     show zbf ((j + 1 : Nat) : Int) (ps.map zpy ++ [.int (j : Int)]) (-1) = true
     exact zgj (by omega) pt.ris (by omega)
    ·rw [List.length_append, List.length_singleton]
     omega
   ·exact ⟨⟨_, rfl⟩, xh, hj, kq + 1, ps, ao, by omega, by push_cast; omega, ⟨d7, pt.ok, pt.flat, zek (by omega) pt.ris, by omega⟩⟩
  obtain ⟨_, aq, _, kq, ps, ak, bv, bA, pt⟩ := pv
  have few := pt.few
  have bI := pt.dn.length
  have s7 := zaf au (.lst ys)
  have x7 := xg.trans (aq.trans (Same.x s7))
  have ao := s7 _ _ ak
  have d7 := DnL.same s7 _ _ pt.dn
  have ag : L2.upd H6 pl (.lst ys) pl = some (.lst ys) := zac
  have aM : pl ≠ pen := Ne.symm (zam ak au)
  generalize L2.upd H6 pl (.lst ys) = H7 at s7 x7 ao d7 ag ⊢
  refine ⟨_, rfl, zar (by decide), fun nl bu => ?_⟩
  have s8 := zaf bu (.lst [])
  refine ⟨pl, nl, ys, rfl, rfl, s8 _ _ ag, zac, _, rfl, ?_⟩
  by_cases ye : ys = []
  ·refine zfr ye ?_
   refine ⟨_, rfl, _, rfl, zar (by show 2 ≤ 1000; decide), fun tp aI => ?_⟩
   have s9 := zaf aI (.tup [.int one, .int ad])
   refine ⟨zar (by show 1 ≤ 1000; decide), fun bK aB => ?_⟩
   have bh := zaf aB (.lst [.ref tp])
   have sA := (s8.trans s9).trans bh
   have xA := x7.trans (Same.x (pen := pen) sA)
   have aE : zje _ m [.tuple [.int one, .int ad]] [.ref tp] := ⟨⟨_, [], rfl, ⟨tp, _, rfl, bh _ _ zac, _, _, rfl, rfl, _, _, rfl, rfl, rfl⟩, rfl⟩, rfl, rfl, by
    show (decide ((-1 : Int) + 1 ≤ one) && decide (one ≤ (m : Int) - 1) && true) = true
    rw [decide_eq_true (by omega), decide_eq_true (by omega)]
    rfl, by show 1 ≤ m; omega⟩
   refine rC _ cl bK ad kq _ _ zs _ _ _ _ _ _ _ (am.to xA (sA _ _ ao)) (by omega) (by omega) zac aE (by show 0 < 1; decide) (xA _ _ af ap) (by omega) af (Ne.symm (zam ((s8.trans s9) _ _ ao) aB)) (fun v top ae H9 x9 av dv aT => ?_)
   exact nx v top _ _ _ _ _ (kq + 1 + 1) H9 (xA.trans x9) av (by omega) (by omega) dv ⟨rfl, rfl, aE.ris, aE.few, by show 0 < 1; decide⟩ aT
  ·refine zbs ye ?_
   have xA := x7.trans (Same.x (pen := pen) s8)
   have p0 : 0 < ps.length := by
    rw [bI]
    exact List.length_pos_iff.mpr ye
   have aE : zje _ m ps ys := ⟨DnL.same s8 _ _ d7, pt.ok, pt.flat, pt.ris, pt.few⟩
   refine rC _ cl pl ad kq _ _ zs _ _ _ _ _ _ _ (am.to xA (s8 _ _ ao)) (by omega) (by omega) (s8 _ _ ag) aE p0 (xA _ _ af ap) (by omega) af aM (fun v top ae H9 x9 av dv aT => ?_)
   exact nx v top _ _ _ _ _ (kq + 1 + 1) H9 (xA.trans x9) av (by omega) (by omega) dv ⟨pt.ok, pt.flat, pt.ris, pt.few, p0⟩ aT
 obtain ⟨tE, hE, rE⟩ := aD
 refine ⟨_, (zae (zao (i := 3) sc_law_cross.nd rfl (Or.inl rfl) (za8 zab))
   (zae (zch PassesOwn.never rfl (zcs rfl T.m_range (zaa (zag aa hr.lv rfl T.K_law_take (zaa (pv 0) (zaa (zax zbx (pv 2) zad) zab))) zab)) (zaw (i := 4) sc_law_cross.nd rfl (Or.inl rfl)) (zae (zao (i := 5) sc_law_cross.nd rfl (Or.inl rfl) (zag aa hr.lv rfl T.K_law_take (zaa (pv 0) (zaa (pv 1) zab))))
   (zae (zao (i := 6) sc_law_cross.nd rfl (Or.inl rfl) (zax zf8 (zax zbx (zax zbx (pv 5) zad) (zag aa hr.lv rfl T.K_law_take (zaa (pv 0) (zaa (zaz (zia rfl) rfl T.m_max PyProof.Rows.boot_max (zaa zad (zaa (zax zfz (pv 1) zad) zab))) zab)))) (pv 1)))
   (zae (zao (i := 7) sc_law_cross.nd rfl (Or.inl rfl) (zag aa hr.lv rfl T.K_law_take (zaa (pv 0) (zaa zad zab))))
   (zai (za4 (PW.pt (zgc (zan zki (pv 7) zad (zaq _)) (zfg (zan ziq (pv 1) zad (zaq _))))) (zai (zca (zeu (K := K) PySem.F.plainAttrs_list PySem.F.slot_list_append PySem.F.type_list_append zcr (pv 3) (zaa (zbb (zaa (zat (ixL (K := K)) (za8 (zaa zbe (zaa zbe zab))) (pv 7) (fun _ _ => rfl)) (zaa (pv 5) (zaa (pv 6) zab)))) zab)))) hE))))))
   (zai (zap (pv 3))))), ?_⟩
 refine ⟨zar (by decide), fun cl aw => ?_⟩
 have af : cl ≠ pen := Ne.symm (zam pn.at_ aw)
 have s1 := zaf aw (.lst [])
 have bf := pn.to (Same.x s1) (s1 _ _ pn.at_)
 have aC : L2.upd H cl (.lst []) cl = some (.lst []) := zac
 have x1 : SameX pen H _ := Same.x (pen := pen) s1
 generalize L2.upd H cl (.lst []) = H1 at s1 bf aC x1 ⊢
 refine ⟨_, rfl, _, rfl, _, _, rfl, rfl, pen, sp, ns, _, k, rfl, bf, by omega, by omega, by omega, fun n n0 n1 => ?_⟩
 have x2 := x1.trans (za1 (pen := pen) (.lst [.ref sp, .int (k + 1)]))
 have ax : L2.upd H1 pen (.lst [.ref sp, .int (k + 1)]) cl = some (.lst []) := by rw [zak af]; exact aC
 have be : L2.upd H1 pen (.lst [.ref sp, .int (k + 1)]) pen = some (.lst [.ref sp, .int (k + 1)]) := zac
 generalize L2.upd H1 pen (.lst [.ref sp, .int (k + 1)]) = H2 at x2 ax be ⊢
 refine ⟨_, rfl, by rw [aN]; omega, by rw [aN]; omega, ?_⟩
 refine zd9 (n := n.toNat) (fun i σ H3 => ∃ (v4 v5 v6 v7 v8 v9 ai ah : Option V) (kc : Int) (cs : List PyData) (zs : List V), σ = [some (.ref pen), some (.int (m : Int)), some (.int ac), some (.ref cl), v4, v5, v6, v7, v8, v9, ai, ah] ∧ SameX pen H H3 ∧ H3 pen = some (.lst [.ref sp, .int kc]) ∧ k ≤ kc ∧ kc ≤ k + 1 + 26 * i ∧ H3 cl = some (.lst zs) ∧ DnL H3 cs zs ∧ cs.length = i ∧ (∀ c ∈ cs, ziv m c = true) ∧ cs.all (zbn 3) = true)
  ⟨_, _, _, _, _, _, _, _, k + 1, [], [], rfl, x2, be, by omega, by omega, ax, rfl, rfl, (fun _ z => nomatch z), rfl⟩ ?_ ?_
 ·rintro i σ H3 hi ⟨v4, v5, v6, v7, v8, v9, ai, ah, kc, cs, zs, rfl, sx, aR, bJ, bO, aW, dn, ln, aX, fl⟩
  have i8 : i ≤ 8 := by omega
  have lz := dn.length
  have aO := pn.to sx aR
  have aK : ∀ (dd : PyData) (v : V) (kd : Int) (H6 : Hp) (w4 w5 w6 w7 w8 w9 ae aj : Option V), SameX pen H3 H6 → H6 pen = some (.lst [.ref sp, .int kd]) → kc ≤ kd → kd ≤ kc + 26 → H6 cl = some (.lst zs) → Dn H6 dd v → ziv m dd = true → zbn 3 dd = true →
    (∃ (v4 v5 v6 v7 v8 v9 ai ah : Option V) (kc : Int) (cs : List PyData) (zs' : List V), [some (.ref pen), some (.int (m : Int)), some (.int ac), some (.ref cl), w4, w5, w6, w7, w8, w9, ae, aj] = [some (.ref pen), some (.int (m : Int)), some (.int ac), some (.ref cl), v4, v5, v6, v7, v8, v9, ai, ah] ∧ SameX pen H (L2.upd H6 cl (.lst (zs ++ [v]))) ∧ (L2.upd H6 cl (.lst (zs ++ [v]))) pen = some (.lst [.ref sp, .int kc]) ∧ k ≤ kc ∧ kc ≤ k + 1 + 26 * ((i + 1 : Nat) : Int) ∧ (L2.upd H6 cl (.lst (zs ++ [v]))) cl = some (.lst zs') ∧ DnL (L2.upd H6 cl (.lst (zs ++ [v]))) cs zs' ∧ cs.length = i + 1 ∧ (∀ c ∈ cs, ziv m c = true) ∧ cs.all (zbn 3) = true) := by
   intro dd v kd H6 w4 w5 w6 w7 w8 w9 ae aj aq ak bd bg aG dv ti fd
   refine ⟨_, _, _, _, _, _, _, _, kd, cs ++ [dd], zs ++ [v], rfl, SameX.put (sx.trans aq) aw af aG, ?_, by omega, by push_cast; omega, zac, ?_, ?_, fun c bz => ?_, ?_⟩
   ·rw [zak (Ne.symm af)]
    exact ak
   ·exact (DnL.pen aG fl (DnL.tupS (SameX.tup aR aq) fl dn)).append ⟨v, [], rfl, Dn.pen aG fd dv, rfl⟩
   ·rw [List.length_append, List.length_singleton, ln]
   ·rcases List.mem_append.mp bz with z | z
    ·exact aX c z
    ·rw [List.mem_singleton.mp z]
     exact ti
   ·rw [List.all_append, fl]
    simp [fd]
  refine ⟨_, rfl, _, rfl, pen, sp, ns, m, kc, rfl, aO, by omega, by omega, by omega, fun one o0 o1 => ?_⟩
  have xa := za1 (pen := pen) (H := H3) (.lst [.ref sp, .int (kc + 1)])
  refine ⟨_, rfl, _, _, rfl, rfl, _, rfl, _, rfl, _, _, rfl, rfl, _, _, rfl, pen, sp, ns, _, kc + 1, rfl, aO.to xa zac, by omega, by omega, (by split <;> omega), fun x x0 x1 => ?_⟩
  have xb := xa.trans (za1 (pen := pen) (.lst [.ref sp, .int (kc + 1 + 1)]))
  refine ⟨_, _, rfl, rfl, _, rfl, _, _, rfl, rfl, (by show (0 : Int) < m; omega), ?_⟩
  refine ⟨_, rfl, pen, sp, ns, 4, kc + 1 + 1, rfl, aO.to xb zac, by omega, by omega, by decide, fun ar w0 w1 => ?_⟩
  have xc := xb.trans (za1 (pen := pen) (.lst [.ref sp, .int (kc + 1 + 1 + 1)]))
  have aZ : L2.upd (L2.upd (L2.upd H3 pen (.lst [.ref sp, .int (kc + 1)])) pen (.lst [.ref sp, .int (kc + 1 + 1)])) pen (.lst [.ref sp, .int (kc + 1 + 1 + 1)]) pen = some (.lst [.ref sp, .int (kc + 1 + 1 + 1)]) := zac
  generalize L2.upd (L2.upd (L2.upd H3 pen (.lst [.ref sp, .int (kc + 1)])) pen (.lst [.ref sp, .int (kc + 1 + 1)])) pen (.lst [.ref sp, .int (kc + 1 + 1 + 1)]) = H4 at xc aZ ⊢
  have ap := xc _ _ af aW
  have am := aO.to xc aZ
  refine ⟨_, rfl, _, _, rfl, rfl, _, rfl, ?_⟩
  have ba : (ar < 2 ∧ (1 : Int) < m) ∨ ¬ (ar < 2 ∧ (1 : Int) < m) := Decidable.em _
  rcases ba with ⟨c', bo⟩ | nb
  ·refine zkj (decide_eq_true c') ?_
   refine ⟨_, rfl, _, _, rfl, rfl, _, rfl, ?_⟩
   refine zkj (decide_eq_true bo) ?_
   refine ⟨_, rfl, .inl ⟨rfl, _, SqL.of ap⟩, zar (by show 2 ≤ 1000; decide), fun lp bw => ?_⟩
   have sn := zaf bw (.lst [.str ("needs" : Str), .str ("bans" : Str)])
   obtain ⟨sN, sk, bG, bH, bb⟩ : ∃ sN : Str, (sN = ("needs" : Str) ∨ sN = ("bans" : Str)) ∧ ¬ sN = ("most" : Str) ∧ PyData.strOk sN = true ∧ atI ([.str ("needs" : Str), .str ("bans" : Str)] : List V) ar = some (.str sN) := by
    have e : ar = 0 ∨ ar = 1 := by omega
    rcases e with e | e <;> rw [e]
    ·exact ⟨_, .inl rfl, by decide +kernel, znq, rfl⟩
    ·exact ⟨_, .inr rfl, by decide +kernel, zo2, rfl⟩
   refine ⟨_, rfl, lp, _, _, _, rfl, rfl, SqL.of zac, bb, _, rfl, _, rfl, zar (by show 3 ≤ 1000; decide), fun tp aI => ?_⟩
   have x2 : x < (m : Int) - 1 := by revert x1; split <;> omega
   obtain ⟨bN, bS, bt⟩ := zt1 (many := m) bo (by omega) o0 o1 x0 x2
   have st := zaf aI (.tup [.str sN, .int one, .int ((one + 1 + x) % (m : Int))])
   have aQ := sn.trans st
   refine ⟨cl, _, _, rfl, rfl, aQ _ _ ap, zbd (by omega), ?_⟩
   refine aK (.tuple [.str sN, .int one, .int ((one + 1 + x) % (m : Int))]) _ (kc + 1 + 1 + 1) _ _ _ _ _ _ _ _ _ (xc.trans (Same.x aQ)) (aQ _ _ aZ) (by omega) (by omega) (aQ _ _ ap) ⟨tp, _, rfl, zac, _, _, rfl, rfl, _, _, rfl, rfl, _, _, rfl, rfl, rfl⟩ ?_ ?_
   ·show zrb m sN _ _ = true
    unfold zrb
    rw [if_neg bG, if_pos sk]
    show ((decide ((0 : Int) ≤ _) && decide (_ ≤ (m : Int) - 1)) && ((decide ((0 : Int) ≤ _) && decide (_ ≤ (m : Int) - 1)) && !decide (_ = _))) = true
    rw [decide_eq_true o0, decide_eq_true (by omega), decide_eq_true bN, decide_eq_true (by omega), decide_eq_false bt]
    rfl
   ·show (true && (zbn 2 (.str sN) && (true && (true && true)))) = true
    rw [show zbn 2 (.str sN) = true from bH]
    rfl
  ·have mk : ∀ (v : V) (top : Int) (ps : List PyData) (w6 w8 w9 ae aj : Option V) (kd : Int) (H6 : Hp), SameX pen H4 H6 → H6 pen = some (.lst [.ref sp, .int kd]) → kc + 1 + 1 + 1 ≤ kd → kd ≤ kc + 1 + 1 + 1 + 21 → Dn H6 (.tuple [.str ("most" : Str), .int top, .tuple ps]) v → (ps.all zfy = true ∧ ps.all (zbn 1) = true ∧ zbf (m : Int) (ps.map zpy) (-1) = true ∧ ps.length ≤ m ∧ 0 < ps.length) → H6 cl = some (.lst zs) → _ := fun v top ps w6 w8 w9 ae aj kd H6 x6 ak bd bg dv pp aG => aK (.tuple [.str ("most" : Str), .int top, .tuple ps]) v kd H6 (some (.int (i : Int))) (some (.int one)) w6 (some (.int ar)) w8 w9 ae aj (xc.trans x6) ak (by omega) (by omega) aG dv (by
     obtain ⟨bP, _, bB, _, p0⟩ := pp
     show zrb m ("most" : Str) (.int top) (.tuple ps) = true
     unfold zrb
     rw [if_pos rfl]
     show (true && (decide (0 < ps.length) && ps.all zfy && zbf m (ps.map zpy) (-1))) = true
     rw [decide_eq_true p0, bP, bB]
     rfl) (by
     obtain ⟨_, bM, _, bR, _⟩ := pp
     have f2 : zbn 2 (.tuple ps) = true := by
      show (decide (ps.length ≤ 1000) && ps.all (zbn 1)) = true
      rw [decide_eq_true (by omega), bM]
      rfl
     show (true && (zbn 2 (.str ("most" : Str)) && (zbn 2 (.int top) && (zbn 2 (.tuple ps) && true)))) = true
     rw [show zbn 2 (.str ("most" : Str)) = true from zo4, f2]
     rfl)
   by_cases c : ar < 2
   ·refine zkj (decide_eq_true c) ?_
    refine ⟨_, rfl, _, _, rfl, rfl, _, rfl, ?_⟩
    refine zvv (decide_eq_false fun z => nb ⟨c, z⟩) ?_
    exact rE _ cl one (kc + 1 + 1 + 1) zs _ _ _ _ _ _ _ H4 am (by omega) (by omega) o0 o1 ap (by omega) af fun v top ps w8 w9 ae aj => mk v top ps _ w8 w9 ae aj
   ·refine zvv (decide_eq_false c) ?_
    refine zd1 ?_
    exact rE _ cl one (kc + 1 + 1 + 1) zs _ _ _ _ _ _ _ H4 am (by omega) (by omega) o0 o1 ap (by omega) af fun v top ps w8 w9 ae aj => mk v top ps _ w8 w9 ae aj
 ·rintro σ H3 ⟨v4, v5, v6, v7, v8, v9, ai, ah, kc, cs, zs, rfl, sx, aR, bJ, bO, aW, dn, ln, aX, fl⟩
  exact ⟨_, rfl, q cl cs zs kc H3 sx aR (by omega) (by omega) aW aw dn aX (by omega) fl⟩
theorem zn2 (T : Txt K mg a d) : FnOk P w K mg base CX0 3 a.f_law_wood d.f_law_wood ["_law_state", "_law_most"] (zug K) := by
 have aa := zdi (P := P) (w := w) (base := base) T
 have ac := zlg (P := P) (w := w) (base := base) T
 have ad := zmj (P := P) (w := w) (base := base) T
 refine T.K_law_wood.ok sc_law_wood (fun vs H Q E h => ?_) (fun cdv A outer s H vs Q E hr h => ?_)
 ·obtain ⟨pen, sp, ns, ae, k, rfl, _⟩ := h
  rfl
 obtain ⟨pen, sp, ns, ae, k, rfl, pn, k0, k1, aC, aB, q⟩ := h
 obtain ⟨am, av, ax⟩ := zxv (X := (zb3 CX0 P w K mg base ["_law_state", "_law_most", "_law_many"] "_law_wood" (zah zd2) a.f_law_wood cdv A outer s H E).nox) (st := (za2 zd2).drop 2) (zai (zap (zbb (zaa (pv 2) (zaa (zbv zc9 rfl T.m_tuple PyProof.Rows.boot_tuple (zaa (zag ac hr.lv rfl T.K_law_boughs (zaa (pv 0) (zaa (pv 2) zab))) zab)) (zaa (zbv zc9 rfl T.m_tuple PyProof.Rows.boot_tuple (zaa (zag ad hr.lv rfl T.K_law_cross (zaa (pv 0) (zaa (pv 2) (zaa (pv 1) zab)))) zab)) zab))))))
 have tail : ∀ (m : Nat) (k1 : Int) (H1 : Hp), SameX pen H H1 → H1 pen = some (.lst [.ref sp, .int k1]) → k ≤ k1 → k1 ≤ k + 3 → 1 ≤ m → m ≤ 9 → am { nx := fun _ H' => Q .non H', rt := Q } [some (.ref pen), some (.int ae), some (.int (m : Int))] H1 := by
  intro m k1 H1 al aD aJ aF m1 m9
  refine ax _ _ _ ?_
  refine ⟨_, rfl, _, rfl, _, rfl, pen, sp, ns, m, k1, rfl, pn.to al aD, by omega, by omega, m1, m9, fun l bs xs k2 H2 aw aq aG aI ao nl dn gb b8 fb => ?_⟩
  have lx := dn.length
  refine ⟨l, _, rfl, .inl ⟨SqL.of ao, fun t1 aA => ?_⟩⟩
  have s3 := zaf aA (.tup xs)
  have af : L2.upd H2 t1 (.tup xs) t1 = some (.tup xs) := zac
  have ai := s3 _ _ aq
  have aj := (al.trans aw).trans (Same.x (pen := pen) s3)
  have d3 := DnL.same s3 _ _ dn
  generalize L2.upd H2 t1 (.tup xs) = H3 at s3 af ai aj d3 ⊢
  refine ⟨_, rfl, _, rfl, _, rfl, pen, sp, ns, m, ae, k2, rfl, pn.to aj ai, by omega, by omega, m1, m9, aC, aB, fun cl cs zs k4 H4 ak ar aH aE az nc dc ap lc fc => ?_⟩
  refine ⟨cl, _, rfl, .inl ⟨SqL.of az, fun t2 au => ?_⟩⟩
  have s5 := zaf au (.tup zs)
  refine ⟨zar (by show 3 ≤ 1000; decide), fun wd ay => ?_⟩
  have s6 := zaf ay (.tup [.int (m : Int), .ref t1, .ref t2])
  have ag := s5.trans s6
  have tS := SameX.tup ai ak
  refine q wd m bs cs k4 _ ((aj.trans ak).trans (Same.x ag)) (ag _ _ ar) (by omega) (by omega) m1 m9 ⟨⟨xs, zs, ⟨t1, t2, zac, ag _ _ (tS _ _ af), s6 _ _ zac⟩, DnL.same ag _ _ (DnL.tupS tS fb d3), DnL.same ag _ _ dc⟩, gb, ap, by omega, by omega, fb, fc, m1, m9⟩ lc
 have ah : ∀ (H1 : Hp) (k1 : Int), SameX pen H H1 → SameX pen H (L2.upd H1 pen (.lst [.ref sp, .int (k1 + 1)])) := fun H1 k1 sx => sx.trans (za1 (pen := pen) (.lst [.ref sp, .int (k1 + 1)]))
 refine ⟨_, (zae (zao (i := 2) sc_law_wood.nd rfl (Or.inl rfl) (zax zbx zad (zag aa hr.lv rfl T.K_law_take (zaa (pv 0) (zaa zad zab)))))
   (zae (za4 (zan zbq (zag aa hr.lv rfl T.K_law_take (zaa (pv 0) (zaa zad zab))) zad (zaq _)) (zai (zao (i := 2) sc_law_wood.nd rfl (Or.inl rfl) (zax zbx zad (zag aa hr.lv rfl T.K_law_take (zaa (pv 0) (zaa zad zab)))))) za0)
   av)), ?_⟩
 refine ⟨_, rfl, pen, sp, ns, 6, k, rfl, pn, k0, by omega, by decide, fun c c0 c1 => ?_⟩
 refine ⟨_, _, rfl, rfl, ?_⟩
 have x1 := ah H k (SameX.refl pen H)
 have h1 : L2.upd H pen (.lst [.ref sp, .int (k + 1)]) pen = some (.lst [.ref sp, .int (k + 1)]) := zac
 generalize L2.upd H pen (.lst [.ref sp, .int (k + 1)]) = H1 at x1 h1 ⊢
 refine ⟨_, rfl, pen, sp, ns, 8, k + 1, rfl, pn.to x1 h1, by omega, by omega, by decide, fun e e0 e1 => ?_⟩
 have x2 := ah H1 (k + 1) x1
 have h2 : L2.upd H1 pen (.lst [.ref sp, .int (k + 1 + 1)]) pen = some (.lst [.ref sp, .int (k + 1 + 1)]) := zac
 generalize L2.upd H1 pen (.lst [.ref sp, .int (k + 1 + 1)]) = H2 at x2 h2 ⊢
 refine ⟨rfl, _, rfl, ?_⟩
 refine zci (fun _ => ?_) (fun _ => ?_)
 ·refine ⟨_, rfl, pen, sp, ns, 3, k + 1 + 1, rfl, pn.to x2 h2, by omega, by omega, by decide, fun g g0 g1 => ?_⟩
  refine ⟨_, _, rfl, rfl, ?_⟩
  have x3 := ah H2 (k + 1 + 1) x2
  have h3 : L2.upd H2 pen (.lst [.ref sp, .int (k + 1 + 1 + 1)]) pen = some (.lst [.ref sp, .int (k + 1 + 1 + 1)]) := zac
  have t := tail (7 + g).toNat _ _ x3 h3 (by omega) (by omega) (by omega) (by omega)
  rw [show (((7 + g).toNat : Nat) : Int) = 7 + g by omega] at t
  exact t
 ·have t := tail (1 + c).toNat _ _ x2 h2 (by omega) (by omega) (by omega) (by omega)
  rw [show (((1 + c).toNat : Nat) : Int) = 1 + c by omega] at t
  exact t
theorem zmx (T : Txt K mg a d) : FnOk P w K mg base CX0 1 a.f_law_keeps d.f_law_keeps ["_law_tie", "_law_some"] zup := by
 refine T.K_law_keeps.ok sc_law_keeps (fun vs H Q E h => ?_) (fun cdv A outer s H vs Q E hr h => ?_)
 ·obtain ⟨t, m, n, v, rfl, _⟩ := h
  rfl
 obtain ⟨t, m, n, v, rfl, hd, ok, hm, q⟩ := h
 have q0 := q H (Same.refl H)
 refine ⟨_, (zae (za4 (zan zbq (zat (ixT (K := K)) (pv 0) zad (fun _ _ => rfl)) zbe (zaq _)) (zai (zap (zbc zl9 (zax zd3 (zax zf0 (pv 1) (zat (ixT (K := K)) (pv 0) zad (fun _ _ => rfl))) zad) (zax zd3 (zax zf0 (pv 1) (zat (ixT (K := K)) (pv 0) zad (fun _ _ => rfl))) zad) (zaq _)))) za0)
   (zae (za4 (zan zbq (zat (ixT (K := K)) (pv 0) zad (fun _ _ => rfl)) zbe (zaq _)) (zai (zap (zbc zbq (zax zd3 (zax zd3 (zax zf0 (pv 1) (zat (ixT (K := K)) (pv 0) zad (fun _ _ => rfl))) (zax zf0 (pv 1) (zat (ixT (K := K)) (pv 0) zad (fun _ _ => rfl)))) zad) zad (zaq _)))) za0)
   (zae (za4 (zan zbq (zat (ixT (K := K)) (pv 0) zad (fun _ _ => rfl)) zbe (zaq _)) (zai (zap (zbc zl9 (zaz (zev rfl) rfl T.m_sum PyProof.Rows.boot_sum (zaa (zeo (N' := ["_law_c", "_law_number", "_law_some"]) (n := 2) (kp := [1]) rfl (piT (K := K) (zat (ixT (K := K)) (pv 0) zad (fun _ _ => rfl))) rfl rfl rfl (fun _ _ _ _ _ => (pgT (K := K) (n := 2) rfl (za3 (zaw (i := 0) (of_decide_eq_true rfl) rfl (Or.inl rfl)) (za3 (zaw (i := 1) (of_decide_eq_true rfl) rfl (Or.inl rfl)) zce)))) (fun _ _ _ _ _ => (zcl (zan zbq (zax zd3 (zax zf0 (pv 2) (pv 0)) zad) zad (zaq _)))) (fun _ _ _ _ _ => (pv 1))) zab)) (zat (ixT (K := K)) (pv 0) zad (fun _ _ => rfl)) (zaq _)))) za0)
   (zae (zh8 (pv 0) (pgT (K := K) (n := 4) rfl (za3 (zaw (i := 2) sc_law_keeps.nd rfl (Or.inl rfl)) (za3 (zaw (i := 3) sc_law_keeps.nd rfl (Or.inl rfl)) (za3 (zaw (i := 4) sc_law_keeps.nd rfl (Or.inl rfl)) (za3 (zaw (i := 5) sc_law_keeps.nd rfl (Or.inl rfl)) zce))))))
   (zae (zao (i := 6) sc_law_keeps.nd rfl (Or.inl rfl) (zaz (zdw (K := K)) rfl T.m_len PySem.boot_len (zaa (zeo (N' := ["_law_k", "_law_some"]) (n := 1) (kp := [1]) rfl (piT (K := K) (pv 5)) rfl rfl rfl (fun _ _ _ _ _ => (zaw (i := 0) (of_decide_eq_true rfl) rfl (Or.inl rfl))) (fun _ _ _ _ _ => (zcl (zan zbq (zax zd3 (zax zf0 (pv 1) (pv 0)) zad) zad (zaq _)))) (fun _ _ _ _ _ => (pv 0))) zab)))
   (zae (za4 (zan zbq (zax zd3 (zax zf0 (pv 1) (pv 2)) zad) zad (zaq _)) (zai (zap (zsl zl9 zl9 (pv 3) (pv 6) (pv 4)))) za0)
   (zai (zap (zbc zbq (pv 6) zad (zaq _)))))))))), ?_⟩
 cases t with
 | needs x y =>
  obtain ⟨p, rfl, hp⟩ := zjc hd
  refine ⟨_, rfl, p, _, _, _, rfl, rfl, sqT hp, at0, rfl, _, rfl, ?_⟩
  refine zfr rfl ?_
  refine ⟨_, rfl, _, rfl, p, _, _, _, rfl, rfl, sqT hp, at1, _, _, rfl, rfl, by omega, _, _, rfl, rfl, _, rfl, _, rfl, p, _, _, _, rfl, rfl, sqT hp, at2, _, _, rfl, rfl, by omega, _, _, rfl, rfl, _, _, rfl, rfl, ?_⟩
  dsimp only
  rw [zna, zna, zut]
  exact q0
 | bans x y =>
  obtain ⟨p, rfl, hp⟩ := zjc hd
  refine ⟨_, rfl, p, _, _, _, rfl, rfl, sqT hp, at0, rfl, _, rfl, ?_⟩
  refine zbs zjq ?_
  refine ⟨_, rfl, p, _, _, _, rfl, rfl, sqT hp, at0, rfl, _, rfl, ?_⟩
  refine zfr rfl ?_
  refine ⟨_, rfl, _, rfl, p, _, _, _, rfl, rfl, sqT hp, at1, _, _, rfl, rfl, by omega, _, rfl, _, rfl, p, _, _, _, rfl, rfl, sqT hp, at2, _, _, rfl, rfl, by omega, _, _, rfl, rfl, _, _, rfl, rfl, rfl, ?_⟩
  dsimp only
  rw [two_bits]
  exact q0
 | most top ps =>
  obtain ⟨p, pq, xs, rfl, hp, hq, aa⟩ := zqg hd
  have lx : xs.length = ps.length := by rw [← aa.length, List.length_map]
  have few : ps.length ≤ m := ok.2.2.2
  refine ⟨_, rfl, p, _, _, _, rfl, rfl, sqT hp, at0, rfl, _, rfl, ?_⟩
  refine zbs zk4 ?_
  refine ⟨_, rfl, p, _, _, _, rfl, rfl, sqT hp, at0, rfl, _, rfl, ?_⟩
  refine zbs zmc ?_
  refine ⟨_, rfl, p, _, _, _, rfl, rfl, sqT hp, at0, rfl, _, rfl, ?_⟩
  refine zfr rfl ?_
  refine ⟨_, rfl, p, _, _, _, rfl, rfl, sqT hp, at2, pq, rfl, ⟨_, sqT hq⟩, ?_⟩
  refine znf (K := K) (a := pq) (xs := xs) (fun i ys σ H2 => (∃ v v', σ = [v, v', some (.int n)]) ∧ H2 = H ∧ i ≤ ps.length ∧ ys = (((ps.take i).filter fun p => n.testBit p.1).map (·.2)).map V.int) ⟨⟨none, none, rfl⟩, rfl, Nat.zero_le _, rfl⟩ (fun i ys σ H2 hi pv => ?_) (fun i ys σ H2 hi pv => ?_) (fun i x ys σ H2 hx pv => ?_) (fun ys σ H2 pv l hl => ?_)
  ·obtain ⟨_, _, h1, rfl⟩ := pv
   rw [List.length_map, List.length_map]
   refine zar (Nat.le_trans (List.length_filter_le _ _) ?_)
   rw [List.length_take]
   omega
  ·rw [pv.2.1]
   exact sqT hq
  ·obtain ⟨⟨v, v', rfl⟩, rfl, h1, rfl⟩ := pv
   obtain ⟨pr, r, ad, rfl, ag⟩ := zqe aa hx
   have hj : i < ps.length := (List.getElem?_eq_some_iff.mp ad).1
   have ee := PySem.take_succ_filter (fun p : Nat × Int => n.testBit p.1) ps i pr ad
   refine ⟨r, _, rfl, sqT ag, rfl, _, _, rfl, _, _, rfl, rfl, ?_⟩
   refine ⟨_, rfl, _, rfl, _, _, rfl, rfl, by omega, _, _, rfl, rfl, rfl, _, rfl, ?_⟩
   rw [zjt]
   refine zci (fun c => ?_) (fun c => ?_)
   ·refine ⟨_, rfl, ⟨_, _, rfl⟩, rfl, hj, ?_⟩
    rw [ee, if_pos c, List.map_append, List.map_append]
    rfl
   ·refine ⟨⟨_, _, rfl⟩, rfl, hj, ?_⟩
    rw [ee, if_neg c, List.append_nil]
  ·obtain ⟨_, rfl, _, rfl⟩ := pv
   have sm := zaf hl (.lst ((((ps.take xs.length).filter fun p => n.testBit p.1).map (·.2)).map V.int))
   refine ⟨l, _, rfl, SqL.of zac, _, rfl, p, _, _, _, rfl, rfl, sqT (sm _ _ hp), at1, _, _, rfl, rfl, ?_⟩
   have q1 := q _ sm
   have e : (Tie.most top ps).keep n = decide ((((ps.take xs.length).filter fun p => n.testBit p.1).map (·.2)).sum ≤ top) := by
    rw [lx, List.take_length]
    rfl
   rw [e] at q1
   exact q1
 | bough u lo hi ks =>
  obtain ⟨p, pk, rfl, hp, ac⟩ := zjr hd
  have af : Tie.BoughOkW m u lo hi ks := ok
  have few := af.few
  refine ⟨_, rfl, p, _, _, _, rfl, rfl, sqT hp, at0, rfl, _, rfl, ?_⟩
  refine zbs int_str ?_
  refine ⟨_, rfl, p, _, _, _, rfl, rfl, sqT hp, at0, rfl, _, rfl, ?_⟩
  refine zbs int_str ?_
  refine ⟨_, rfl, p, _, _, _, rfl, rfl, sqT hp, at0, rfl, _, rfl, ?_⟩
  refine zbs int_str ?_
  refine ⟨_, rfl, p, _, rfl, sqT hp, rfl, _, _, rfl, _, _, rfl, _, _, rfl, _, _, rfl, rfl, ?_⟩
  refine ⟨_, rfl, pk, rfl, ⟨_, sqT ac⟩, ?_⟩
  refine znf (K := K) (a := pk) (xs := zal ks) (fun i ys σ H2 => (∃ v, σ = [v, some (.int n)]) ∧ H2 = H ∧ ys = zal ((ks.take i).filter fun k => n.testBit k)) ⟨⟨none, rfl⟩, rfl, rfl⟩ (fun i ys σ H2 hi pv => ?_) (fun i ys σ H2 hi pv => ?_) (fun i x ys σ H2 hx pv => ?_) (fun ys σ H2 pv l hl => ?_)
  ·obtain ⟨_, _, rfl⟩ := pv
   rw [List.length_map]
   refine zar (Nat.le_trans (List.length_filter_le _ _) ?_)
   rw [List.length_take]
   omega
  ·rw [pv.2.1]
   exact sqT ac
  ·obtain ⟨⟨v, rfl⟩, rfl, rfl⟩ := pv
   rw [List.getElem?_map] at hx
   obtain ⟨k, ae, rfl⟩ := Option.map_eq_some_iff.mp hx
   have et : ks.take (i + 1) = ks.take i ++ [k] := by rw [List.take_add_one, ae, Option.toList_some]
   refine ⟨_, rfl, _, rfl, _, _, rfl, rfl, by omega, _, _, rfl, rfl, rfl, _, rfl, ?_⟩
   rw [zjt]
   refine zci (fun c => ?_) (fun c => ?_)
   ·refine ⟨_, rfl, ⟨_, rfl⟩, rfl, ?_⟩
    rw [et, List.filter_append, List.filter_cons_of_pos c]
    show _ = List.map _ (_ ++ _)
    rw [List.map_append]
    rfl
   ·refine ⟨⟨_, rfl⟩, rfl, ?_⟩
    rw [et, List.filter_append, List.filter_cons_of_neg c, List.filter_nil, List.append_nil]
  ·obtain ⟨_, rfl, rfl⟩ := pv
   rw [List.length_map, List.take_length] at *
   have sm := zaf hl (.lst (zal (ks.filter fun k => n.testBit k)))
   refine ⟨l, _, rfl, .inl (SqL.of zac), ?_⟩
   have ec : (((zal (ks.filter fun k => n.testBit k)).length : Nat) : Int) = (cnt ks n : Int) := by
    rw [List.length_map]
    rfl
   rw [ec]
   have q1 := q _ sm
   refine ⟨_, rfl, _, rfl, _, _, rfl, rfl, by omega, _, _, rfl, rfl, rfl, _, rfl, ?_⟩
   rw [zjt]
   refine zci (fun c => ?_) (fun c => ?_)
   ·rw [zvl c] at q1
    refine ⟨_, rfl, _, rfl, _, _, rfl, rfl, _, rfl, ?_⟩
    refine zci (fun c2 => ?_) (fun c2 => ?_)
    ·rw [c2, Bool.true_and] at q1
     exact ⟨_, rfl, _, _, rfl, rfl, q1⟩
    ·rw [Bool.eq_false_iff.mpr c2, Bool.false_and] at q1
     exact q1
   ·rw [zuy c, ← zh5] at q1
    exact ⟨_, rfl, rfl, q1⟩
theorem zlj (T : Txt K mg a d) : FnOk P w K mg base CX0 2 a.f_law_broken d.f_law_broken ["_law_wood_here"] zqw := by
 have aa := zmx (P := P) (w := w) (base := base) T
 refine T.K_law_broken.ok sc_law_broken (fun vs H Q E h => ?_) (fun cdv A outer s H vs Q E hr h => ?_)
 ·obtain ⟨wd, m, ts, rfl, _⟩ := h
  rfl
 obtain ⟨wd, m, ts, rfl, W, m9, tl, q⟩ := h
 obtain ⟨xs, ys, ⟨tb, tc, hw, hb, hc⟩, dn⟩ := W.ex
 have ai : (2 : Int) ^ 62 = 4611686018427387904 := by decide
 have pm := zs6 m
 have aA : 2 ^ m ≤ 512 := Nat.le_trans (Nat.pow_le_pow_right (by decide) m9) (by decide)
 have aw : xs.length + ys.length = ts.length := by
  have := dn.length
  rw [List.length_map, List.length_append] at this
  omega
 refine ⟨_, (zae (zf6 (i := 1) sc_law_broken.nd rfl rfl rfl (N' := ["_law_some"]) (n := 1) (kp := []) rfl (zcs rfl T.m_range (zaa (zax zih zad (zat (ixT (K := K)) (pv 0) zad (fun _ _ => rfl))) zab)) rfl rfl rfl (fun _ _ _ _ _ => (zaw (i := 0) (of_decide_eq_true rfl) rfl (Or.inl rfl))) (fun _ _ _ _ _ => zfe) (fun _ _ _ _ _ => zad))
   (zae (zch PassesOwn.never rfl (zuo rfl T.m_enumerate (zaa (zax zea (zbv zfi rfl T.m_list PyProof.Rows.boot_list (zaa (zat (ixT (K := K)) (pv 0) zad (fun _ _ => rfl)) zab)) (zbv zfi rfl T.m_list PyProof.Rows.boot_list (zaa (zat (ixT (K := K)) (pv 0) zad (fun _ _ => rfl)) zab))) zab)) (pgT (K := K) (n := 2) rfl (za3 (zaw (i := 2) sc_law_broken.nd rfl (Or.inl rfl)) (za3 (zaw (i := 3) sc_law_broken.nd rfl (Or.inl rfl)) zce))) (zai (zch PassesOwn.never rfl (zcs rfl T.m_range (zaa (zax zih zad (zat (ixT (K := K)) (pv 0) zad (fun _ _ => rfl))) zab)) (zaw (i := 4) sc_law_broken.nd rfl (Or.inl rfl)) (zai (za4 (zf2 (zbo (zag aa hr.lv rfl T.K_law_keeps (zaa (pv 3) (zaa (pv 4) zab))))) (zai (zh8 (zax zno (zat (ixL (K := K)) (pv 1) (pv 4) (fun _ _ => rfl)) (zax zih zad (pv 2))) (zud (pv 1) (pv 4) zof))) za0)))))
   (zai (zap (pv 1))))), ?_⟩
 refine ⟨_, rfl, wd, _, _, _, rfl, rfl, sqT hw, at0, _, _, rfl, rfl, ⟨by omega, by omega, by decide⟩, _, rfl, by rw [zlm, ai]; omega, by rw [zlm, ai]; omega, ?_⟩
 rw [zlm, Int.toNat_natCast]
 refine zh9 (k := 2 ^ m) (fun i zs σ H2 => (∃ v, σ = [v]) ∧ H2 = H ∧ zs = zal ((List.range i).map fun s => brk ts s 0)) ⟨⟨none, rfl⟩, rfl, rfl⟩ (fun i zs σ H2 hi pv => ?_) (fun i zs σ H2 hi pv => ?_) (fun zs σ H2 pv fl al => ?_)
 ·obtain ⟨_, _, rfl⟩ := pv
  rw [List.length_map, List.length_map, List.length_range]
  exact zar (by omega)
 ·obtain ⟨⟨v, rfl⟩, rfl, rfl⟩ := pv
  refine ⟨⟨_, rfl⟩, rfl, ?_⟩
  rw [List.range_succ, List.map_append]
  show _ = List.map _ (_ ++ _)
  rw [List.map_append]
  rfl
 obtain ⟨_, rfl, rfl⟩ := pv
 have s3 := zaf al (.lst (zal ((List.range (2 ^ m)).map fun s => brk ts s 0)))
 have ad : L2.upd H2 fl (.lst (zal ((List.range (2 ^ m)).map fun s => brk ts s 0))) fl = some (.lst (zal ((List.range (2 ^ m)).map fun s => brk ts s 0))) := zac
 generalize L2.upd H2 fl (.lst (zal ((List.range (2 ^ m)).map fun s => brk ts s 0))) = H3 at s3 ad ⊢
 refine ⟨_, rfl, wd, _, _, _, rfl, rfl, sqT (s3 _ _ hw), at1, tb, _, rfl, .inr (sqT (s3 _ _ hb)), fun l1 ax => ?_⟩
 have s4 := zaf ax (.lst xs)
 refine ⟨_, rfl, wd, _, _, _, rfl, rfl, sqT (s4 _ _ (s3 _ _ hw)), at2, tc, _, rfl, .inr (sqT (s4 _ _ (s3 _ _ hc))), fun l2 av => ?_⟩
 have s5 := zaf av (.lst ys)
 refine ⟨l1, l2, _, _, rfl, rfl, s5 _ _ zac, zac, zar (by omega), fun l3 ar => ?_⟩
 have s6 := zaf ar (.lst (xs ++ ys))
 have am := (s4.trans s5).trans s6
 have ac : L2.upd (L2.upd (L2.upd H3 l1 (.lst xs)) l2 (.lst ys)) l3 (.lst (xs ++ ys)) l3 = some (.lst (xs ++ ys)) := zac
 have n3 : fl ≠ l3 := zam ((s4.trans s5) _ _ ad) ar
 generalize L2.upd (L2.upd (L2.upd H3 l1 (.lst xs)) l2 (.lst ys)) l3 (.lst (xs ++ ys)) = H6 at am ac ⊢
 have ay := s3.trans am
 have ak := am _ _ ad
 have az : ∀ i : Nat, (zal ((List.range (2 ^ m)).map fun s => brk ts s i)).length = 2 ^ m := fun i => by rw [List.length_map, List.length_map, List.length_range]
 refine ⟨false, l3, rfl, ⟨_, SqL.of ac⟩, ?_⟩
 refine ztl (K := K) (b := false) (a := l3) (xs := xs ++ ys) (fun i σ H7 => ∃ (v2 v3 v4 : Option V), σ = [some (.ref wd), some (.ref fl), v2, v3, v4] ∧ Same H2 H7 ∧ H7 l3 = some (.lst (xs ++ ys)) ∧ H7 fl = some (.lst (zal ((List.range (2 ^ m)).map fun s => brk ts s i)))) ⟨_, _, _, rfl, ay, ac, ak⟩ (fun i σ H7 _ z => ?_) ?_ ?_
 ·obtain ⟨_, _, _, _, _, h7, _⟩ := z
  exact SqL.of h7
 ·rintro i x σ H7 hx ⟨v2, v3, v4, rfl, s7, aq, ag⟩ TT hT
  have il : i < ts.length := by
   have := (List.getElem?_eq_some_iff.mp hx).1
   rw [List.length_append] at this
   omega
  obtain ⟨t, ht, hd⟩ := zw4 dn hx
  have s8 := zaf hT (.tup [.int (i : Int), x])
  refine ⟨TT, _, rfl, sqT zac, rfl, _, _, rfl, _, _, rfl, rfl, ?_⟩
  have ao := s7.trans s8
  have au := s8 _ _ aq
  have ap := s8 _ _ ag
  generalize L2.upd H7 TT (.tup [.int (i : Int), x]) = H8 at s8 ao au ap ⊢
  refine ⟨_, rfl, wd, _, _, _, rfl, rfl, sqT (ao _ _ hw), at0, _, _, rfl, rfl, ⟨by omega, by omega, by decide⟩, _, rfl, by rw [zlm, ai]; omega, by rw [zlm, ai]; omega, ?_⟩
  rw [zlm, Int.toNat_natCast]
  refine zd9 (n := 2 ^ m) (fun j σ H9 => ∃ (v4 : Option V), σ = [some (.ref wd), some (.ref fl), some (.int (i : Int)), some x, v4] ∧ Same H2 H9 ∧ H9 l3 = some (.lst (xs ++ ys)) ∧ H9 fl = some (.lst (zal ((List.range (2 ^ m)).map fun s => if s < j then brk ts s (i + 1) else brk ts s i)))) ⟨_, rfl, ao, au, ?_⟩ ?_ ?_
  ·rw [ap]
   simp
  ·rintro j σ H9 hj ⟨v4, rfl, s9, af, aj⟩
   have ae : (ts[i]?.map fun t => t.keep j).getD true = t.keep j := by rw [ht]; rfl
   refine ⟨_, rfl, _, rfl, t, m, j, x, rfl, Dn.same s9 _ _ hd, W.ok t (List.mem_of_getElem? ht), by omega, fun HA sA => ?_⟩
   refine ⟨_, rfl, ?_⟩
   have ah := sA _ _ aj
   have same : ∀ g : Nat → Nat, (∀ s, s < 2 ^ m → g s = if s < j + 1 then brk ts s (i + 1) else brk ts s i) → zal ((List.range (2 ^ m)).map g) = zal ((List.range (2 ^ m)).map fun s => if s < j + 1 then brk ts s (i + 1) else brk ts s i) := fun g hg => by
    congr 1
    exact List.map_congr_left fun s hs => hg s (List.mem_range.mp hs)
   cases hk : t.keep j
   ·refine zll ?_
    refine ⟨_, rfl, _, rfl, fl, _, _, _, rfl, rfl, SqL.of ah, zvs hj, _, rfl, _, _, rfl, rfl, ⟨by omega, by omega, by decide⟩, _, _, rfl, rfl, ?_⟩
    refine ⟨_, rfl, _, rfl, fl, _, _, j, rfl, rfl, ah, ?_, ?_⟩
    ·unfold ixN
     rw [List.length_map, List.length_map, List.length_range, if_pos (by omega), if_pos (by omega), Int.toNat_natCast]
    ·have ev : Builtin.bitOr ((if j < j then brk ts j (i + 1) else brk ts j i : Nat) : Int) (1 * (2 : Int) ^ ((i : Nat) : Int).toNat) = ((brk ts j (i + 1) : Nat) : Int) := by
      rw [if_neg (Nat.lt_irrefl _), zlm, zh3]
      show _ = ((brk ts j i ||| _ : Nat) : Int)
      rw [ae, hk, if_neg (by decide)]
     dsimp only
     rw [ev]
     have es := zsi (m := 2 ^ m) (k := j) (f := fun s => if s < j then brk ts s (i + 1) else brk ts s i) (g := fun s => if s < j + 1 then brk ts s (i + 1) else brk ts s i) (fun s => by
      by_cases z : s = j
      ·rw [if_pos z, z]
      ·rw [if_neg z]
       by_cases z2 : s < j
       ·rw [if_pos z2, if_pos (by omega)]
       ·rw [if_neg z2, if_neg (by omega)]) hj
     rw [if_pos (Nat.lt_succ_self j)] at es
     rw [es]
     have nl : l3 ≠ fl := Ne.symm n3
     refine ⟨_, rfl, Same.put (s9.trans sA) al ah, ?_, zac⟩
     rw [zak nl]
     exact sA _ _ af
   ·refine zd1 ?_
    refine ⟨_, rfl, s9.trans sA, sA _ _ af, ?_⟩
    rw [ah]
    refine congrArg some (congrArg HO.lst (same _ fun s hs => ?_))
    by_cases z : s < j
    ·rw [if_pos z, if_pos (by omega)]
    ·rw [if_neg z]
     by_cases z2 : s = j
     ·subst z2
      rw [if_pos (Nat.lt_succ_self _)]
      show _ = brk ts s i ||| _
      rw [ae, hk, if_pos rfl, Nat.or_zero]
     ·rw [if_neg (by omega)]
  ·rintro σ H9 ⟨v4, rfl, s9, af, aj⟩
   refine ⟨_, _, _, rfl, s9, af, ?_⟩
   rw [aj]
   refine congrArg some (congrArg HO.lst ?_)
   congr 1
   exact List.map_congr_left fun s hs => if_pos (List.mem_range.mp hs)
 ·rintro σ H7 ⟨v2, v3, v4, rfl, s7, aq, ag⟩
  rw [List.length_append, aw] at ag
  exact ⟨_, rfl, q fl _ s7 al ag⟩
theorem zbz (T : Txt K mg a d) {p D : Addr} {C : Hp → Prop} {R : Hp → Hp → Prop} {r o : Bool} {fdL : FuncData} {φ : Heap → Prop} (HK : ztu K D [a.x_NoCount, a.x_NoName, a.x_NoRow, a.x_NoText, a.x_NoWood, a.x_Unlike] a.x_NoOffer a.x_NoWares a.x_WoodError o) (L__law_ask : FnOk P w K mg base (CXR P w) 24 p fdL [] (zte C D r R)) (LB__law_ask : Binds K fdL [] []) (LP__law_ask : ∀ h : Heap, φ h → ∃ o fd', h.get? p = some o ∧ o.data = .func fd')
  (hCp : ∀ H, C H → H p = some (.ext φ)) : FnOk P w K mg base CX0 25 a.f_law_heard d.f_law_heard ["_law_ask"] (zsb p C r o R) := by
 refine T.K_law_heard.ok sc_law_heard (fun vs H Q E h => ?_) (fun cdv A outer s H vs Q E hr h => ?_)
 ·obtain ⟨rfl, _⟩ := h
  rfl
 obtain ⟨rfl, c0, q⟩ := h
 obtain ⟨W, hW⟩ : ∃ W : XK, W = fun cls _ H' => r = true ∧ cls = .ref D ∧ Same H H' := ⟨_, rfl⟩
 refine ⟨_, (zae (zao (i := 1) sc_law_heard.nd rfl (Or.inl rfl) zco)
   (zae (zt7 (i := 2) (W := W) rfl rfl (fun _ => (zai (zca (zry (i := 0) L__law_ask hr.lv rfl (.inl rfl) LB__law_ask LP__law_ask zx3)))) rfl T.g_WoodError T.x_WoodError.cl sc_law_heard.nd rfl rfl (Or.inl rfl) (fun _ => (zai (zao (i := 1) sc_law_heard.nd rfl (Or.inl rfl) (pv 2)))))
   (zae (za4 (zan znb (pv 1) zco (zaq _)) (zai (zap zbe)) za0)
   (zae (zch PassesOwn.never rfl (piL (K := K) (za8 (zaa (zaz (zk6 (K := K)) rfl T.m_isinstance PyProof.Rows.boot_isinstance (zaa (pv 1) (zaa (zdu (v := .ref a.x_NoCount) rfl T.g_NoCount rfl) zab))) (zaa (zaz (zk6 (K := K)) rfl T.m_isinstance PyProof.Rows.boot_isinstance (zaa (pv 1) (zaa (zdu (v := .ref a.x_NoName) rfl T.g_NoName rfl) zab))) (zaa (zaz (zk6 (K := K)) rfl T.m_isinstance PyProof.Rows.boot_isinstance (zaa (pv 1) (zaa (zdu (v := .ref a.x_NoRow) rfl T.g_NoRow rfl) zab))) zab))))) (zaw (i := 3) sc_law_heard.nd rfl (Or.inl rfl)) (zai (za4 (zbo (pv 3)) (zai (zap zbe)) za0)))
   (zae (za4 (PW.pt (zg2 (zbo (zaz (zk6 (K := K)) rfl T.m_isinstance PyProof.Rows.boot_isinstance (zaa (pv 1) (zaa (zdu (v := .ref a.x_NoText) rfl T.g_NoText rfl) zab)))) (zg2 (zbo (zaz (zk6 (K := K)) rfl T.m_isinstance PyProof.Rows.boot_isinstance (zaa (pv 1) (zaa (zdu (v := .ref a.x_NoWood) rfl T.g_NoWood rfl) zab)))) (zhf (zbo (zaz (zk6 (K := K)) rfl T.m_isinstance PyProof.Rows.boot_isinstance (zaa (pv 1) (zaa (zdu (v := .ref a.x_Unlike) rfl T.g_Unlike rfl) zab)))))))) (zai (zap zbe)) za0)
   (zae (za4 (PW.pt (zg2 (zf2 (zbo (zaz (zk6 (K := K)) rfl T.m_isinstance PyProof.Rows.boot_isinstance (zaa (pv 1) (zaa (zp6 (v := .ty "ValueError") rfl T.m_ValueError zu0 rfl) zab))))) (zhf (zan zbq (zaz (zk6 (K := K)) rfl T.m_isinstance PyProof.Rows.boot_isinstance (zaa (pv 1) (zaa (zdu (v := .ref a.x_NoOffer) rfl T.g_NoOffer rfl) zab))) (zaz (zk6 (K := K)) rfl T.m_isinstance PyProof.Rows.boot_isinstance (zaa (pv 1) (zaa (zdu (v := .ref a.x_NoWares) rfl T.g_NoWares rfl) zab))) (zaq _))))) (zai (zap zbe)) za0)
   (zai (zap (zat (ixL (K := K)) (za8 (zaa zbe (zaa zbe zab))) (zbv zlv rfl T.m_int PyProof.Rows.boot_int (zaa (zaz (zk6 (K := K)) rfl T.m_isinstance PyProof.Rows.boot_isinstance (zaa (pv 1) (zaa (zdu (v := .ref a.x_NoOffer) rfl T.g_NoOffer rfl) zab))) zab)) (fun _ _ => rfl)))))))))), ?_⟩
 refine ⟨⟨rfl, hCp _ c0, rfl, c0, fun aa H' s' => by rw [hW]; exact ⟨aa, rfl, s'⟩, fun aa v H' s' => ?_⟩, ?_⟩
 ·refine ⟨_, rfl, rfl, _, rfl, ?_⟩
  refine zfr rfl ?_
  have q' := q H' (fun z => by rw [aa] at z; cases z) (fun _ => s')
  rw [aa] at q'
  exact q'
 intro σ' H' ea Dc hl w1 hea
 rw [hW] at w1
 obtain ⟨aa, ec, sw⟩ := w1
 cases Value.ref.inj ec
 obtain ⟨v0, v1, v2, v3, rfl⟩ := zyl hl
 refine ⟨HK.x.cl, HK.up, ?_⟩
 have s1 := zaf hea (.ext (zln ea D))
 have h1 : L2.upd H' ea (.ext (zln ea D)) ea = some (.ext (zln ea D)) := zac
 generalize L2.upd H' ea (.ext (zln ea D)) = H1 at s1 h1 ⊢
 refine ⟨_, rfl, ?_⟩
 refine ⟨_, rfl, rfl, _, rfl, ?_⟩
 refine zbs (fun z => nomatch z) ?_
 refine ⟨_, rfl, ea, _, _, _, rfl, h1, HK.x, .inl ⟨_, rfl, HK.no _ (by simp)⟩, _, rfl, ea, _, _, _, rfl, h1, HK.x, .inl ⟨_, rfl, HK.no _ (by simp)⟩, _, rfl, ea, _, _, _, rfl, h1, HK.x, .inl ⟨_, rfl, HK.no _ (by simp)⟩, zar (by show 3 ≤ 1000; decide), fun l1 ac => ?_⟩
 have s2 := zaf ac (.lst [.bl false, .bl false, .bl false])
 have g2 : L2.upd H1 l1 (.lst [.bl false, .bl false, .bl false]) l1 = some (.lst [.bl false, .bl false, .bl false]) := zac
 generalize L2.upd H1 l1 (.lst [.bl false, .bl false, .bl false]) = H2 at s2 g2 ⊢
 have h2 := s2 _ _ h1
 refine ⟨l1, rfl, ⟨_, SqL.of g2⟩, ?_⟩
 refine zcx (K := K) (a := l1) (xs := [.bl false, .bl false, .bl false]) (fun i σ H3 => (∃ v : Option V, σ = [v0, some (.ref ea), none, v]) ∧ H3 = H2) ⟨⟨_, rfl⟩, rfl⟩ (fun i σ H3 _ z => by rw [z.2]; exact SqL.of g2) ?_ ?_
 ·rintro i x σ H3 hx ⟨⟨v, rfl⟩, rfl⟩
  have ex : x = .bl false := by
   have m := List.mem_of_getElem? hx
   simp only [List.mem_cons, List.not_mem_nil, or_false] at m
   rcases m with z | z | z <;> exact z
  subst ex
  refine ⟨_, rfl, _, rfl, ?_⟩
  refine zd1 ?_
  exact ⟨⟨_, rfl⟩, rfl⟩
 ·rintro σ H3 ⟨⟨v, rfl⟩, rfl⟩
  refine ⟨_, rfl, ea, _, _, _, rfl, h2, HK.x, .inl ⟨_, rfl, HK.no _ (by simp)⟩, _, rfl, ?_⟩
  refine zd1 ?_
  refine ⟨_, rfl, ea, _, _, _, rfl, h2, HK.x, .inl ⟨_, rfl, HK.no _ (by simp)⟩, _, rfl, ?_⟩
  refine zd1 ?_
  refine ⟨_, rfl, ea, _, _, _, rfl, h2, HK.x, .inl ⟨_, rfl, HK.no _ (by simp)⟩, _, rfl, ?_⟩
  refine zd1 ?_
  refine ⟨_, rfl, ea, _, _, _, rfl, h2, HK.x, .inr ⟨_, rfl, HK.ve⟩, _, rfl, ?_⟩
  refine zd1 ?_
  refine ⟨_, rfl, ea, _, _, _, rfl, h2, HK.x, .inl ⟨_, rfl, HK.off⟩, _, rfl, ea, _, _, _, rfl, h2, HK.x, .inl ⟨_, rfl, HK.wares⟩, rfl, _, rfl, ?_⟩
  refine zbs (by cases o <;> decide) ?_
  refine ⟨zar (by show 2 ≤ 1000; decide), fun l hl => ?_⟩
  have s4 := zaf hl (.lst [.str ("wares" : Str), .str ("offer" : Str)])
  refine ⟨_, rfl, ea, _, _, _, rfl, s4 _ _ h2, HK.x, .inl ⟨_, rfl, HK.off⟩, .inr ⟨_, rfl, ?_⟩⟩
  refine ⟨l, _, _, .str (if o = true then ("offer" : Str) else ("wares" : Str)), rfl, rfl, SqL.of zac, by cases o <;> rfl, ?_⟩
  have q' := q _ (fun _ => sw.trans ((s1.trans s2).trans s4)) (fun z => by rw [aa] at z; cases z)
  rw [aa] at q'
  exact q'
theorem zml (T : Txt K mg a d) : FnOk P w K mg base CX0 2 a.f_law_stand d.f_law_stand ["_law_chosen"] zpi := by
 refine T.K_law_stand.ok sc_law_stand (fun vs H Q E h => ?_) (fun cdv A outer s H vs Q E hr h => ?_)
 ·obtain ⟨pl, ps, rfl, _⟩ := h
  rfl
 obtain ⟨pl, ps, rfl, PA, q⟩ := h
 obtain ⟨xs, aa, pk⟩ := PA.ex
 have lx := pk.length
 refine ⟨_, (zae (zao (i := 1) sc_law_stand.nd rfl (Or.inl rfl) zad)
   (zae (zao (i := 2) sc_law_stand.nd rfl (Or.inl rfl) zad)
   (zae (zch PassesOwn.never rfl (piL (K := K) (pv 0)) (pgT (K := K) (n := 2) rfl (za3 (zaw (i := 3) sc_law_stand.nd rfl (Or.inl rfl)) (za3 (zaw (i := 4) sc_law_stand.nd rfl (Or.inl rfl)) zce))) (zai (za4 (zbo (pv 4)) (zai (zao (i := 1) sc_law_stand.nd rfl (Or.inl rfl) (zax zno (pv 1) (zax zih zad (pv 3))))) (zai (zao (i := 2) sc_law_stand.nd rfl (Or.inl rfl) (zax zno (pv 2) (zax zih zad (pv 3))))))))
   (zai (zap (zbb (zaa (pv 1) (zaa (pv 2) zab)))))))), ?_⟩
 refine ⟨_, rfl, pl, rfl, ⟨_, SqL.of aa⟩, ?_⟩
 refine zcx (K := K) (a := pl) (xs := xs) (fun i σ H2 => (∃ v3 v4 : Option V, σ = [some (.ref pl), some (.int (zaj (ps.take i) : Int)), some (.int (zau (ps.take i) : Int)), v3, v4]) ∧ H2 = H) ⟨⟨none, none, rfl⟩, rfl⟩ (fun i σ H2 _ z => by rw [z.2]; exact SqL.of aa) ?_ ?_
 ·rintro i x σ H2 hx ⟨⟨v3, v4, rfl⟩, rfl⟩
  obtain ⟨p, t, hp, rfl, ht⟩ := pk.get hx
  have et : ps.take (i + 1) = ps.take i ++ [p] := by rw [List.take_add_one, hp, Option.toList_some]
  have ac := PA.le p (List.mem_of_getElem? hp)
  refine ⟨t, _, rfl, sqT ht, rfl, _, _, rfl, _, _, rfl, rfl, ?_⟩
  refine ⟨_, rfl, _, rfl, ?_⟩
  cases e : p.2
  ·refine zd1 ?_
   refine ⟨_, rfl, _, rfl, _, _, rfl, rfl, ⟨by omega, by omega, by decide⟩, _, _, rfl, rfl, ?_⟩
   refine ⟨⟨some (.int (p.1 : Int)), some (.bl false), ?_⟩, rfl⟩
   rw [et, zgf, zho, e, if_neg Bool.false_ne_true, if_neg Bool.false_ne_true, ← zh3, ← zlm]
   rfl
  ·refine zll ?_
   refine ⟨_, rfl, _, rfl, _, _, rfl, rfl, ⟨by omega, by omega, by decide⟩, _, _, rfl, rfl, ?_⟩
   refine ⟨⟨some (.int (p.1 : Int)), some (.bl true), ?_⟩, rfl⟩
   rw [et, zgf, zho, e, if_pos rfl, if_pos rfl, ← zh3, ← zlm]
   rfl
 ·rintro σ H2 ⟨⟨v3, v4, rfl⟩, rfl⟩
  rw [← lx, List.take_length]
  refine ⟨_, rfl, _, rfl, zar (by show 2 ≤ 1000; decide), fun t ht => ?_⟩
  exact q t _ (zaf ht _) zac
theorem zit (T : Txt K mg a d) : FnOk P w K mg base CX0 4 a.f_law_sets d.f_law_sets ["_law_broken_here", "_law_ties", "_law_chosen"] zvf := by
 have aa := zml (P := P) (w := w) (base := base) T
 refine T.K_law_sets.ok sc_law_sets (fun vs H Q E h => ?_) (fun cdv A outer s H vs Q E hr h => ?_)
 ·obtain ⟨bl, pl, B, ti, ps, rfl, _⟩ := h
  rfl
 obtain ⟨bl, pl, B, ti, ps, rfl, hB, few, PA, q⟩ := h
 have ad : (2 : Int) ^ 62 = 4611686018427387904 := by decide
 refine ⟨_, (zae (zh8 (zag aa hr.lv rfl T.K_law_stand (zaa (pv 2) zab)) (pgT (K := K) (n := 2) rfl (za3 (zaw (i := 3) sc_law_sets.nd rfl (Or.inl rfl)) (za3 (zaw (i := 4) sc_law_sets.nd rfl (Or.inl rfl)) zce))))
   (zae (zao (i := 5) sc_law_sets.nd rfl (Or.inl rfl) (za8 zab))
   (zae (zch PassesOwn.never rfl (zcs rfl T.m_range (zaa (zaz (zdw (K := K)) rfl T.m_len PySem.boot_len (zaa (pv 0) zab)) zab)) (zaw (i := 6) sc_law_sets.nd rfl (Or.inl rfl)) (zai (za4 (PW.pt (zgc (zan zbq (zax zd3 (pv 6) (pv 3)) (pv 3) (zaq _)) (zgc (zan zbq (zax zd3 (pv 6) (pv 4)) zad (zaq _)) (zfg (zan zbq (zax zd3 (zat (ixL (K := K)) (pv 0) (pv 6) (fun _ _ => rfl)) (pv 1)) zad (zaq _)))))) (zai (zca (zeu (K := K) PySem.F.plainAttrs_list PySem.F.slot_list_append PySem.F.type_list_append zcr (pv 5) (zaa (pv 6) zab)))) za0)))
   (zai (zap (pv 5)))))), ?_⟩
 refine ⟨_, rfl, pl, ps, rfl, PA, fun t H1 s1 ht => ?_⟩
 refine ⟨t, _, rfl, sqT ht, rfl, _, _, rfl, _, _, rfl, rfl, ?_⟩
 refine ⟨zar (by show 0 ≤ 1000; decide), fun lf ac => ?_⟩
 have s2 := s1.trans (zaf ac (.lst []))
 have g2 : L2.upd H1 lf (.lst []) lf = some (.lst []) := zac
 have nf := s1.free ac
 generalize L2.upd H1 lf (.lst []) = H2 at s2 g2 ⊢
 have lB : (zal B).length = B.length := List.length_map _
 refine ⟨_, rfl, bl, _, rfl, .inl (SqL.of (s2 _ _ hB)), _, rfl, by rw [lB, ad]; omega, by rw [lB, ad]; omega, ?_⟩
 rw [lB, Int.toNat_natCast]
 refine zd9 (n := B.length) (fun i σ H3 => ∃ v6 : Option V, σ = [some (.ref bl), some (.int ti), some (.ref pl), some (.int (zaj ps : Int)), some (.int (zau ps : Int)), some (.ref lf), v6] ∧ Same H H3 ∧ H3 lf = some (.lst (zal ((List.range i).filter (zf1 B ti (zaj ps) (zau ps)))))) ⟨none, rfl, s2, g2⟩ ?_ ?_
 ·rintro i σ H3 hi ⟨v6, rfl, s3, g3⟩
  have ae : H3 bl = some (.lst (zal B)) := s3 _ _ hB
  have af : ((List.range i).filter (zf1 B ti (zaj ps) (zau ps))).length ≤ i := by
   have := List.length_filter_le (zf1 B ti (zaj ps) (zau ps)) (List.range i)
   rwa [List.length_range] at this
  have step : ∀ b, zf1 B ti (zaj ps) (zau ps) i = b → (List.range (i + 1)).filter (zf1 B ti (zaj ps) (zau ps)) = (List.range i).filter (zf1 B ti (zaj ps) (zau ps)) ++ (if b = true then [i] else []) := fun b e => by
   rw [List.range_succ, List.filter_append]
   cases b <;> simp [e]
  have no : zf1 B ti (zaj ps) (zau ps) i = false → ∃ v6 : Option V, [some (.ref bl), some (.int ti), some (.ref pl), some (.int (zaj ps : Int)), some (.int (zau ps : Int)), some (.ref lf), some (V.int (i : Int))] = [some (.ref bl), some (.int ti), some (.ref pl), some (.int (zaj ps : Int)), some (.int (zau ps : Int)), some (.ref lf), v6] ∧ Same H H3 ∧ H3 lf = some (.lst (zal ((List.range (i + 1)).filter (zf1 B ti (zaj ps) (zau ps))))) := fun e => ⟨_, rfl, s3, by rw [step _ e, if_neg Bool.false_ne_true, List.append_nil]; exact g3⟩
  refine ⟨_, rfl, _, rfl, _, _, rfl, rfl, _, rfl, rfl, _, rfl, ?_⟩
  by_cases c1 : i &&& zaj ps = zaj ps
  ·refine zfr (show V.int (Builtin.bitAnd (i : Int) (zaj ps : Int)) = V.int (zaj ps : Int) by rw [ze2, c1]) ?_
   refine ⟨_, rfl, _, rfl, _, _, rfl, rfl, rfl, _, rfl, ?_⟩
   by_cases c2 : i &&& zau ps = 0
   ·refine zfr (show V.int (Builtin.bitAnd (i : Int) (zau ps : Int)) = V.int 0 by rw [ze2, c2]; rfl) ?_
    have gi : B[i]? = some B[i] := List.getElem?_eq_getElem hi
    refine ⟨_, rfl, _, rfl, bl, _, _, .int (B[i] : Int), rfl, rfl, SqL.of ae, zdx (by rw [List.getElem?_map, gi]; rfl), _, rfl, _, _, rfl, rfl, rfl, _, rfl, ?_⟩
    by_cases c3 : Builtin.bitAnd (B[i] : Int) ti = 0
    ·refine zfr (show V.int (Builtin.bitAnd (B[i] : Int) ti) = V.int 0 by rw [c3]) ?_
     have e : zf1 B ti (zaj ps) (zau ps) i = true := by
      unfold zf1
      rw [gi, Option.getD_some, decide_eq_true c1, decide_eq_true c2, decide_eq_true c3]
      rfl
     refine ⟨_, rfl, .inl ⟨rfl, _, SqL.of g3⟩, _, rfl, lf, _, _, rfl, rfl, g3, zbd (by rw [List.length_map]; omega), ?_⟩
     refine ⟨_, rfl, Same.put s3 nf g3, ?_⟩
     rw [step _ e, if_pos rfl, zif]
     exact zac
    ·refine zbs (fun z : V.int (Builtin.bitAnd (B[i] : Int) ti) = V.int 0 => c3 (by injection z)) ?_
     refine no ?_
     unfold zf1
     rw [gi, Option.getD_some, decide_eq_false c3, Bool.and_false, Bool.and_false]
   ·refine zbs (fun z : V.int (Builtin.bitAnd (i : Int) (zau ps : Int)) = V.int 0 => by
     injection z with z
     rw [ze2] at z
     exact c2 (by omega)) ?_
    refine zd1 ?_
    refine no ?_
    unfold zf1
    rw [decide_eq_false c2, Bool.false_and, Bool.and_false]
  ·refine zbs (fun z : V.int (Builtin.bitAnd (i : Int) (zaj ps : Int)) = V.int (zaj ps : Int) => by
    injection z with z
    rw [ze2] at z
    exact c1 (by omega)) ?_
   refine zd1 ?_
   refine no ?_
   unfold zf1
   rw [decide_eq_false c1, Bool.false_and]
 ·rintro σ H3 ⟨v6, rfl, s3, g3⟩
  exact ⟨_, rfl, q lf _ s3 nf g3⟩
theorem zig (T : Txt K mg a d) : FnOk P w K mg base CX0 20 a.f_Choice_choose d.f_Choice_choose ["self", "k", "value"] (ztn a.x_Choice) := by
 have ac := zd5 (P := P) (w := w) (base := base) T
 have aa := zel (P := P) (w := w) (base := base) T
 refine T.K_Choice_choose.ok zex (fun vs H Q E h => ?_) (fun cdv A outer s H vs Q E hr h => ?_)
 ·obtain ⟨c, dx, wd, pl, m, ts, ps, k, b, rfl, _⟩ := h
  rfl
 obtain ⟨c, dx, wd, pl, m, ts, ps, k, b, rfl, hc, PA, W, m9, m1, aq, aj, ko, S, wS, q⟩ := h
 obtain ⟨ak, al, WA, _⟩ := W.ex
 refine ⟨_, (zae (za4 (PW.pt (zg2 (zan zby (pv 1) (zag ac hr.lv rfl T.K_open_at (zaa (zbl (pv 0) rfl) (zaa (zbl (pv 0) rfl) zab))) (by with_unfolding_all rfl)) (zhf (zf2 (zbo (zag aa hr.lv rfl T.K_leads_on (zaa (zbl (pv 0) rfl) (zaa (zbl (pv 0) rfl) (zaa (zbb (zaa (pv 1) (zaa (pv 2) zab))) zab))))))))) (zai zh0) za0)
   (zai (zca (zeu (K := K) PySem.F.plainAttrs_list PySem.F.slot_list_append PySem.F.type_list_append zcr (zbl (pv 0) rfl) (zaa (zbb (zaa (pv 1) (zaa (pv 2) zab))) zab))))), ?_⟩
 refine ⟨_, rfl, _, rfl, c, _, _, _, _, rfl, hc, T.C_Choice, T.n_Choice_wood, rfl, _, rfl, c, _, _, _, _, rfl, hc, T.C_Choice, T.n_Choice_picks, rfl, ?_⟩
 refine ⟨wd, pl, m, ak, al, ps, rfl, WA, by omega, PA, fun l H1 s1 nl hl => ?_⟩
 refine ⟨l, _, rfl, .inl (SqL.of hl), rfl, zbu _, _, rfl, ?_⟩
 refine zj5 (show (!inV (.int (k : Int)) (zal (zas m (zaj ps) (zau ps)))) = false by rw [zeg, decide_eq_true ko]; rfl) ?_
 have ai : H1 c = _ := s1 _ _ hc
 refine ⟨_, rfl, c, _, _, _, _, rfl, ai, T.C_Choice, T.n_Choice_wood, rfl, _, rfl, c, _, _, _, _, rfl, ai, T.C_Choice, T.n_Choice_picks, rfl, _, rfl, _, rfl, zar (by show 2 ≤ 1000; decide), fun tp ap => ?_⟩
 have s2 := s1.trans (zaf ap (.tup [.int (k : Int), .bl b]))
 have h2 : L2.upd H1 tp (.tup [.int (k : Int), .bl b]) tp = some (.tup [.int (k : Int), .bl b]) := zac
 generalize L2.upd H1 tp (.tup [.int (k : Int), .bl b]) = H2 at s2 h2 ⊢
 refine ⟨wd, pl, tp, m, ts, ps, (k, b), rfl, W.same s2, m9, m1, PA.same s2, by omega, aj, h2, S, fun H3 o s3 ho => ?_⟩
 obtain ⟨s0, rfl⟩ := zjm ho wS
 refine ⟨_, rfl, ?_⟩
 refine zd1 ?_
 have ae := s2.trans s3
 have ah : H3 c = some (.ins a.x_Choice dx (chF wd pl)) := ae _ _ hc
 obtain ⟨xs, ag, pk⟩ := (PA.same ae).ex
 have lx := pk.length
 refine ⟨_, rfl, c, _, _, _, _, rfl, ah, T.C_Choice, T.n_Choice_picks, rfl, .inl ⟨rfl, _, SqL.of ag⟩, _, rfl, _, rfl, zar (by show 2 ≤ 1000; decide), fun tq am => ?_⟩
 have s4 := zaf am (.tup [.int (k : Int), .bl b])
 have h4 : L2.upd H3 tq (.tup [.int (k : Int), .bl b]) tq = some (.tup [.int (k : Int), .bl b]) := zac
 generalize L2.upd H3 tq (.tup [.int (k : Int), .bl b]) = H4 at s4 h4 ⊢
 have ad : H4 pl = some (.lst xs) := s4 _ _ ag
 have af : H4 c = some (.ins a.x_Choice dx (chF wd pl)) := s4 _ _ ah
 have ao : c ≠ pl := fun z => by rw [z, ad] at af; cases af
 refine ⟨pl, _, _, rfl, rfl, ad, zbd (by omega), ?_⟩
 have t5 := zed (o' := .lst (xs ++ [.ref tq])) ad (fun _ z => nomatch z)
 refine q _ (zav (Same.tup (ae.trans s4)) t5) (ze0 (zkv (ae.trans s4)) (zgq ad)) (by rw [zak ao]; exact af) ⟨⟨_, zac, ?_⟩, by rw [List.length_append, List.length_singleton]; omega, fun x hx => ?_⟩
 ·exact PickL.snoc (p := (k, b)) (t5 _ _ h4) ((pk.same (Same.tup s4)).same t5)
 ·rcases List.mem_append.mp hx with z | z
  ·exact PA.le x z
  ·rw [List.mem_singleton.mp z]; exact aj
theorem zcu (T : Txt K mg a d) : FnOk P w K mg base (CXR P w) 20 a.f_Choice_choose d.f_Choice_choose ["self", "k", "value"] (zrh a.x_Choice a.x_NoOffer) := by
 have ac := zd5 (P := P) (w := w) (base := base) T
 have aa := zel (P := P) (w := w) (base := base) T
 refine T.K_Choice_choose.okR zex (fun vs H Q E h => ?_) (fun cdv A outer s H vs Q E hr h => ?_)
 ·obtain ⟨c, dx, wd, pl, m, ts, ps, k, b, rfl, _⟩ := h
  rfl
 obtain ⟨c, dx, wd, pl, m, ts, ps, k, b, rfl, hc, PA, W, m9, m1, ok, no, hE⟩ := h
 have p9 := ok.len
 obtain ⟨ae, af, WA, _⟩ := W.ex
 have rest : PSs (zb3 (CXR P w) P w K mg base ["self", "k", "value"] "Choice.choose" (zah zb2) a.f_Choice_choose cdv A outer s H E) ((za2 zb2).drop 1) (fun _ _ _ => False) := fun _ _ _ _ _ _ h => h.elim
 refine ⟨_, (zae (za4 (PW.pt (zg2 (zan zby (pv 1) (zag ac hr.lv rfl T.K_open_at (zaa (zbl (pv 0) rfl) (zaa (zbl (pv 0) rfl) zab))) (by with_unfolding_all rfl)) (zhf (zf2 (zbo (zag aa hr.lv rfl T.K_leads_on (zaa (zbl (pv 0) rfl) (zaa (zbl (pv 0) rfl) (zaa (zbb (zaa (pv 1) (zaa (pv 2) zab))) zab))))))))) (zai (zkz rfl rfl T.g_NoOffer T.x_NoOffer.cl (zaa zbe zab) (fun _ _ _ _ _ _ _ I hx hW => zni I hx hW))) za0)
   rest), ?_⟩
 refine ⟨_, rfl, _, rfl, c, _, _, _, _, rfl, hc, T.C_Choice, T.n_Choice_wood, rfl, _, rfl, c, _, _, _, _, rfl, hc, T.C_Choice, T.n_Choice_picks, rfl, ?_⟩
 refine ⟨wd, pl, m, ae, af, ps, rfl, WA, by omega, PA, fun l H1 s1 nl hl => ?_⟩
 refine ⟨l, _, rfl, .inl (SqL.of hl), rfl, zbu _, _, rfl, ?_⟩
 by_cases ko : inV (.int k) (zal (zas m (zaj ps) (zau ps))) = true
 ·refine zj5 (show (!inV (.int k) (zal (zas m (zaj ps) (zau ps)))) = false by rw [ko]; rfl) ?_
  obtain ⟨kn, rfl, hk⟩ := (zoh _ _).mp ko
  have km := mem_openP.mp hk
  have ad : H1 c = _ := s1 _ _ hc
  refine ⟨_, rfl, c, _, _, _, _, rfl, ad, T.C_Choice, T.n_Choice_wood, rfl, _, rfl, c, _, _, _, _, rfl, ad, T.C_Choice, T.n_Choice_picks, rfl, _, rfl, _, rfl, zar (by show 2 ≤ 1000; decide), fun tp ag => ?_⟩
  have s2 := s1.trans (zaf ag (.tup [.int (kn : Int), .bl b]))
  have h2 : L2.upd H1 tp (.tup [.int (kn : Int), .bl b]) tp = some (.tup [.int (kn : Int), .bl b]) := zac
  generalize L2.upd H1 tp (.tup [.int (kn : Int), .bl b]) = H2 at s2 h2 ⊢
  refine ⟨wd, pl, tp, m, ts, ps, (kn, b), rfl, W.same s2, m9, m1, PA.same s2, by omega, by show kn ≤ 20; omega, h2, (ok.snoc hk).stand m1, fun H3 o s3 ho => ?_⟩
  have e : o.isSome = false := (zhc ho).trans (no kn rfl hk)
  rw [e]
  refine ⟨_, rfl, ?_⟩
  refine zll ?_
  exact ⟨by show 1 ≤ 1000; decide, hE _ (s2.trans s3)⟩
 ·refine zt4 (show (!inV (.int k) (zal (zas m (zaj ps) (zau ps)))) = true by rw [Bool.eq_false_iff.mpr ko]; rfl) ?_
  exact ⟨by show 1 ≤ 1000; decide, hE _ s1⟩
theorem zgu (T : Txt K mg a d) : FnOk P w K mg base CX0 1 a.f_Choice_take_back d.f_Choice_take_back ["self", "k"] (zwj a.x_Choice) := by
 refine T.K_Choice_take_back.ok zdo (fun vs H Q E h => ?_) (fun cdv A outer s H vs Q E hr h => ?_)
 ·obtain ⟨c, dx, wd, pl, ps, k, rfl, _⟩ := h
  rfl
 obtain ⟨c, dx, wd, pl, ps, k, rfl, hc, PA, km, q⟩ := h
 obtain ⟨xs, ae, pk⟩ := PA.ex
 have lx := pk.length
 have few := PA.few
 refine ⟨_, (zae (za4 (zan zby (pv 1) (zeo (N' := ["option", "value"]) (n := 2) (kp := []) rfl (piL (K := K) (zbl (pv 0) rfl)) rfl rfl rfl (fun _ _ _ _ _ => (pgT (K := K) (n := 2) rfl (za3 (zaw (i := 0) (of_decide_eq_true rfl) rfl (Or.inl rfl)) (za3 (zaw (i := 1) (of_decide_eq_true rfl) rfl (Or.inl rfl)) zce)))) (fun _ _ _ _ _ => zfe) (fun _ _ _ _ _ => (pv 0))) (by with_unfolding_all rfl)) (zai zh0) za0)
   (zai (zpj (pv 0) (zeo (N' := ["pick", "k"]) (n := 1) (kp := [1]) rfl (piL (K := K) (zbl (pv 0) rfl)) rfl rfl rfl (fun _ _ _ _ _ => (zaw (i := 0) (of_decide_eq_true rfl) rfl (Or.inl rfl))) (fun _ _ _ _ _ => (zcl (zan zgz (zat (ixT (K := K)) (pv 0) zad (fun _ _ => rfl)) (pv 1) (zaq _)))) (fun _ _ _ _ _ => (pv 0))) rfl))), ?_⟩
 refine ⟨_, rfl, _, rfl, c, _, _, _, _, rfl, hc, T.C_Choice, T.n_Choice_picks, rfl, pl, rfl, ⟨_, SqL.of ae⟩, ?_⟩
 refine zcc (K := K) (a := pl) (xs := xs) (fun i ys σ H2 => (∃ v v', σ = [v, v']) ∧ H2 = H ∧ ys = zal ((ps.take i).map (·.1))) ⟨⟨none, none, rfl⟩, rfl, rfl⟩ (fun i ys σ H2 hi pv => ?_) (fun i ys σ H2 hi pv => ?_) (fun i x ys σ H2 hx pv => ?_) (fun ys σ H2 pv l1 ah => ?_)
 ·obtain ⟨_, _, rfl⟩ := pv
  rw [List.length_map, List.length_map, List.length_take]
  exact zar (by omega)
 ·rw [pv.2.1]
  exact SqL.of ae
 ·obtain ⟨⟨v, v', rfl⟩, rfl, rfl⟩ := pv
  obtain ⟨p, t, hp, rfl, ht⟩ := pk.get hx
  refine ⟨t, _, rfl, sqT ht, rfl, _, _, rfl, _, _, rfl, rfl, ?_⟩
  refine ⟨_, rfl, ⟨_, _, rfl⟩, rfl, ?_⟩
  rw [List.take_add_one, hp, Option.toList_some, List.map_append, zif]
  rfl
 obtain ⟨_, rfl, rfl⟩ := pv
 rw [← lx, List.take_length]
 have s1 := zaf ah (.lst (zal (ps.map (·.1))))
 have g1 : L2.upd H2 l1 (.lst (zal (ps.map (·.1)))) l1 = some (.lst (zal (ps.map (·.1)))) := zac
 generalize L2.upd H2 l1 (.lst (zal (ps.map (·.1)))) = H1 at s1 g1 ⊢
 refine ⟨l1, _, rfl, .inl (SqL.of g1), rfl, zbu _, _, rfl, ?_⟩
 refine zj5 (show (!inV (.int (k : Int)) (zal (ps.map (·.1)))) = false by rw [zeg, decide_eq_true km]; rfl) ?_
 have ai : H1 c = some (.ins a.x_Choice dx (chF wd pl)) := s1 _ _ hc
 have ac : H1 pl = some (.lst xs) := s1 _ _ ae
 refine ⟨_, rfl, c, _, _, _, _, rfl, ai, T.C_Choice, T.n_Choice_picks, rfl, pl, rfl, ⟨_, SqL.of ac⟩, ?_⟩
 refine zcc (K := K) (a := pl) (xs := xs) (fun i ys σ H2 => (∃ v, σ = [v, some (.int (k : Int))]) ∧ H2 = H1 ∧ ys.length ≤ i ∧ PickL H1 (woP (ps.take i) k) ys) ⟨⟨none, rfl⟩, rfl, Nat.le_refl _, rfl⟩ (fun i ys σ H2 hi pv => ?_) (fun i ys σ H2 hi pv => ?_) (fun i x ys σ H2 hx pv => ?_) (fun ys σ H2 pv l2 af => ?_)
 ·exact zar (by have := pv.2.2.1; omega)
 ·rw [pv.2.1]
  exact SqL.of ac
 ·obtain ⟨⟨v, rfl⟩, rfl, h1, h2⟩ := pv
  obtain ⟨p, t, hp, rfl, ht⟩ := (pk.same (Same.tup s1)).get hx
  have et : woP (ps.take (i + 1)) k = woP (ps.take i) k ++ (if p.1 = k then [] else [p]) := by
   unfold woP
   rw [List.take_add_one, hp, Option.toList_some, List.filter_append]
   by_cases z : p.1 = k <;> simp [z]
  refine ⟨_, rfl, t, _, _, _, rfl, rfl, sqT ht, at0, _, rfl, rfl, _, rfl, ?_⟩
  by_cases z : p.1 = k
  ·refine zcq (by rw [z]) ?_
   refine ⟨⟨_, rfl⟩, rfl, by omega, ?_⟩
   rw [et, if_pos z, List.append_nil]
   exact h2
  ·refine zkj ?_ ?_
   ·rw [Bool.not_eq_true', decide_eq_false_iff_not]
    intro y
    injection y with y
    omega
   ·refine ⟨_, rfl, ⟨_, rfl⟩, rfl, by rw [List.length_append, List.length_singleton]; omega, ?_⟩
    rw [et, if_neg z]
    exact PickL.snoc (p := p) ht h2
 ·obtain ⟨_, rfl, _, h2⟩ := pv
  rw [← lx, List.take_length] at h2
  have s2 := zaf af (.lst ys)
  have g2 : L2.upd H2 l2 (.lst ys) l2 = some (.lst ys) := zac
  have ag := h2.same (Same.tup s2)
  generalize L2.upd H2 l2 (.lst ys) = H3 at s2 g2 ag ⊢
  have ad := s1.trans s2
  have aa : H3 c = some (.ins a.x_Choice dx (chF wd pl)) := ad _ _ hc
  refine ⟨_, rfl, c, _, _, _, rfl, aa, T.C_Choice, T.n_Choice_picks, (by show 2 < 1000; decide), ?_⟩
  have n2 : l2 ≠ c := fun z => by rw [z, aa] at g2; cases g2
  have tp := zed (o' := .ins a.x_Choice dx (chF wd l2)) aa (fun _ z => nomatch z)
  refine q l2 _ (zav (Same.tup ad) tp) (ze3 (znd ad) (zkt aa (fun _ z => nomatch z))) (ze0 (zkv ad) (zgq aa)) (s1.free af) zac ⟨⟨ys, ?_, ag.same tp⟩, Nat.le_trans (List.length_filter_le _ _) few, fun x hx => PA.le x (List.mem_filter.mp hx).1⟩
  rw [zak n2]
  exact g2
theorem zf5 (T : Txt K mg a d) : FnOk P w K mg base (CXR P w) 1 a.f_Choice_take_back d.f_Choice_take_back ["self", "k"] (zvc a.x_Choice a.x_NoOffer) := by
 refine T.K_Choice_take_back.okR zdo (fun vs H Q E h => ?_) (fun cdv A outer s H vs Q E hr h => ?_)
 ·obtain ⟨c, dx, wd, pl, ps, k, rfl, _⟩ := h
  rfl
 obtain ⟨c, dx, wd, pl, ps, k, rfl, hc, PA, km, hE⟩ := h
 obtain ⟨xs, aa, pk⟩ := PA.ex
 have lx := pk.length
 have few := PA.few
 have rest : PSs (zb3 (CXR P w) P w K mg base ["self", "k"] "Choice.take_back" (zah za7) a.f_Choice_take_back cdv A outer s H E) ((za2 za7).drop 1) (fun _ _ _ => False) := fun _ _ _ _ _ _ h => h.elim
 refine ⟨_, (zae (za4 (zan zby (pv 1) (zeo (N' := ["option", "value"]) (n := 2) (kp := []) rfl (piL (K := K) (zbl (pv 0) rfl)) rfl rfl rfl (fun _ _ _ _ _ => (pgT (K := K) (n := 2) rfl (za3 (zaw (i := 0) (of_decide_eq_true rfl) rfl (Or.inl rfl)) (za3 (zaw (i := 1) (of_decide_eq_true rfl) rfl (Or.inl rfl)) zce)))) (fun _ _ _ _ _ => zfe) (fun _ _ _ _ _ => (pv 0))) (by with_unfolding_all rfl)) (zai (zkz rfl rfl T.g_NoOffer T.x_NoOffer.cl (zaa zbe zab) (fun _ _ _ _ _ _ _ I hx hW => zni I hx hW))) za0)
   rest), ?_⟩
 refine ⟨_, rfl, _, rfl, c, _, _, _, _, rfl, hc, T.C_Choice, T.n_Choice_picks, rfl, pl, rfl, ⟨_, SqL.of aa⟩, ?_⟩
 refine zcc (K := K) (a := pl) (xs := xs) (fun i ys σ H2 => (∃ v v', σ = [v, v']) ∧ H2 = H ∧ ys = zal ((ps.take i).map (·.1))) ⟨⟨none, none, rfl⟩, rfl, rfl⟩ (fun i ys σ H2 hi pv => ?_) (fun i ys σ H2 hi pv => ?_) (fun i x ys σ H2 hx pv => ?_) (fun ys σ H2 pv l1 ac => ?_)
 ·obtain ⟨_, _, rfl⟩ := pv
  rw [List.length_map, List.length_map, List.length_take]
  exact zar (by omega)
 ·rw [pv.2.1]
  exact SqL.of aa
 ·obtain ⟨⟨v, v', rfl⟩, rfl, rfl⟩ := pv
  obtain ⟨p, t, hp, rfl, ht⟩ := pk.get hx
  refine ⟨t, _, rfl, sqT ht, rfl, _, _, rfl, _, _, rfl, rfl, ?_⟩
  refine ⟨_, rfl, ⟨_, _, rfl⟩, rfl, ?_⟩
  rw [List.take_add_one, hp, Option.toList_some, List.map_append, zif]
  rfl
 obtain ⟨_, rfl, rfl⟩ := pv
 rw [← lx, List.take_length]
 have s1 := zaf ac (.lst (zal (ps.map (·.1))))
 have g1 : L2.upd H2 l1 (.lst (zal (ps.map (·.1)))) l1 = some (.lst (zal (ps.map (·.1)))) := zac
 generalize L2.upd H2 l1 (.lst (zal (ps.map (·.1)))) = H1 at s1 g1 ⊢
 refine ⟨l1, _, rfl, .inl (SqL.of g1), rfl, zbu _, _, rfl, ?_⟩
 have ko : inV (.int k) (zal (ps.map (·.1))) = false := by
  rw [Bool.eq_false_iff]
  intro z
  obtain ⟨kn, e, hk⟩ := (zoh _ _).mp z
  exact km kn e hk
 refine zt4 (show (!inV (.int k) (zal (ps.map (·.1)))) = true by rw [ko]; rfl) ?_
 exact ⟨by show 1 ≤ 1000; decide, hE _ s1⟩
theorem zle (T : Txt K mg a d) : FnOk P w K mg base CX0 25 a.f_law_played d.f_law_played ["_law_state", "_law_choice", "_law_broken_here", "_law_many"] (zt3 K a.x_Choice) := by
 have aa := zdi (P := P) (w := w) (base := base) T
 have ag := zit (P := P) (w := w) (base := base) T
 have ad := zig (P := P) (w := w) (base := base) T
 have ac := zgu (P := P) (w := w) (base := base) T
 refine T.K_law_played.ok sc_law_played (fun vs H Q E h => ?_) (fun cdv A outer s H vs Q E hr h => ?_)
 ·obtain ⟨pen, sp, ns, k, c, dx, wd, pl, lb, m, ts, rfl, _⟩ := h
  rfl
 obtain ⟨pen, sp, ns, k, c, dx, wd, ai, lb, m, ts, rfl, aP, aG, k0, k9, hc, bE, bJ, bH, aZ, bd, m1, m9, bi, q⟩ := h
 have bu : (2 : Int) ^ 62 = 4611686018427387904 := by decide
 have pw : 2 ^ m ≤ 512 := ztk m9
 have bf : c ≠ pen := fun z => by rw [z, aG] at hc; cases hc
 have bh : lb ≠ c := fun z => by rw [z, hc] at aZ; cases aZ
 have bL : lb ∉ [pen, c, ai] := zsj bd bh bJ
 have aF : ∃ t, PSs (zb3 CX0 P w K mg base ["_law_state", "_law_choice", "_law_broken_here", "_law_many", "_law_chosen", "_law_turn", "_law_k", "_law_value", "_law_left"] "_law_played" (zah zcd) a.f_law_played cdv A outer s H E).nox ((zdt (za2 zcd) 1).drop 4) t ∧ ∀ (D : zgt) (kn : Nat) (b : Bool) (kd : Int) (pl lc : Addr) (ps : List (Nat × Bool)) (v5 v8 : Option V) (H2 : Hp), KeepA [pen, c, ai] H H2 → zc7 H H2 → H2 pen = some (.lst [.ref sp, .int kd]) → 0 ≤ kd → kd ≤ 990000 → H2 c = some (.ins a.x_Choice dx (chF wd pl)) → PicksAt H2 pl ps → PicksAt H2 lc ps → lc ≠ pl → (pl = ai ∨ H pl = none) → H lc = none → PickOk m ps → (∃ s, s < 2 ^ m ∧ InS (zaj ps) (zau ps) s ∧ zbg ts s = true) → kn ∉ ps.map (·.1) → kn < m →
   (∀ (pl lc : Addr) (ps : List (Nat × Bool)) (v7 : Option V) (k' : Int) (H2 : Hp), KeepA [pen, c, ai] H H2 → zc7 H H2 → H2 pen = some (.lst [.ref sp, .int k']) → kd ≤ k' → k' ≤ kd + 1 → H2 c = some (.ins a.x_Choice dx (chF wd pl)) → PicksAt H2 pl ps → PicksAt H2 lc ps → lc ≠ pl → (pl = ai ∨ H pl = none) → H lc = none → PickOk m ps → (∃ s, s < 2 ^ m ∧ InS (zaj ps) (zau ps) s ∧ zbg ts s = true) → D.nx [some (.ref pen), some (.ref c), some (.ref lb), some (.int (m : Int)), some (.ref lc), v5, some (.int (kn : Int)), v7, v8] H2) →
   t D [some (.ref pen), some (.ref c), some (.ref lb), some (.int (m : Int)), some (.ref lc), v5, some (.int (kn : Int)), some (.bl b), v8] H2 := by
  refine ⟨_, (zai (za4 (PW.pt (zgc (zan ziq (pv 6) zad (zaq _)) (zfg (zan ziq (zag aa hr.lv rfl T.K_law_take (zaa (pv 0) (zaa zad zab))) zad (zaq _))))) (zae (za4 (zan (zhg hr.units) (zag ag hr.lv rfl T.K_law_sets (zaa (pv 2) (zaa (znu zkn zad) (zaa (zax zea (pv 4) (za8 (zaa (zbb (zaa (pv 6) (zaa (pv 7) zab))) zab))) zab)))) (za8 zab) (zaq _)) (zai (zao (i := 7) sc_law_played.nd rfl (Or.inl rfl) (zjl (pv 7)))) za0)
   (zae (zca (zdb (pv 1) T.C_Choice T.g_Choice_choose ad hr.lv T.K_Choice_choose.B .nil zg3 (zaa (pv 6) (zaa (pv 7) zab))))
   (zai (zca (zeu (K := K) PySem.F.plainAttrs_list PySem.F.slot_list_append PySem.F.type_list_append zcr (pv 4) (zaa (zbb (zaa (pv 6) (zaa (pv 7) zab))) zab)))))) za0)), ?_⟩
  intro D kn b kd pl lc ps v5 v8 H2 aH t2 ap b9 cp aO aD aI ah aj ak ok wr bM bN nx
  have p9 := ok.len
  refine ⟨_, rfl, _, _, rfl, rfl, _, rfl, ?_⟩
  refine zci (fun c1 => ?_) (fun c1 => ?_)
  rotate_left
  ·refine zd1 ?_
   exact nx pl lc ps _ kd H2 aH t2 ap (by omega) (by omega) aO aD aI ah aj ak ok wr
  refine ⟨_, rfl, pen, sp, ns, 4, kd, rfl, aP _ _ aH ap, by omega, by omega, by decide, fun w3 cj cq => ?_⟩
  have x3 := za1 (pen := pen) (H := H2) (.lst [.ref sp, .int (kd + 1)])
  have g3 : L2.upd H2 pen (.lst [.ref sp, .int (kd + 1)]) pen = some (.lst [.ref sp, .int (kd + 1)]) := zac
  generalize L2.upd H2 pen (.lst [.ref sp, .int (kd + 1)]) = H3 at x3 g3 ⊢
  have aq := aH.pen x3 (.inl List.mem_cons_self) ap g3
  have t3 := zav t2 (SameX.tup ap x3)
  have ao := aD.x ap (za9 aD ap) x3
  have ar := aI.x ap (za9 aI ap) x3
  have aB : H3 c = some (.ins a.x_Choice dx (chF wd pl)) := x3 _ _ bf aO
  refine ⟨_, _, rfl, rfl, _, rfl, ?_⟩
  refine zci (fun c3 => ?_) (fun c3 => ?_)
  rotate_left
  ·exact nx pl lc ps _ (kd + 1) H3 aq t3 g3 (by omega) (by omega) aB ao ar ah aj ak ok wr
  obtain ⟨xs, bg, bv⟩ := ar.ex
  have lx := bv.length
  refine ⟨_, rfl, 1, rfl, _, rfl, _, rfl, _, rfl, zar (by show 2 ≤ 1000; decide), fun tk bY => ?_⟩
  have s4 := zaf bY (.tup [.int (kn : Int), .bl b])
  have g4 : L2.upd H3 tk (.tup [.int (kn : Int), .bl b]) tk = some (.tup [.int (kn : Int), .bl b]) := zac
  generalize L2.upd H3 tk (.tup [.int (kn : Int), .bl b]) = H4 at s4 g4 ⊢
  refine ⟨zar (by show 1 ≤ 1000; decide), fun lk bV => ?_⟩
  have bo := zaf bV (.lst [.ref tk])
  have s5 := s4.trans bo
  have g5 : L2.upd H4 lk (.lst [.ref tk]) lk = some (.lst [.ref tk]) := zac
  have bp := bo _ _ g4
  generalize L2.upd H4 lk (.lst [.ref tk]) = H5 at s5 g5 bp ⊢
  refine ⟨lc, lk, _, _, rfl, rfl, s5 _ _ bg, g5, zar (by rw [List.length_cons, List.length_nil]; omega), fun lf aM => ?_⟩
  have br := zaf aM (.lst (xs ++ [.ref tk]))
  have s6 := s5.trans br
  have g6 : L2.upd H5 lf (.lst (xs ++ [.ref tk])) lf = some (.lst (xs ++ [.ref tk])) := zac
  have aA := PickL.snoc (p := (kn, b)) (br _ _ bp) (bv.same (Same.tup s6))
  generalize L2.upd H5 lf (.lst (xs ++ [.ref tk])) = H6 at s6 g6 aA ⊢
  have aY : H6 lb = some (.lst (zal (brN m ts))) := (aq.same s6).lst bL aZ
  refine ⟨lb, lf, brN m ts, -1, ps ++ [(kn, b)], rfl, aY, by rw [zh6]; exact pw, ⟨⟨_, g6, aA⟩, by rw [List.length_append, List.length_singleton]; omega, fun x hx => ?_⟩, fun ls H7 s7 ce bQ => ?_⟩
  ·rcases List.mem_append.mp hx with z | z
   ·exact aD.le x z
   ·rw [List.mem_singleton.mp z]; show kn ≤ 20; omega
  refine ⟨zar (by show 0 ≤ 1000; decide), fun le bU => ?_⟩
  have bG := zaf bU (.lst [])
  have s8 := (s6.trans s7).trans bG
  have g8 : L2.upd H7 le (.lst []) le = some (.lst []) := zac
  have bA := bG _ _ bQ
  generalize L2.upd H7 le (.lst []) = H8 at s8 g8 bA ⊢
  refine ⟨ls, le, (zgx (brN m ts) (-1) (zaj (ps ++ [(kn, b)])) (zau (ps ++ [(kn, b)]))).map (fun k : Nat => (k : Int)), [], rfl, rfl, SqL.of (by rw [zqr]; exact bA), SqL.of g8, _, rfl, ?_⟩
  have bz := aq.same s8
  have t8 := zav t3 (Same.tup s8)
  have aL := ao.same s8
  have aK := ar.same s8
  have az : H8 c = some (.ins a.x_Choice dx (chF wd pl)) := s8 _ _ aB
  have aC := s8 _ _ g3
  have b7 : (0 : Int) < (kn : Int) := of_decide_eq_true c1
  have bR : 1 ≤ kn := by omega
  have ho : kn ∈ zas m (zaj ps) (zau ps) := mem_openP.mpr ⟨bN, bR, bM⟩
  by_cases e : zgx (brN m ts) (-1) (zaj (ps ++ [(kn, b)])) (zau (ps ++ [(kn, b)])) = []
  ·refine zfr (by rw [e]; rfl) ?_
   have L := zpu wr (sets_lead.mp e)
   refine ⟨_, rfl, _, rfl, ?_⟩
   generalize (!b) = b' at L ⊢
   have aJ := leadP_iff.mp L
   refine ⟨_, rfl, c, _, _, rfl, az, rfl, _, rfl, _, rfl, c, dx, wd, pl, m, ts, ps, kn, b', rfl, az, aL, bH _ t8, m9, m1, by omega, by omega, ho, (ok.snoc ho).stand m1, aJ, fun H9 t9 aw au av => ?_⟩
   obtain ⟨ys, ae, aE⟩ := (aK.ch ah t9 aw).ex
   have ly := aE.length
   refine ⟨_, rfl, .inl ⟨rfl, _, SqL.of ae⟩, _, rfl, _, rfl, zar (by show 2 ≤ 1000; decide), fun tq bc => ?_⟩
   have sA := zaf bc (.tup [.int (kn : Int), .bl b'])
   have gA : L2.upd H9 tq (.tup [.int (kn : Int), .bl b']) tq = some (.tup [.int (kn : Int), .bl b']) := zac
   generalize L2.upd H9 tq (.tup [.int (kn : Int), .bl b']) = HA at sA gA ⊢
   have af : HA lc = some (.lst ys) := sA _ _ ae
   refine ⟨lc, _, _, rfl, rfl, af, zbd (by omega), ?_⟩
   have tB := zed (o' := .lst (ys ++ [.ref tq])) af (fun _ z => nomatch z)
   have cB : ChS lc HA (L2.upd HA lc (.lst (ys ++ [.ref tq]))) := zgq af
   have gB : L2.upd HA lc (.lst (ys ++ [.ref tq])) lc = some (.lst (ys ++ [.ref tq])) := zac
   generalize L2.upd HA lc (.lst (ys ++ [.ref tq])) = HB at tB cB gB ⊢
   have aX := PickL.snoc (p := (kn, b')) (tB _ _ gA) ((aE.same (Same.tup sA)).same tB)
   have aT : pen ≠ pl := Ne.symm (za9 aL aC)
   have aU : pen ≠ lc := Ne.symm (za9 aK aC)
   have ba := ((bz.ch aw (aj.imp (fun z => by rw [z]; simp) id)).same sA).ch cB (.inr ak)
   have bj : c ≠ lc := fun z => by rw [z, ae] at au; cases au
   exact nx pl lc (ps ++ [(kn, b')]) _ (kd + 1) HB ba (zav t8 (zav t9 (zav (Same.tup sA) tB))) (cB.lst aU (sA _ _ (aw.lst aT aC))) (by omega) (by omega) (cB.ins bj (sA _ _ au)) ((av.same sA).ch (Ne.symm ah) tB cB) ⟨⟨_, gB, aX⟩, av.few, av.le⟩ ah aj ak (ok.snoc ho) aJ
  ·refine zbs (fun z => e (by simpa using z)) ?_
   have L : zc0 ts m (zaj (ps ++ [(kn, b)])) (zau (ps ++ [(kn, b)])) = true := by
    rw [← Bool.not_eq_false]
    exact fun z => e (sets_lead.mpr z)
   have aJ := leadP_iff.mp L
   refine ⟨_, rfl, c, _, _, rfl, az, rfl, _, rfl, _, rfl, c, dx, wd, pl, m, ts, ps, kn, b, rfl, az, aL, bH _ t8, m9, m1, by omega, by omega, ho, (ok.snoc ho).stand m1, aJ, fun H9 t9 aw au av => ?_⟩
   obtain ⟨ys, ae, aE⟩ := (aK.ch ah t9 aw).ex
   have ly := aE.length
   refine ⟨_, rfl, .inl ⟨rfl, _, SqL.of ae⟩, _, rfl, _, rfl, zar (by show 2 ≤ 1000; decide), fun tq bc => ?_⟩
   have sA := zaf bc (.tup [.int (kn : Int), .bl b])
   have gA : L2.upd H9 tq (.tup [.int (kn : Int), .bl b]) tq = some (.tup [.int (kn : Int), .bl b]) := zac
   generalize L2.upd H9 tq (.tup [.int (kn : Int), .bl b]) = HA at sA gA ⊢
   have af : HA lc = some (.lst ys) := sA _ _ ae
   refine ⟨lc, _, _, rfl, rfl, af, zbd (by omega), ?_⟩
   have tB := zed (o' := .lst (ys ++ [.ref tq])) af (fun _ z => nomatch z)
   have cB : ChS lc HA (L2.upd HA lc (.lst (ys ++ [.ref tq]))) := zgq af
   have gB : L2.upd HA lc (.lst (ys ++ [.ref tq])) lc = some (.lst (ys ++ [.ref tq])) := zac
   generalize L2.upd HA lc (.lst (ys ++ [.ref tq])) = HB at tB cB gB ⊢
   have aX := PickL.snoc (p := (kn, b)) (tB _ _ gA) ((aE.same (Same.tup sA)).same tB)
   have aT : pen ≠ pl := Ne.symm (za9 aL aC)
   have aU : pen ≠ lc := Ne.symm (za9 aK aC)
   have ba := ((bz.ch aw (aj.imp (fun z => by rw [z]; simp) id)).same sA).ch cB (.inr ak)
   have bj : c ≠ lc := fun z => by rw [z, ae] at au; cases au
   exact nx pl lc (ps ++ [(kn, b)]) _ (kd + 1) HB ba (zav t8 (zav t9 (zav (Same.tup sA) tB))) (cB.lst aU (sA _ _ (aw.lst aT aC))) (by omega) (by omega) (cB.ins bj (sA _ _ au)) ((av.same sA).ch (Ne.symm ah) tB cB) ⟨⟨_, gB, aX⟩, av.few, av.le⟩ ah aj ak (ok.snoc ho) aJ
 obtain ⟨tA, hA, rA⟩ := aF
 refine ⟨_, (zae (zao (i := 4) sc_law_played.nd rfl (Or.inl rfl) (za8 zab))
   (zae (zch PassesOwn.never rfl (zcs rfl T.m_range (zaa (zag aa hr.lv rfl T.K_law_take (zaa (pv 0) (zaa (zax zbx (pv 3) zad) zab))) zab)) (zaw (i := 5) sc_law_played.nd rfl (Or.inl rfl)) (zae (zao (i := 6) sc_law_played.nd rfl (Or.inr rfl) (zag aa hr.lv rfl T.K_law_take (zaa (pv 0) (zaa (pv 3) zab))))
   (zae (zao (i := 7) sc_law_played.nd rfl (Or.inl rfl) (zbc zbq (zag aa hr.lv rfl T.K_law_take (zaa (pv 0) (zaa zad zab))) zad (zaq _)))
   (zae (zf6 (i := 8) sc_law_played.nd rfl rfl rfl (N' := ["_law_one", "_law_k"]) (n := 1) (kp := [6]) rfl (piL (K := K) (pv 4)) rfl rfl rfl (fun _ _ _ _ _ => (zaw (i := 0) (of_decide_eq_true rfl) rfl (Or.inl rfl))) (fun _ _ _ _ _ => (zcl (zan zgz (zat (ixT (K := K)) (pv 0) zad (fun _ _ => rfl)) (pv 1) (zaq _)))) (fun _ _ _ _ _ => (pv 0)))
   (zae (za4 (zan zki (zaz (zdw (K := K)) rfl T.m_len PySem.boot_len (zaa (pv 8) zab)) (zaz (zdw (K := K)) rfl T.m_len PySem.boot_len (zaa (pv 4) zab)) (zaq _)) (zae (zca (zdb (pv 1) T.C_Choice T.g_Choice_take_back ac hr.lv T.K_Choice_take_back.B .nil zg3 (zaa (pv 6) zab)))
   (zai (zao (i := 4) sc_law_played.nd rfl (Or.inl rfl) (pv 8)))) za0)
   hA)))))
   (zai (zap (pv 4))))), ?_⟩
 refine ⟨zar (by show 0 ≤ 1000; decide), fun ax al => ?_⟩
 have s1 := zaf al (.lst [])
 have g1 : L2.upd H ax (.lst []) ax = some (.lst []) := zac
 generalize L2.upd H ax (.lst []) = H1 at s1 g1 ⊢
 have ay : H1 pen = some (.lst [.ref sp, .int k]) := s1 _ _ aG
 refine ⟨_, rfl, _, rfl, _, _, rfl, rfl, pen, sp, ns, ((m : Int) + 4), k, rfl, aP _ _ ((KeepA.refl _ H).same s1) ay, by omega, by omega, by omega, fun w1 cm cr => ?_⟩
 have x2 := za1 (pen := pen) (H := H1) (.lst [.ref sp, .int (k + 1)])
 have g2 : L2.upd H1 pen (.lst [.ref sp, .int (k + 1)]) pen = some (.lst [.ref sp, .int (k + 1)]) := zac
 generalize L2.upd H1 pen (.lst [.ref sp, .int (k + 1)]) = H2 at x2 g2 ⊢
 have aH := ((KeepA.refl [pen, c, ai] H).same s1).pen x2 (.inl List.mem_cons_self) ay g2
 have t2 := zav (Same.tup s1) (SameX.tup ay x2)
 have aO : H2 c = some (.ins a.x_Choice dx (chF wd ai)) := x2 _ _ bf (s1 _ _ hc)
 have bq := bE.same s1
 have aD := bq.x ay (za9 bq ay) x2
 have aI : PicksAt H2 ax [] := (show PicksAt H1 ax [] from ⟨⟨[], g1, rfl⟩, by decide, fun _ z => nomatch z⟩).x ay (fun z => by rw [z, ay] at g1; cases g1) x2
 have aR : ax ≠ ai := fun z => by
  obtain ⟨xs, h1, _⟩ := bE.ex
  rw [z, h1] at al
  cases al
 refine ⟨_, rfl, by rw [bu]; omega, by rw [bu]; omega, ?_⟩
 refine zd9 (n := w1.toNat) (fun i σ H8 => ∃ (pl lc : Addr) (ps : List (Nat × Bool)) (k8 : Int) (v5 v6 v7 v8 : Option V), σ = [some (.ref pen), some (.ref c), some (.ref lb), some (.int (m : Int)), some (.ref lc), v5, v6, v7, v8] ∧ KeepA [pen, c, ai] H H8 ∧ zc7 H H8 ∧ H8 pen = some (.lst [.ref sp, .int k8]) ∧ k ≤ k8 ∧ k8 ≤ k + 1 + 3 * i ∧ H8 c = some (.ins a.x_Choice dx (chF wd pl)) ∧ PicksAt H8 pl ps ∧ PicksAt H8 lc ps ∧ lc ≠ pl ∧ (pl = ai ∨ H pl = none) ∧ H lc = none ∧ PickOk m ps ∧ (∃ s, s < 2 ^ m ∧ InS (zaj ps) (zau ps) s ∧ zbg ts s = true)) ⟨ai, ax, [], k + 1, none, none, none, none, rfl, aH, t2, g2, by omega, by omega, aO, aD, aI, aR, .inl rfl, al, PickOk.nil m, bi⟩ ?_ ?_
 ·rintro i σ H3 hi ⟨pl, lc, ps, k8, v5, v6, v7, v8, rfl, aq, t3, am, bB, bP, aB, ao, ar, ah, aj, ak, ok, wr⟩
  have p9 := ok.len
  refine ⟨_, rfl, _, rfl, pen, sp, ns, (m : Int), k8, rfl, aP _ _ aq am, by omega, by omega, by omega, fun wk bZ cn => ?_⟩
  have x4 := za1 (pen := pen) (H := H3) (.lst [.ref sp, .int (k8 + 1)])
  have g4 : L2.upd H3 pen (.lst [.ref sp, .int (k8 + 1)]) pen = some (.lst [.ref sp, .int (k8 + 1)]) := zac
  generalize L2.upd H3 pen (.lst [.ref sp, .int (k8 + 1)]) = H4 at x4 g4 ⊢
  have bF := aq.pen x4 (.inl List.mem_cons_self) am g4
  refine ⟨_, rfl, pen, sp, ns, 2, k8 + 1, rfl, aP _ _ bF g4, by omega, by omega, by decide, fun wv cg cu => ?_⟩
  have x5 := za1 (pen := pen) (H := H4) (.lst [.ref sp, .int (k8 + 1 + 1)])
  have g5 : L2.upd H4 pen (.lst [.ref sp, .int (k8 + 1 + 1)]) pen = some (.lst [.ref sp, .int (k8 + 1 + 1)]) := zac
  generalize L2.upd H4 pen (.lst [.ref sp, .int (k8 + 1 + 1)]) = H5 at x5 g5 ⊢
  have bx := bF.pen x5 (.inl List.mem_cons_self) g4 g5
  have aQ := x4.trans x5
  have t5 := zav t3 (SameX.tup am aQ)
  have bK := ao.x am (za9 ao am) aQ
  have bt := ar.x am (za9 ar am) aQ
  have bX : H5 c = some (.ins a.x_Choice dx (chF wd pl)) := aQ _ _ bf aB
  obtain ⟨kn, rfl⟩ : ∃ kn : Nat, wk = (kn : Int) := ⟨wk.toNat, by omega⟩
  obtain ⟨b, hb⟩ : ∃ b, b = decide (V.int wv = V.int 1) := ⟨_, rfl⟩
  refine ⟨rfl, ?_⟩
  rw [← hb]
  obtain ⟨xs, aS, pk⟩ := bt.ex
  have lx := pk.length
  refine ⟨_, rfl, lc, rfl, ⟨_, SqL.of aS⟩, ?_⟩
  refine zcc (K := K) (a := lc) (xs := xs) (fun i ys σ H6 => (∃ v, σ = [v, some (.int (kn : Int))]) ∧ H6 = H5 ∧ ys.length ≤ i ∧ PickL H5 (woP (ps.take i) kn) ys) ⟨⟨none, rfl⟩, rfl, Nat.le_refl _, rfl⟩ (fun i ys σ H6 hi pv => ?_) (fun i ys σ H6 hi pv => ?_) (fun i x ys σ H6 hx pv => ?_) (fun ys σ H6 pv lf aM => ?_)
  ·exact zar (by have := pv.2.2.1; omega)
  ·rw [pv.2.1]
   exact SqL.of aS
  ·obtain ⟨⟨v, rfl⟩, rfl, h1, h2⟩ := pv
   obtain ⟨p, t, hp, rfl, ht⟩ := pk.get hx
   have et : woP (ps.take (i + 1)) kn = woP (ps.take i) kn ++ (if p.1 = kn then [] else [p]) := by
    unfold woP
    rw [List.take_add_one, hp, Option.toList_some, List.filter_append]
    by_cases z : p.1 = kn <;> simp [z]
   refine ⟨_, rfl, t, _, _, _, rfl, rfl, sqT ht, at0, _, rfl, rfl, _, rfl, ?_⟩
   by_cases z : p.1 = kn
   ·refine zcq (by rw [z]) ?_
    refine ⟨⟨_, rfl⟩, rfl, by omega, ?_⟩
    rw [et, if_pos z, List.append_nil]
    exact h2
   ·refine zkj ?_ ?_
    ·rw [Bool.not_eq_true', decide_eq_false_iff_not]
     intro y
     injection y with y
     exact z (by omega)
    ·refine ⟨_, rfl, ⟨_, rfl⟩, rfl, by rw [List.length_append, List.length_singleton]; omega, ?_⟩
     rw [et, if_neg z]
     exact PickL.snoc (p := p) ht h2
  obtain ⟨_, rfl, _, h2⟩ := pv
  rw [← lx, List.take_length] at h2
  have s6 := zaf aM (.lst ys)
  have g6 : L2.upd H6 lf (.lst ys) lf = some (.lst ys) := zac
  have aA := h2.same (Same.tup s6)
  have ly := aA.length
  generalize L2.upd H6 lf (.lst ys) = H7 at s6 g6 aA ⊢
  have bb : H7 lc = some (.lst xs) := s6 _ _ aS
  have aV := bx.same s6
  have t7 := zav t5 (Same.tup s6)
  have bw := bK.same s6
  have bT := bt.same s6
  have aW : H7 c = some (.ins a.x_Choice dx (chF wd pl)) := s6 _ _ bX
  have bO : H lf = none := bx.dom _ aM
  refine ⟨_, rfl, lf, _, rfl, .inl (SqL.of g6), _, rfl, lc, _, rfl, .inl (SqL.of bb), _, _, rfl, rfl, _, rfl, ?_⟩
  have few := ao.few
  by_cases aN : kn ∈ ps.map (·.1)
  ·have bI := zsf aN
   refine zkj (decide_eq_true (by omega)) ?_
   refine ⟨_, rfl, c, _, _, rfl, aW, rfl, _, rfl, c, dx, wd, pl, ps, kn, rfl, aW, bw, aN, fun bS H8 t8 l8 bW n8 az P8 => ?_⟩
   have be : H8 lf = some (.lst ys) := l8 _ _ g6
   refine ⟨_, rfl, ?_⟩
   refine rA _ kn b (k8 + 1 + 1) bS lf (woP ps kn) _ _ H8 (aV.ch bW (.inl (by simp))) (zav t7 t8) (l8 _ _ (s6 _ _ g5)) (by omega) (by omega) az P8 ⟨⟨ys, be, aA.same t8⟩, P8.few, P8.le⟩ (fun z => by rw [← z, g6] at n8; cases n8) (.inr (aV.dom _ n8)) bO ok.wo ?_ (zvg ps kn) (by omega) ?_
   ·obtain ⟨sw, h1, h2, h3⟩ := wr
    exact ⟨sw, h1, zxb h2, h3⟩
   ·intro pl lc ps v7 k' H9 A1 A2 A3 A4 A5 A6 A7 A8 A9 B1 B2 B3 B4
    exact ⟨pl, lc, ps, k', _, _, _, _, rfl, A1, A2, A3, by omega, by omega, A6, A7, A8, A9, B1, B2, B3, B4⟩
  ·have e := zss (ps := ps) (k := (kn : Int)) fun j h => by rw [← Int.ofNat.inj h]; exact aN
   rw [zun] at e
   rw [e] at ly
   refine zbs (fun z => by omega) ?_
   refine rA _ kn b (k8 + 1 + 1) pl lc ps _ _ H7 aV t7 (s6 _ _ g5) (by omega) (by omega) aW bw bT ah aj ak ok wr aN (by omega) ?_
   intro pl lc ps v7 k' H9 A1 A2 A3 A4 A5 A6 A7 A8 A9 B1 B2 B3 B4
   exact ⟨pl, lc, ps, k', _, _, _, _, rfl, A1, A2, A3, by omega, by omega, A6, A7, A8, A9, B1, B2, B3, B4⟩
 ·rintro σ H3 ⟨pl, lc, ps, k8, v5, v6, v7, v8, rfl, aq, t3, am, bB, bP, aB, ao, ar, ah, aj, ak, ok, wr⟩
  exact ⟨_, rfl, q lc pl ps k8 H3 aq t3 am bB (by omega) aB ao ar ah aj ak ok wr⟩
theorem zfm (T : Txt K mg a d) (f : Nat) (G_law_closed : f ≠ 0 → FnOk P w K mg base CX0 (f + 1) a.f_law_closed d.f_law_closed ["_law_tree", "_law_ties", "_law_used"] (zka (f - 1))) : FnOk P w K mg base CX0 (f + 2) a.f_law_closed d.f_law_closed ["_law_tree", "_law_ties", "_law_used"] (zka f) := by
 refine T.K_law_closed.ok zk8 (fun vs H Q E h => ?_) (fun cdv A outer s H vs Q E hr h => ?_)
 ·obtain ⟨v, t, tl, ul, il, U, rfl, _⟩ := h
  rfl
 obtain ⟨v, t, tl, ul, il, U, rfl, hd, ac, f9, aa, ad, few, cl, q⟩ := h
 cases t with
 | ware => exact cl.elim
 | broken i =>
  have rest : PSs (zb3 CX0 P w K mg base ["_law_tree", "_law_ties", "_law_used"] "_law_closed" (zah zc2) a.f_law_closed cdv A outer s H E).nox ((za2 zc2).drop 1) (fun _ _ _ => False) := fun _ _ _ _ _ _ h => h.elim
  refine ⟨_, (zae (za4 (zan zbq (zat (ixT (K := K)) (pv 0) zad (fun _ _ => rfl)) zbe (zaq _)) (zai (zap (zdk (zbc zbq (zaz (zdw (K := K)) rfl T.m_len PySem.boot_len (zaa (pv 0) zab)) zad (zaq _)) (zd4 (zbc (inS (K := K)) (zat (ixT (K := K)) (pv 0) zad (fun _ _ => rfl)) (pv 1) (by with_unfolding_all rfl)))))) za0)
   rest), ?_⟩
  obtain ⟨p, rfl, hp⟩ := zrv hd
  refine ⟨_, rfl, p, _, _, _, rfl, rfl, sqT hp, at0, rfl, _, rfl, ?_⟩
  refine zfr rfl ?_
  refine ⟨_, rfl, p, _, rfl, .inr (sqT hp), rfl, _, rfl, ?_⟩
  refine zfr rfl ?_
  refine ⟨_, rfl, p, _, _, _, rfl, rfl, sqT hp, at1, _, rfl, tl, _, rfl, .inl (SqL.of aa), rfl, zbu _, ?_⟩
  have e : inV (.int (i : Int)) (zal il) = true := by rw [zeg]; exact decide_eq_true cl
  rw [e]
  exact q _ (Same.refl H)
 | split k ta tb =>
  have am : f ≠ 0 := fun z => by rw [z] at ac; simp [CT.depth] at ac
  have G_law_closed := G_law_closed am
  have ah : max ta.depth tb.depth + 1 ≤ f := ac
  refine ⟨_, (zae (za4 (zan zbq (zat (ixT (K := K)) (pv 0) zad (fun _ _ => rfl)) zbe (zaq _)) (zai (zap (zdk (zbc zbq (zaz (zdw (K := K)) rfl T.m_len PySem.boot_len (zaa (pv 0) zab)) zad (zaq _)) (zd4 (zbc (inS (K := K)) (zat (ixT (K := K)) (pv 0) zad (fun _ _ => rfl)) (pv 1) (by with_unfolding_all rfl)))))) za0)
   (zae (za4 (PW.pt (zg2 (zan zgz (zat (ixT (K := K)) (pv 0) zad (fun _ _ => rfl)) zbe (zaq _)) (zg2 (zan zgz (zaz (zdw (K := K)) rfl T.m_len PySem.boot_len (zaa (pv 0) zab)) zad (zaq _)) (zhf (zan (inS (K := K)) (zat (ixT (K := K)) (pv 0) zad (fun _ _ => rfl)) (pv 2) (by with_unfolding_all rfl)))))) (zai (zap ziy)) za0)
   (zai (zap (zdk (zag G_law_closed hr.lv rfl T.K_law_closed (zaa (zat (ixT (K := K)) (pv 0) zad (fun _ _ => rfl)) (zaa (pv 1) (zaa (zax zea (pv 2) (za8 (zaa (zat (ixT (K := K)) (pv 0) zad (fun _ _ => rfl)) zab))) zab)))) (zd4 (zag G_law_closed hr.lv rfl T.K_law_closed (zaa (zat (ixT (K := K)) (pv 0) zad (fun _ _ => rfl)) (zaa (pv 1) (zaa (zax zea (pv 2) (za8 (zaa (zat (ixT (K := K)) (pv 0) zad (fun _ _ => rfl)) zab))) zab)))))))))), ?_⟩
  obtain ⟨p, va, vb, rfl, hp, da, db⟩ := zs5 hd
  obtain ⟨kU, ca, cb⟩ := cl
  refine ⟨_, rfl, p, _, _, _, rfl, rfl, sqT hp, at0, rfl, _, rfl, ?_⟩
  refine zbs (fun z => znc z.symm) ?_
  refine ⟨_, rfl, p, _, _, _, rfl, rfl, sqT hp, at0, rfl, _, rfl, ?_⟩
  refine zcq rfl ?_
  refine ⟨_, rfl, p, _, rfl, .inr (sqT hp), rfl, _, rfl, ?_⟩
  refine zcq rfl ?_
  refine ⟨_, rfl, p, _, _, _, rfl, rfl, sqT hp, at1, _, rfl, ul, _, rfl, .inl (SqL.of ad), rfl, zbu _, _, rfl, ?_⟩
  refine zj5 (show inV (.int (k : Int)) (zal U) = false by rw [zeg]; exact decide_eq_false kU) ?_
  have af : ∀ (H1 : Hp) (l : Addr), H1 l = some (.lst [.int (k : Int)]) → zal U ++ [.int (k : Int)] = zal (U ++ [k]) := fun _ _ _ => by
   unfold zal
   rw [List.map_append]
   rfl
  refine ⟨_, rfl, p, _, _, _, rfl, rfl, sqT hp, at2, _, rfl, _, rfl, _, rfl, p, _, _, _, rfl, rfl, sqT hp, at1, zar (by show 1 ≤ 1000; decide), fun l1 aj => ?_⟩
  have s1 := zaf aj (.lst [.int (k : Int)])
  have g1 : L2.upd H l1 (.lst [.int (k : Int)]) l1 = some (.lst [.int (k : Int)]) := zac
  generalize L2.upd H l1 (.lst [.int (k : Int)]) = H1 at s1 g1 ⊢
  refine ⟨ul, l1, _, _, rfl, rfl, s1 _ _ ad, g1, zar (by rw [List.length_map, List.length_singleton]; omega), fun l2 ai => ?_⟩
  rw [af H1 l1 g1]
  have ag := zaf ai (.lst (zal (U ++ [k])))
  have g2 : L2.upd H1 l2 (.lst (zal (U ++ [k]))) l2 = some (.lst (zal (U ++ [k]))) := zac
  generalize L2.upd H1 l2 (.lst (zal (U ++ [k]))) = H2 at ag g2 ⊢
  have s2 := s1.trans ag
  refine ⟨va, ta, tl, l2, il, U ++ [k], rfl, Dn.same s2 _ _ da, by omega, by omega, s2 _ _ aa, g2, by rw [List.length_append, List.length_singleton]; omega, ca, fun H3 al => ?_⟩
  have s3 := s2.trans al
  refine ⟨_, rfl, ?_⟩
  refine zll ?_
  refine ⟨_, rfl, p, _, _, _, rfl, rfl, sqT (s3 _ _ hp), at3, _, rfl, _, rfl, _, rfl, p, _, _, _, rfl, rfl, sqT (s3 _ _ hp), at1, zar (by show 1 ≤ 1000; decide), fun l4 ap => ?_⟩
  have ao := zaf ap (.lst [.int (k : Int)])
  have s4 := s3.trans ao
  have g4 : L2.upd H3 l4 (.lst [.int (k : Int)]) l4 = some (.lst [.int (k : Int)]) := zac
  generalize L2.upd H3 l4 (.lst [.int (k : Int)]) = H4 at s4 g4 ⊢
  refine ⟨ul, l4, _, _, rfl, rfl, s4 _ _ ad, g4, zar (by rw [List.length_map, List.length_singleton]; omega), fun l5 ak => ?_⟩
  rw [af H4 l4 g4]
  have ae := zaf ak (.lst (zal (U ++ [k])))
  have g5 : L2.upd H4 l5 (.lst (zal (U ++ [k]))) l5 = some (.lst (zal (U ++ [k]))) := zac
  generalize L2.upd H4 l5 (.lst (zal (U ++ [k]))) = H5 at ae g5 ⊢
  have s5 := s4.trans ae
  exact ⟨vb, tb, tl, l5, il, U ++ [k], rfl, Dn.same s5 _ _ db, by omega, by omega, s5 _ _ aa, g5, by rw [List.length_append, List.length_singleton]; omega, cb, fun H6 s6 => q _ (s5.trans s6)⟩
theorem zg0 (T : Txt K mg a d) : ∀ f : Nat, FnOk P w K mg base CX0 (f + 2) a.f_law_closed d.f_law_closed ["_law_tree", "_law_ties", "_law_used"] (zka f)
 | 0 => zfm T 0 fun h => absurd rfl h
 | f + 1 => zfm T (f + 1) fun _ => zg0 T f
theorem zli (T : Txt K mg a d) (LB : zi7 mg base a.c_cases_of a.t_cases_of) : FnOk P w K mg base CX0 21 a.f_Choice_why d.f_Choice_why ["self", "k", "value"] (spT a.t_cases_of (zxx a.x_Choice)) := by
 have ad := zd5 (P := P) (w := w) (base := base) T
 have ac := zel (P := P) (w := w) (base := base) T
 have aa := zlf (P := P) (w := w) (base := base) T LB
 refine T.K_Choice_why.ok zgy (fun vs H Q E h => ?_) (fun cdv A outer s H vs Q E hr h => ?_)
 ·obtain ⟨_, c, dx, wd, pl, m, ts, ps, k, b, rfl, _⟩ := h
  rfl
 obtain ⟨tb, c, dx, wd, pl, m, ts, ps, k, b, rfl, hc, PA, W, m9, m1, ah, ok, ko, q⟩ := h
 have p9 := ok.len
 have km := mem_openP.mp ko
 obtain ⟨ai, ak, WA, _⟩ := W.ex
 refine ⟨_, (zae (za4 (zan zby (pv 1) (zag ad hr.lv rfl T.K_open_at (zaa (zbl (pv 0) rfl) (zaa (zbl (pv 0) rfl) zab))) (by with_unfolding_all rfl)) (zai zh0) za0)
   (zae (za4 (zbo (zag ac hr.lv rfl T.K_leads_on (zaa (zbl (pv 0) rfl) (zaa (zbl (pv 0) rfl) (zaa (zbb (zaa (pv 1) (zaa (pv 2) zab))) zab))))) (zai (zap zco)) za0)
   (zai (zap (zag aa hr.lv rfl T.K_why_barred (zaa (zbl (pv 0) rfl) (zaa (zbl (pv 0) rfl) (zaa (zbb (zaa (pv 1) (zaa (pv 2) zab))) zab)))))))), ?_⟩
 refine ⟨_, rfl, _, rfl, c, _, _, _, _, rfl, hc, T.C_Choice, T.n_Choice_wood, rfl, _, rfl, c, _, _, _, _, rfl, hc, T.C_Choice, T.n_Choice_picks, rfl, ?_⟩
 refine ⟨wd, pl, m, ai, ak, ps, rfl, WA, by omega, PA, fun l H1 s1 nl hl => ?_⟩
 refine ⟨l, _, rfl, .inl (SqL.of hl), rfl, zbu _, _, rfl, ?_⟩
 refine zj5 (show (!inV (.int (k : Int)) (zal (zas m (zaj ps) (zau ps)))) = false by rw [zeg, decide_eq_true ko]; rfl) ?_
 have af : H1 c = _ := s1 _ _ hc
 refine ⟨_, rfl, c, _, _, _, _, rfl, af, T.C_Choice, T.n_Choice_wood, rfl, _, rfl, c, _, _, _, _, rfl, af, T.C_Choice, T.n_Choice_picks, rfl, _, rfl, _, rfl, zar (by show 2 ≤ 1000; decide), fun tp am => ?_⟩
 have s2 := s1.trans (zaf am (.tup [.int (k : Int), .bl b]))
 have h2 : L2.upd H1 tp (.tup [.int (k : Int), .bl b]) tp = some (.tup [.int (k : Int), .bl b]) := zac
 generalize L2.upd H1 tp (.tup [.int (k : Int), .bl b]) = H2 at s2 h2 ⊢
 refine ⟨wd, pl, tp, m, ts, ps, (k, b), rfl, W.same s2, m9, m1, PA.same s2, by omega, by show k ≤ 20; omega, h2, (ok.snoc ko).stand m1, fun H3 o s3 ho => ?_⟩
 have e := zhc ho
 refine ⟨_, rfl, ?_⟩
 by_cases z : o.isSome = true
 ·rw [z] at e ⊢
  refine zll ?_
  exact q _ _ (s2.trans s3) (fun _ => rfl) (fun z => by rw [← e] at z; cases z)
 ·rw [Bool.eq_false_iff.mpr z] at e ⊢
  refine zd1 ?_
  have ag := s2.trans s3
  have ae : H3 c = _ := ag _ _ hc
  refine ⟨_, rfl, c, _, _, _, _, rfl, ae, T.C_Choice, T.n_Choice_wood, rfl, _, rfl, c, _, _, _, _, rfl, ae, T.C_Choice, T.n_Choice_picks, rfl, _, rfl, _, rfl, zar (by show 2 ≤ 1000; decide), fun tq al => ?_⟩
  have s4 := ag.trans (zaf al (.tup [.int (k : Int), .bl b]))
  have h4 : L2.upd H3 tq (.tup [.int (k : Int), .bl b]) tq = some (.tup [.int (k : Int), .bl b]) := zac
  generalize L2.upd H3 tq (.tup [.int (k : Int), .bl b]) = H4 at s4 h4 ⊢
  refine ⟨s4.tab tb, wd, pl, tq, m, ts, ps, (k, b), rfl, W.same s4, ah, m9, PA.same s4, by omega, ok.nd, h4, by show k ≤ 20; omega, fun v H5 aj sp s5 wy => ?_⟩
  exact q _ _ (s4.trans s5) (fun z => by rw [← e] at z; cases z) (fun _ => ⟨aj, sp, wy⟩)
theorem zef (T : Txt K mg a d) : FnOk P w K mg base (CXR P w) 21 a.f_Choice_why d.f_Choice_why ["self", "k", "value"] (zwo a.x_Choice a.x_NoOffer) := by
 have aa := zd5 (P := P) (w := w) (base := base) T
 refine T.K_Choice_why.okR zgy (fun vs H Q E h => ?_) (fun cdv A outer s H vs Q E hr h => ?_)
 ·obtain ⟨c, dx, wd, pl, m, ts, ps, k, b, rfl, _⟩ := h
  rfl
 obtain ⟨c, dx, wd, pl, m, ts, ps, k, b, rfl, hc, PA, W, m9, m1, ok, no, hE⟩ := h
 have p9 := ok.len
 obtain ⟨ad, ac, WA, _⟩ := W.ex
 have rest : PSs (zb3 (CXR P w) P w K mg base ["self", "k", "value"] "Choice.why" (zah zcw) a.f_Choice_why cdv A outer s H E) ((za2 zcw).drop 1) (fun _ _ _ => False) := fun _ _ _ _ _ _ h => h.elim
 refine ⟨_, (zae (za4 (zan zby (pv 1) (zag aa hr.lv rfl T.K_open_at (zaa (zbl (pv 0) rfl) (zaa (zbl (pv 0) rfl) zab))) (by with_unfolding_all rfl)) (zai (zkz rfl rfl T.g_NoOffer T.x_NoOffer.cl (zaa zbe zab) (fun _ _ _ _ _ _ _ I hx hW => zni I hx hW))) za0)
   rest), ?_⟩
 refine ⟨_, rfl, _, rfl, c, _, _, _, _, rfl, hc, T.C_Choice, T.n_Choice_wood, rfl, _, rfl, c, _, _, _, _, rfl, hc, T.C_Choice, T.n_Choice_picks, rfl, ?_⟩
 refine ⟨wd, pl, m, ad, ac, ps, rfl, WA, by omega, PA, fun l H1 s1 nl hl => ?_⟩
 refine ⟨l, _, rfl, .inl (SqL.of hl), rfl, zbu _, _, rfl, ?_⟩
 by_cases ko : inV (.int k) (zal (zas m (zaj ps) (zau ps))) = true
 ·obtain ⟨kn, e, hk⟩ := (zoh _ _).mp ko
  exact absurd hk (no kn e)
 ·refine zt4 (show (!inV (.int k) (zal (zas m (zaj ps) (zau ps)))) = true by rw [Bool.eq_false_iff.mpr ko]; rfl) ?_
  exact ⟨by show 1 ≤ 1000; decide, hE _ s1⟩
theorem zok (T : Txt K mg a d) (LB : zi7 mg base a.c_cases_of a.t_cases_of) : FnOk P w K mg base CX0 24 a.f_law_open d.f_law_open ["_law_choice", "_law_k", "_law_value", "_law_offers"] (spT a.t_cases_of (zu1 a.x_Choice)) := by
 have ac := zli (P := P) (w := w) (base := base) T LB
 have aa := zg0 (P := P) (w := w) (base := base) T 9
 refine T.K_law_open.ok sc_law_open (fun vs H Q E h => ?_) (fun cdv A outer s H vs Q E hr h => ?_)
 ·obtain ⟨_, c, dx, wd, pl, ol, m, ts, ps, k, b, os, rfl, _⟩ := h
  rfl
 obtain ⟨tb, c, dx, wd, pl, ol, m, ts, ps, k, b, os, rfl, hc, PA, W, aq, m9, m1, aQ, ok, ko, aF, aI, q⟩ := h
 have p9 := ok.len
 have km := mem_openP.mp ko
 refine ⟨_, (zae (zao (i := 4) sc_law_open.nd rfl (Or.inl rfl) (zdb (pv 0) T.C_Choice T.g_Choice_why ac hr.lv T.K_Choice_why.B .nil zg3 (zaa (pv 1) (zaa (pv 2) zab))))
   (zae (za4 (zan (zpv hr.units65) (zbb (zaa (pv 1) (zaa (pv 2) zab))) (pv 3) (by with_unfolding_all rfl)) (zai (zap (zbc znb (pv 4) zco (zaq _)))) za0)
   (zae (za4 (PW.pt (zg2 (zf2 (zbo (zaz (zyk (K := K)) rfl T.m_isinstance PyProof.Rows.boot_isinstance (zaa (pv 4) (zaa (zp6 (v := .ty "tuple") rfl T.m_tuple PyProof.Rows.boot_tuple rfl) zab))))) (zg2 (zan zgz (zaz (zdw (K := K)) rfl T.m_len PySem.boot_len (zaa (pv 4) zab)) zad (zaq _)) (zhf (zan zgz (zaz (zdw (K := K)) rfl T.m_len PySem.boot_len (zaa (zat (ixT (K := K)) (pv 4) zad (fun _ _ => rfl)) zab)) (zax zbx (zaz (zdw (K := K)) rfl T.m_len PySem.boot_len (zaa (zat (ixT (K := K)) (pv 4) zad (fun _ _ => rfl)) zab)) (zaz (zdw (K := K)) rfl T.m_len PySem.boot_len (zaa (zat (ixT (K := K)) (pv 4) zad (fun _ _ => rfl)) zab))) (zaq _)))))) (zai (zap ziy)) za0)
   (zai (zap (zdk (zbc (zpm hr.units) (zat (ixT (K := K)) (pv 4) zad (fun _ _ => rfl)) (za8 zab) (zaq _)) (zd4 (zag aa hr.lv rfl T.K_law_closed (zaa (zat (ixT (K := K)) (pv 4) zad (fun _ _ => rfl)) (zaa (zat (ixT (K := K)) (pv 4) zad (fun _ _ => rfl)) (zaa (zax zea (za8 (zaa zad (zaa (pv 1) zab))) (zeo (N' := ["_law_one"]) (n := 1) (kp := []) rfl (piL (K := K) (zat (ixT (K := K)) (pv 4) zad (fun _ _ => rfl))) rfl rfl rfl (fun _ _ _ _ _ => (zaw (i := 0) (of_decide_eq_true rfl) rfl (Or.inl rfl))) (fun _ _ _ _ _ => zfe) (fun _ _ _ _ _ => (zat (ixT (K := K)) (pv 0) zad (fun _ _ => rfl))))) zab))))))))))), ?_⟩
 refine ⟨_, rfl, c, _, _, rfl, hc, rfl, _, rfl, _, rfl, tb, c, dx, wd, pl, m, ts, ps, k, b, rfl, hc, PA, W, m9, m1, aQ, ok, ko, fun v H1 s1 vt vf => ?_⟩
 refine ⟨_, rfl, _, rfl, zar (by show 2 ≤ 1000; decide), fun tk aP => ?_⟩
 have af := zaf aP (.tup [.int (k : Int), .bl b])
 have s2 := s1.trans af
 have g2 : L2.upd H1 tk (.tup [.int (k : Int), .bl b]) tk = some (.tup [.int (k : Int), .bl b]) := zac
 generalize L2.upd H1 tk (.tup [.int (k : Int), .bl b]) = H2 at s2 af g2 ⊢
 refine ⟨_, rfl, .tuple [.int (k : Int), .bool b], (zi9 ts m ps).map zbw, ⟨tk, _, rfl, g2, _, _, rfl, rfl, _, _, rfl, rfl, rfl⟩, ⟨ol, _, rfl, s2 _ _ aF, (aI.same (Same.tup s2)).dn⟩, zm2 _ _, zb0 _, _, rfl, ?_⟩
 refine zci (fun ca => ?_) (fun ca => ?_)
 ·obtain ⟨kn, ek, aC⟩ := (zmb _ _ _).mp ca
  cases Int.ofNat.inj ek
  have e := vt (mem_offL.mp aC).2
  rw [e]
  exact ⟨_, rfl, rfl, q _ s2⟩
 have L : zc0 ts m (zaj (ps ++ [(k, b)])) (zau (ps ++ [(k, b)])) = false := by
  rw [Bool.eq_false_iff]
  exact fun z => ca ((zmb _ _ _).mpr ⟨k, rfl, mem_offL.mpr ⟨ko, z⟩⟩)
 obtain ⟨aN, sp, wy⟩ := vf L
 have S := (ok.snoc (b := b) ko).stand m1
 have B0 := zsn aq m9 S (zey _) L
 have aw := zi4 B0
 have ah := zws aq m9 S aw
 have B1 := zui sp B0
 generalize zc6 ts m (zaj (ps ++ [(k, b)])) (zau (ps ++ [(k, b)])) = il at wy aw ah B1
 obtain ⟨qa, lf, lp, ow, o1, o2, tv, xs, ys, rfl, hq, ay, ar, ax, aB, ak, aL, aR, aD⟩ := wy.ex
 obtain ⟨zs, hz, lz, _⟩ := aB.ex
 obtain ⟨us, hu, lu, _⟩ := ak.ex
 rw [aL] at hz
 cases hz
 rw [aR] at hu
 cases hu
 obtain ⟨ls, au, av⟩ := ar.ex
 have ll := av.length
 have ae : H2 qa = some (.tup [.ref lf, .ref lp, tv, .ref ow]) := af _ _ hq
 have ai := af _ _ ay
 have ao := af _ _ au
 have am := af _ _ aD
 refine ⟨_, rfl, .ref qa, "tuple", "tuple", true, rfl, TyOf.tup ae, zi8, _, rfl, ?_⟩
 refine zd1 ?_
 refine ⟨_, rfl, qa, _, rfl, .inr (sqT ae), rfl, _, rfl, ?_⟩
 refine zcq rfl ?_
 refine ⟨_, rfl, qa, _, _, _, rfl, rfl, sqT ae, at3, ow, _, rfl, .inl (SqL.of am), _, rfl, qa, _, _, _, rfl, rfl, sqT ae, at0, lf, _, rfl, .inl (SqL.of ai), _, rfl, qa, _, _, _, rfl, rfl, sqT ae, at1, lp, _, rfl, .inl (SqL.of ao), _, _, rfl, rfl, rfl, _, rfl, ?_⟩
 refine zcq (by
  show V.int ((xs ++ ys).length : Int) = V.int (((zal il).length : Int) + (ls.length : Int))
  rw [List.length_append, lz, lu, List.length_map, ← ll]
  all_goals (first | rfl | (congr 1; omega))) ?_
 refine ⟨_, rfl, qa, _, _, _, rfl, rfl, sqT ae, at0, zar (by show 0 ≤ 1000; decide), fun le aO => ?_⟩
 have s3 := zaf aO (.lst [])
 have g3 : L2.upd H2 le (.lst []) le = some (.lst []) := zac
 generalize L2.upd H2 le (.lst []) = H3 at s3 g3 ⊢
 refine ⟨lf, le, il.map (fun k : Nat => (k : Int)), [], rfl, rfl, SqL.of (by rw [zqr]; exact s3 _ _ ai), SqL.of g3, _, rfl, ?_⟩
 refine zkj (by
  rw [Bool.not_eq_true', decide_eq_false_iff_not]
  exact fun z => ah (by simpa using z)) ?_
 have aJ := af.trans s3
 have aj := s3 _ _ ae
 refine ⟨_, rfl, qa, _, _, _, rfl, rfl, sqT aj, at2, _, rfl, qa, _, _, _, rfl, rfl, sqT aj, at0, _, rfl, zar (by show 2 ≤ 1000; decide), fun la aH => ?_⟩
 have s4 := zaf aH (.lst [.int 0, .int (k : Int)])
 have g4 : L2.upd H3 la (.lst [.int 0, .int (k : Int)]) la = some (.lst [.int 0, .int (k : Int)]) := zac
 generalize L2.upd H3 la (.lst [.int 0, .int (k : Int)]) = H4 at s4 g4 ⊢
 have al := aJ.trans s4
 have ag := al _ _ au
 have few := ar.few
 have aA := av.same (Same.tup al)
 obtain ⟨left, ad⟩ : ∃ left, left = zhu ts il m aN (k, b) := ⟨_, rfl⟩
 rw [← ad] at aA ll few ax B1
 have aE : PickOk m left := by
  rw [ad]
  exact ok.sub sp.pm (zgp _ _)
 have aK : k ∈ zas m (zaj left) (zau left) := mem_openP.mpr ⟨km.1, km.2.1, fun z => km.2.2 (by
  obtain ⟨r, hr, e⟩ := List.mem_map.mp z
  refine List.mem_map.mpr ⟨r, sp.pm.mem_iff.mp ?_, e⟩
  rw [ad] at hr
  exact (zgp _ _).subset hr)⟩
 refine ⟨_, rfl, qa, _, _, _, rfl, rfl, sqT (s4 _ _ aj), at1, lp, rfl, ⟨_, SqL.of ag⟩, ?_⟩
 refine zcc (K := K) (a := lp) (xs := ls) (fun i ys σ H5 => (∃ v, σ = [v]) ∧ H5 = H4 ∧ ys = zal ((left.take i).map (·.1))) ⟨⟨none, rfl⟩, rfl, rfl⟩ (fun i ys σ H5 hi pv => ?_) (fun i ys σ H5 hi pv => ?_) (fun i x ys σ H5 hx pv => ?_) (fun ys σ H5 pv lm aM => ?_)
 ·rw [pv.2.2]
  exact zar (by rw [List.length_map, List.length_map, List.length_take]; omega)
 ·rw [pv.2.1]
  exact SqL.of ag
 ·obtain ⟨⟨v, rfl⟩, rfl, rfl⟩ := pv
  obtain ⟨p, t, hp, rfl, ht⟩ := aA.get hx
  refine ⟨_, rfl, t, _, _, _, rfl, rfl, sqT ht, at0, ⟨_, rfl⟩, rfl, ?_⟩
  rw [List.take_add_one, hp, Option.toList_some, List.map_append]
  unfold zal
  rw [List.map_append]
  rfl
 obtain ⟨_, rfl, rfl⟩ := pv
 rw [← ll, List.take_length] at *
 have s6 := zaf aM (.lst (zal (left.map (·.1))))
 have g6 : L2.upd H5 lm (.lst (zal (left.map (·.1)))) lm = some (.lst (zal (left.map (·.1)))) := zac
 generalize L2.upd H5 lm (.lst (zal (left.map (·.1)))) = H6 at s6 g6 ⊢
 refine ⟨la, lm, _, _, rfl, rfl, s6 _ _ g4, g6, zar (by rw [List.length_map, List.length_map]; simp only [List.length_cons, List.length_nil]; omega), fun lu aG => ?_⟩
 have eU : [V.int 0, .int (k : Int)] ++ zal (left.map (·.1)) = zal (0 :: k :: left.map (·.1)) := rfl
 rw [eU]
 have az := zaf aG (.lst (zal (0 :: k :: left.map (·.1))))
 have g7 : L2.upd H6 lu (.lst (zal (0 :: k :: left.map (·.1)))) lu = some (.lst (zal (0 :: k :: left.map (·.1)))) := zac
 generalize L2.upd H6 lu (.lst (zal (0 :: k :: left.map (·.1)))) = H7 at az g7 ⊢
 have ap := (al.trans s6).trans az
 exact ⟨tv, zbk ts il m 9 (zaj (left ++ [(k, b)])) (zau (left ++ [(k, b)])), lf, lu, il, 0 :: k :: left.map (·.1), rfl, Dn.same ap _ _ ax, ze6 _ _ _, Nat.le_refl _, ap _ _ ay, g7, by simp only [List.length_cons, List.length_map]; omega, zo5 aq m9 ((aE.snoc aK).stand m1) B1, fun H8 s8 => q _ ((s1.trans ap).trans s8)⟩
theorem zg7 (T : Txt K mg a d) : FnOk P w K mg base CX0 19 a.f_Choice___init__ d.f_Choice___init__ ["self", "wood"] (zwp a.x_Choice) := by
 have aa := ze1 (P := P) (w := w) (base := base) T
 refine T.K_Choice___init__.ok zg9 (fun vs H Q E h => ?_) (fun cdv A outer s H vs Q E hr h => ?_)
 ·obtain ⟨c, dx, wd, m, ts, rfl, _⟩ := h
  rfl
 obtain ⟨c, dx, wd, m, ts, rfl, hc, W, m9, m1, ⟨sw, sm, sW⟩, q⟩ := h
 refine ⟨_, (zae (za4 (zan znb (zag aa hr.lv rfl T.K_first_ware_at (zaa (pv 1) (zaa (za8 zab) zab))) zco (zaq _)) (zai zh0) za0)
   (zae (zpj (pv 0) (pv 1) rfl)
   (zai (zpj (pv 0) (za8 zab) rfl)))), ?_⟩
 refine ⟨_, rfl, zar (by show 0 ≤ 1000; decide), fun l1 aj => ?_⟩
 have s1 := zaf aj (.lst [])
 have h1 : L2.upd H l1 (.lst []) l1 = some (.lst []) := zac
 generalize L2.upd H l1 (.lst []) = H1 at s1 h1 ⊢
 refine ⟨wd, l1, m, ts, [], rfl, W.same s1, m9, m1, ⟨⟨[], h1, rfl⟩, by decide, (fun _ z => nomatch z)⟩, zuq m1, fun H2 o s2 ho => ?_⟩
 obtain ⟨s0, rfl⟩ := zjm ho ⟨sw, sm, zsd sW, sW⟩
 refine ⟨rfl, _, rfl, ?_⟩
 refine zbs (fun z => nomatch z) ?_
 have ad := s1.trans s2
 have ae : H2 c = some (.ins a.x_Choice dx []) := ad _ _ hc
 refine ⟨_, rfl, _, rfl, c, _, _, _, rfl, ae, T.C_Choice, T.n_Choice_wood, by decide, ?_⟩
 have t3 := zed (o' := .ins a.x_Choice dx [(("wood" : Str), .ref wd)]) ae (fun _ z => nomatch z)
 have ah : L2.upd H2 c (.ins a.x_Choice dx [(("wood" : Str), .ref wd)]) c = some (.ins a.x_Choice dx [(("wood" : Str), .ref wd)]) := zac
 refine ⟨zar (by show 0 ≤ 1000; decide), fun l2 ai => ?_⟩
 have ac : L2.upd H2 c (.ins a.x_Choice dx [(("wood" : Str), .ref wd)]) l2 = none := ai
 have s4 := zaf ac (.lst [])
 have h4 : L2.upd (L2.upd H2 c (.ins a.x_Choice dx [(("wood" : Str), .ref wd)])) l2 (.lst []) l2 = some (.lst []) := zac
 have af : L2.upd (L2.upd H2 c (.ins a.x_Choice dx [(("wood" : Str), .ref wd)])) l2 (.lst []) c = some (.ins a.x_Choice dx [(("wood" : Str), .ref wd)]) := s4 _ _ ah
 have ag : l2 ≠ c := fun z => by rw [z, ah] at ac; cases ac
 refine ⟨_, rfl, c, _, _, _, rfl, af, T.C_Choice, T.n_Choice_picks, (by show 1 < 1000; decide), ?_⟩
 refine q l2 _ (zav (zav (zav (Same.tup ad) t3) (Same.tup s4)) (zed af (fun _ z => nomatch z))) (ze3 (ze3 (ze3 (znd ad) (zkt (o' := .ins a.x_Choice dx [(("wood" : Str), .ref wd)]) ae (fun _ z => nomatch z))) (znd s4)) (zkt af (fun _ z => nomatch z))) (ze0 (ze0 (ze0 (zkv ad) (zgq ae)) (zkv s4)) (zgq af)) (ad.free (by rw [zak ag] at ac; exact ac)) zac ⟨⟨[], ?_, rfl⟩, by decide, (fun _ z => nomatch z)⟩
 rw [zak ag]
 exact h4
theorem zic (T : Txt K mg a d) : FnOk P w K mg base CX0 1 a.f_Choice_chosen d.f_Choice_chosen ["self"] (zqs a.x_Choice) := by
 refine T.K_Choice_chosen.ok zil (fun vs H Q E h => ?_) (fun cdv A outer s H vs Q E hr h => ?_)
 ·obtain ⟨c, dx, wd, pl, ps, rfl, _⟩ := h
  rfl
 obtain ⟨c, dx, wd, pl, ps, rfl, hc, PA, q⟩ := h
 obtain ⟨xs, aa, pk⟩ := PA.ex
 refine ⟨_, (zai (zap (zbv zfi rfl T.m_list PyProof.Rows.boot_list (zaa (zbl (pv 0) rfl) zab)))), ?_⟩
 refine ⟨_, rfl, c, _, _, _, _, rfl, hc, T.C_Choice, T.n_Choice_picks, rfl, pl, _, rfl, .inl (SqL.of aa), fun l hl => ?_⟩
 have s1 := zaf hl (.lst xs)
 exact q l _ s1 hl ⟨⟨xs, zac, pk.same (Same.tup s1)⟩, PA.few, PA.le⟩
theorem zib (T : Txt K mg a d) : FnOk P w K mg base CX0 20 a.f_Choice_offers d.f_Choice_offers ["self"] (zsy a.x_Choice) := by
 have ac := zd5 (P := P) (w := w) (base := base) T
 have aa := zel (P := P) (w := w) (base := base) T
 refine T.K_Choice_offers.ok sc_Choice_offers (fun vs H Q E h => ?_) (fun cdv A outer s H vs Q E hr h => ?_)
 ·obtain ⟨c, dx, wd, pl, m, ts, ps, rfl, _⟩ := h
  rfl
 obtain ⟨c, dx, wd, pl, m, ts, ps, rfl, hc, PA, W, m9, m1, aC, S, q⟩ := h
 have of := zc1 m (zaj ps) (zau ps)
 refine ⟨_, (zae (zao (i := 1) sc_Choice_offers.nd rfl (Or.inl rfl) (za8 zab))
   (zae (zch PassesOwn.never rfl (piL (K := K) (zag ac hr.lv rfl T.K_open_at (zaa (zbl (pv 0) rfl) (zaa (zbl (pv 0) rfl) zab)))) (zaw (i := 2) sc_Choice_offers.nd rfl (Or.inl rfl)) (zai (zca (zeu (K := K) PySem.F.plainAttrs_list PySem.F.slot_list_extend PySem.F.type_list_extend zrz (pv 1) (zaa (za8 (zaa (zbb (zaa (pv 2) (zaa ziy zab))) (zaa (zbb (zaa (pv 2) (zaa ziy zab))) zab))) zab)))))
   (zai (zap (zeo (N' := ["pair", "self"]) (n := 1) (kp := [0]) rfl (piL (K := K) (pv 1)) rfl rfl rfl (fun _ _ _ _ _ => (zaw (i := 0) (of_decide_eq_true rfl) rfl (Or.inl rfl))) (fun _ _ _ _ _ => (zcl (zbo (zag aa hr.lv rfl T.K_leads_on (zaa (zp0 (K := K) (pv 1) rfl) (zaa (zp0 (K := K) (pv 1) rfl) (zaa (pv 0) zab))))))) (fun _ _ _ _ _ => (pv 0))))))), ?_⟩
 refine ⟨zar (by show 0 ≤ 1000; decide), fun lp ap => ?_⟩
 have s1 := zaf ap (.lst [])
 have h1 : L2.upd H lp (.lst []) lp = some (.lst []) := zac
 generalize L2.upd H lp (.lst []) = H1 at s1 h1 ⊢
 have am : H1 c = some (.ins a.x_Choice dx (chF wd pl)) := s1 _ _ hc
 obtain ⟨ay, az, WA, _⟩ := (W.same s1).ex
 refine ⟨_, rfl, c, _, _, _, _, rfl, am, T.C_Choice, T.n_Choice_wood, rfl, _, rfl, c, _, _, _, _, rfl, am, T.C_Choice, T.n_Choice_picks, rfl, ?_⟩
 refine ⟨wd, pl, m, ay, az, ps, rfl, WA, by omega, PA.same s1, fun lo H2 s2 au aq => ?_⟩
 have aA := s1.trans s2
 have h2 : H2 lp = some (.lst []) := s2 _ _ h1
 refine ⟨lo, rfl, ⟨_, SqL.of aq⟩, ?_⟩
 refine zcx (K := K) (a := lo) (xs := zal (zas m (zaj ps) (zau ps))) (fun i σ H3 => ∃ (v2 : Option V) (zs : List V), σ = [some (.ref c), some (.ref lp), v2] ∧ Same H H3 ∧ H3 lo = some (.lst (zal (zas m (zaj ps) (zau ps)))) ∧ H3 lp = some (.lst zs) ∧ PickL H3 (zc3 ((zas m (zaj ps) (zau ps)).take i)) zs) ⟨none, [], rfl, aA, aq, h2, rfl⟩ (fun i σ H3 _ z => ?_) ?_ ?_
 ·obtain ⟨_, _, _, _, h, _⟩ := z
  exact SqL.of h
 ·rintro i x σ H3 hx ⟨v2, zs, rfl, s3, ag, ad, af⟩
  rw [List.getElem?_map] at hx
  obtain ⟨k, hk, rfl⟩ := Option.map_eq_some_iff.mp hx
  have il := (List.getElem?_eq_some_iff.mp hk).1
  have et : (zas m (zaj ps) (zau ps)).take (i + 1) = (zas m (zaj ps) (zau ps)).take i ++ [k] := by rw [List.take_add_one, hk, Option.toList_some]
  have lz := af.length
  rw [zj6, List.length_take] at lz
  refine ⟨_, rfl, .inl ⟨rfl, _, SqL.of ad⟩, ?_⟩
  refine ⟨_, rfl, zar (by show 2 ≤ 1000; decide), fun a1 aw => ?_⟩
  have sA := zaf aw (.tup [.int (k : Int), .bl false])
  have gA : L2.upd H3 a1 (.tup [.int (k : Int), .bl false]) a1 = some (.tup [.int (k : Int), .bl false]) := zac
  generalize L2.upd H3 a1 (.tup [.int (k : Int), .bl false]) = HA at sA gA ⊢
  refine ⟨_, rfl, zar (by show 2 ≤ 1000; decide), fun a2 aB => ?_⟩
  have sB := zaf aB (.tup [.int (k : Int), .bl true])
  have gB : L2.upd HA a2 (.tup [.int (k : Int), .bl true]) a2 = some (.tup [.int (k : Int), .bl true]) := zac
  generalize L2.upd HA a2 (.tup [.int (k : Int), .bl true]) = HB at sB gB ⊢
  refine ⟨zar (by show 2 ≤ 1000; decide), fun a3 ax => ?_⟩
  have sC := zaf ax (.lst [.ref a1, .ref a2])
  have gC : L2.upd HB a3 (.lst [.ref a1, .ref a2]) a3 = some (.lst [.ref a1, .ref a2]) := zac
  generalize L2.upd HB a3 (.lst [.ref a1, .ref a2]) = HC at sC gC ⊢
  have aj := sA.trans (sB.trans sC)
  have ae : HC lp = some (.lst zs) := aj _ _ ad
  have al : HC lo = some (.lst (zal (zas m (zaj ps) (zau ps)))) := aj _ _ ag
  have ak : lo ≠ lp := fun z => by rw [z, h1] at au; cases au
  refine ⟨lp, a3, _, _, rfl, rfl, ae, gC, zar (by show zs.length + 2 ≤ 1000; omega), ?_⟩
  have tD := zed (o' := .lst (zs ++ [.ref a1, .ref a2])) ae (fun _ z => nomatch z)
  refine ⟨some (.int (k : Int)), zs ++ [.ref a1, .ref a2], rfl, Same.put (s3.trans aj) ap ae, by rw [zak ak]; exact al, zac, ?_⟩
  have z := PickL.snoc (p := (k, true)) (tD _ _ (sC _ _ gB)) (PickL.snoc (p := (k, false)) (tD _ _ ((sB.trans sC) _ _ gA)) ((af.same (Same.tup aj)).same tD))
  rw [List.append_assoc, List.append_assoc] at z
  rw [et, zrg]
  exact z
 ·rintro σ H3 ⟨v2, zs, rfl, s3, ag, ad, af⟩
  rw [List.length_map, List.take_length] at af
  have lz := af.length
  rw [zj6] at lz
  have av : H3 c = some (.ins a.x_Choice dx (chF wd pl)) := s3 _ _ hc
  refine ⟨_, rfl, lp, rfl, ⟨_, SqL.of ad⟩, ?_⟩
  refine zcc (K := K) (a := lp) (xs := zs) (fun i ys σ H4 => (∃ v, σ = [v, some (.ref c)]) ∧ Same H3 H4 ∧ ys.length ≤ i ∧ PickL H4 (((zc3 (zas m (zaj ps) (zau ps))).take i).filter fun p => zc0 ts m (zaj (ps ++ [p])) (zau (ps ++ [p]))) ys) ⟨⟨none, rfl⟩, Same.refl _, Nat.le_refl _, rfl⟩ (fun i ys σ H4 hi pv => ?_) (fun i ys σ H4 hi pv => ?_) (fun i x ys σ H4 hx pv => ?_) (fun ys σ H4 pv l hl => ?_)
  ·exact zar (by have := pv.2.2.1; omega)
  ·exact SqL.of (pv.2.1 _ _ ad)
  ·obtain ⟨⟨v, rfl⟩, s4, h4, ai⟩ := pv
   obtain ⟨p, t, hp, rfl, ht⟩ := af.get hx
   have po := zov (List.mem_of_getElem? hp)
   have pm := (mem_open.mp po).1
   have et : (zc3 (zas m (zaj ps) (zau ps))).take (i + 1) = (zc3 (zas m (zaj ps) (zau ps))).take i ++ [p] := by rw [List.take_add_one, hp, Option.toList_some]
   have ar : H4 c = some (.ins a.x_Choice dx (chF wd pl)) := s4 _ _ av
   have ah := s3.trans s4
   have ao : H4 t = some (.tup [.int (p.1 : Int), .bl p.2]) := s4 _ _ ht
   refine ⟨_, rfl, c, _, _, _, _, rfl, ar, T.C_Choice, T.n_Choice_wood, rfl, _, rfl, c, _, _, _, _, rfl, ar, T.C_Choice, T.n_Choice_picks, rfl, _, rfl, ?_⟩
   refine ⟨wd, pl, t, m, ts, ps, p, rfl, W.same ah, m9, m1, PA.same ah, by omega, by omega, ao, zpa S po, fun H5 o s5 ho => ?_⟩
   rw [zhc ho]
   refine ⟨_, rfl, ?_⟩
   refine zci (fun cl => ?_) (fun cl => ?_)
   ·refine ⟨_, rfl, ⟨_, rfl⟩, s4.trans s5, by rw [List.length_append, List.length_singleton]; omega, ?_⟩
    rw [et, List.filter_append, List.filter_cons_of_pos (p := fun p => zc0 ts m (zaj (ps ++ [p])) (zau (ps ++ [p]))) (a := p) cl]
    exact PickL.snoc (p := p) (s5 _ _ ao) (ai.same (Same.tup s5))
   ·refine ⟨⟨_, rfl⟩, s4.trans s5, by omega, ?_⟩
    rw [et, List.filter_append, List.filter_cons_of_neg (p := fun p => zc0 ts m (zaj (ps ++ [p])) (zau (ps ++ [p]))) (a := p) cl, List.filter_nil, List.append_nil]
    exact ai.same (Same.tup s5)
  ·obtain ⟨_, s4, _, ai⟩ := pv
   rw [← af.length, List.take_length] at ai
   have s5 := zaf hl (.lst ys)
   have ah := s3.trans s4
   exact q l ys _ (ah.trans s5) (ah.free hl) zac (ai.same (Same.tup s5))
theorem zwq (T : Txt K mg a d) (LB1 : zi7 mg base a.c_cases_of a.t_cases_of) (LB : zi7 mg base a.c_law a.t_law) : FnOk P w K mg base CX0 29 a.f_law d.f_law ["_law_script"] (spT a.t_cases_of (spT a.t_law (zqd K))) := by
 have ak := zn2 (P := P) (w := w) (base := base) T
 have ag := zlj (P := P) (w := w) (base := base) T
 have ao := zit (P := P) (w := w) (base := base) T
 have ac := zdi (P := P) (w := w) (base := base) T
 have aj := zle (P := P) (w := w) (base := base) T
 have am := zok (P := P) (w := w) (base := base) T LB1
 have af := zg7 (P := P) (w := w) (base := base) T
 have ad := zib (P := P) (w := w) (base := base) T
 have ah := zic (P := P) (w := w) (base := base) T
 refine T.K_law.okC sc_law (fun vs H Q E h => ?_) (fun cdv A outer s H vs Q E dB hr h => ?_)
 ·obtain ⟨_, _, p, ns, rfl, _⟩ := h
  rfl
 obtain ⟨bz, ta, sp, ns, rfl, hS, hl, q⟩ := h
 have bL : (2 : Int) ^ 62 = 4611686018427387904 := by decide
 have LC : ((zb3 CX0 P w K mg base ["_law_script", "_law_state", "_law_wood_here", "_law_choice", "_law_chosen", "_law_offers", "_law_turn", "_law_k", "_law_value", "_law_named"] "law" (zah zcj) a.f_law cdv A outer s H E).nox).env.code = .ref a.c_law := dB.symm.trans T.code_law
 have bM : ∀ y ∈ (zdd (zem (zrx (boE 1 (ifT (zdt (za2 zcj) 6)[4]?))))).names, y.2 = .free → ∃ c, ((zb3 CX0 P w K mg base ["_law_script", "_law_state", "_law_wood_here", "_law_choice", "_law_chosen", "_law_offers", "_law_turn", "_law_k", "_law_value", "_law_named"] "law" (zah zcj) a.f_law cdv A outer s H E).nox).env.cells.lookup y.1 = some c := by
  intro y hy hz
  have h := (by decide +kernel : ∀ y ∈ (zdd (zem (zrx (boE 1 (ifT (zdt (za2 zcj) 6)[4]?))))).names, y.2 = NameKind.free → y = (("_law_choice" : Str), NameKind.free) ∨ y = (("_law_k" : Str), NameKind.free))
  rcases h y hy hz with rfl | rfl <;> exact ⟨_, rfl⟩
 have aX : ∀ y ∈ (zdd (zem (zrx (ifT (elS (zdt (za2 zcj) 6)[5]?))))).names, y.2 = .free → ∃ c, ((zb3 CX0 P w K mg base ["_law_script", "_law_state", "_law_wood_here", "_law_choice", "_law_chosen", "_law_offers", "_law_turn", "_law_k", "_law_value", "_law_named"] "law" (zah zcj) a.f_law cdv A outer s H E).nox).env.cells.lookup y.1 = some c := by
  intro y hy hz
  have h := (by decide +kernel : ∀ y ∈ (zdd (zem (zrx (ifT (elS (zdt (za2 zcj) 6)[5]?))))).names, y.2 = NameKind.free → y = (("_law_choice" : Str), NameKind.free) ∨ y = (("_law_k" : Str), NameKind.free) ∨ y = (("_law_value" : Str), NameKind.free))
  rcases h y hy hz with rfl | rfl | rfl <;> exact ⟨_, rfl⟩
 have aT : ∀ y ∈ (zdd (zem (zrx (ifT (elS (elS (zdt (za2 zcj) 6)[5]?)))))).names, y.2 = .free → ∃ c, ((zb3 CX0 P w K mg base ["_law_script", "_law_state", "_law_wood_here", "_law_choice", "_law_chosen", "_law_offers", "_law_turn", "_law_k", "_law_value", "_law_named"] "law" (zah zcj) a.f_law cdv A outer s H E).nox).env.cells.lookup y.1 = some c := by
  intro y hy hz
  have h := (by decide +kernel : ∀ y ∈ (zdd (zem (zrx (ifT (elS (elS (zdt (za2 zcj) 6)[5]?)))))).names, y.2 = NameKind.free → y = (("_law_choice" : Str), NameKind.free) ∨ y = (("_law_k" : Str), NameKind.free) ∨ y = (("_law_value" : Str), NameKind.free))
  rcases h y hy hz with rfl | rfl | rfl <;> exact ⟨_, rfl⟩
 have aA : ((zb3 CX0 P w K mg base ["_law_script", "_law_state", "_law_wood_here", "_law_choice", "_law_chosen", "_law_offers", "_law_turn", "_law_k", "_law_value", "_law_named"] "law" (zah zcj) a.f_law cdv A outer s H E).nox).env.cells = [(("_law_value" : Str), s.heap.objs.size + 3), (("_law_k" : Str), s.heap.objs.size + 2), (("_law_choice" : Str), s.heap.objs.size + 1)] := rfl
 have al : ∀ x y c, ((zb3 CX0 P w K mg base ["_law_script", "_law_state", "_law_wood_here", "_law_choice", "_law_chosen", "_law_offers", "_law_turn", "_law_k", "_law_value", "_law_named"] "law" (zah zcj) a.f_law cdv A outer s H E).nox).env.cells.lookup x = some c → ((zb3 CX0 P w K mg base ["_law_script", "_law_state", "_law_wood_here", "_law_choice", "_law_chosen", "_law_offers", "_law_turn", "_law_k", "_law_value", "_law_named"] "law" (zah zcj) a.f_law cdv A outer s H E).nox).env.cells.lookup y = some c → x = y := fun x y c h1 h2 => by
  rw [aA] at h1 h2
  exact zwx h1 h2
 have HK : ztu K a.x_NoOffer [a.x_NoCount, a.x_NoName, a.x_NoRow, a.x_NoText, a.x_NoWood, a.x_Unlike] a.x_NoOffer a.x_NoWares a.x_WoodError true := ⟨T.x_NoOffer, fun C hC => by
  simp only [List.mem_cons, List.not_mem_nil, or_false] at hC
  rcases hC with rfl | rfl | rfl | rfl | rfl | rfl
  ·exact T.k_NoOffer_NoCount
  ·exact T.k_NoOffer_NoName
  ·exact T.k_NoOffer_NoRow
  ·exact T.k_NoOffer_NoText
  ·exact T.k_NoOffer_NoWood
  ·exact T.k_NoOffer_Unlike, T.k_NoOffer_NoOffer, T.k_NoOffer_NoWares, T.v_NoOffer, T.s_NoOffer_WoodError⟩
 have aH : ∃ t, PSs (zb3 CX0 P w K mg base ["_law_script", "_law_state", "_law_wood_here", "_law_choice", "_law_chosen", "_law_offers", "_law_turn", "_law_k", "_law_value", "_law_named"] "law" (zah zcj) a.f_law cdv A outer s H E).nox ((zdt (za2 zcj) 6).drop 2) t ∧ ∀ (D : zgt) (kk kd : Int) (pen x dx wd pl lc lo : Addr) (m : Nat) (ts : List Tie) (ps : List (Nat × Bool)) (v6 v8 v9 : Option V) (H2 : Hp), zcp H2 a.t_cases_of → zcp H2 a.t_law → Pen K H2 pen sp ns kd → 0 ≤ kd → kd ≤ 900000 → H2 x = some (.ins a.x_Choice dx (chF wd pl)) → PicksAt H2 pl ps → PicksAt H2 lc ps → PickOk m ps → (∀ H', zc7 H2 H' → WoodT H' wd m ts) → 1 ≤ m → m ≤ 9 → ts.length ≤ 29 → PicksAt H2 lo (zi9 ts m ps) →
   (∀ (v8 v9 : Option V) (H3 : Hp), SameX pen H2 H3 → H3 pen = some (.lst [.ref sp, .int (kd + 1)]) → D.nx [some (.ref sp), some (.ref pen), some (.ref wd), some (.ref x), some (.ref lc), some (.ref lo), v6, some (.int kk), v8, v9] H3) →
   t D [some (.ref sp), some (.ref pen), some (.ref wd), some (.ref x), some (.ref lc), some (.ref lo), v6, some (.int kk), v8, v9] H2 := by
  refine ⟨_, (zae (zao (i := 8) sc_law.nd rfl (Or.inr rfl) (zbc zbq (zag ac hr.lv rfl T.K_law_take (zaa (pv 1) (zaa zad zab))) zad (zaq _)))
   (zae (zf6 (i := 9) sc_law.nd rfl rfl rfl (N' := ["_law_one"]) (n := 1) (kp := []) rfl (piL (K := K) (pv 4)) rfl rfl rfl (fun _ _ _ _ _ => (zaw (i := 0) (of_decide_eq_true rfl) rfl (Or.inl rfl))) (fun _ _ _ _ _ => zfe) (fun _ _ _ _ _ => (zat (ixT (K := K)) (pv 0) zad (fun _ _ => rfl))))
   (zae (za4 (PW.pt (zgc (zan (zta (K := K)) (pv 7) (pv 9) (by with_unfolding_all rfl)) (zfg (zan zgz (zin (k := 25) hr.lv rfl T.K_law_heard.g T.K_law_heard.kp T.K_law_heard.B (fun _ => rfl) (zaa (zms LC LB rfl bM) zab)) zbe (zaq _))))) (zai (zap ziy)) za0)
   (zai (za4 (PW.pt (zgc (zth zki zki zad (pv 7) (zat (ixT (K := K)) (pv 2) zad (fun _ _ => rfl))) (zfg (zan (zta (K := K)) (pv 7) (pv 9) (by with_unfolding_all rfl))))) (zai (za4 (zf2 (zbo (zag am hr.lv rfl T.K_law_open (zaa (pv 3) (zaa (pv 7) (zaa (pv 8) (zaa (pv 5) zab))))))) (zai (zap ziy)) za0)) (zai (za4 (zan zgz (zin (k := 25) hr.lv rfl T.K_law_heard.g T.K_law_heard.kp T.K_law_heard.B (fun _ => rfl) (zaa (zms LC LB rfl aX) zab)) zbe (zaq _)) (zai (zap ziy)) (zai (za4 (zan zgz (zin (k := 25) hr.lv rfl T.K_law_heard.g T.K_law_heard.kp T.K_law_heard.B (fun _ => rfl) (zaa (zms LC LB rfl aT) zab)) zbe (zaq _)) (zai (zap ziy)) za0))))))))), ?_⟩
  intro D kk kd pen x dx wd pl lc lo m ts ps v6 v8 v9 H2 bz aB pn bJ cS hx PA PC ok ap m1 m9 bb PO nx
  have p9 := ok.len
  refine ⟨_, rfl, pen, sp, ns, 2, kd, rfl, pn, by omega, by omega, by decide, fun wv ed eM => ?_⟩
  have x3 := za1 (pen := pen) (H := H2) (.lst [.ref sp, .int (kd + 1)])
  have g3 : L2.upd H2 pen (.lst [.ref sp, .int (kd + 1)]) pen = some (.lst [.ref sp, .int (kd + 1)]) := zac
  generalize L2.upd H2 pen (.lst [.ref sp, .int (kd + 1)]) = H3 at x3 g3 ⊢
  have t3 := SameX.tup pn.at_ x3
  have cm := PA.x pn.at_ (za9 PA pn.at_) x3
  have dz := PC.x pn.at_ (za9 PC pn.at_) x3
  have dC := PO.x pn.at_ (za9 PO pn.at_) x3
  have cj : H3 x = some (.ins a.x_Choice dx (chF wd pl)) := x3 _ _ (fun z => by rw [z, pn.at_] at hx; cases hx) hx
  have ay : KeepA [pen] H2 H3 := (KeepA.refl _ H2).pen x3 (.inl List.mem_cons_self) pn.at_ g3
  obtain ⟨b, hb⟩ : ∃ b, b = decide (V.int wv = V.int 1) := ⟨_, rfl⟩
  refine ⟨rfl, ?_⟩
  rw [← hb]
  obtain ⟨xs, bH, pk⟩ := dz.ex
  have lx := pk.length
  refine ⟨_, rfl, lc, rfl, ⟨_, SqL.of bH⟩, ?_⟩
  refine zcc (K := K) (a := lc) (xs := xs) (fun i ys σ H5 => (∃ v, σ = [v]) ∧ H5 = H3 ∧ ys = zal ((ps.take i).map (·.1))) ⟨⟨none, rfl⟩, rfl, rfl⟩ (fun i ys σ H5 hi pv => ?_) (fun i ys σ H5 hi pv => ?_) (fun i x ys σ H5 hx pv => ?_) (fun ys σ H5 pv ln cE => ?_)
  ·rw [pv.2.2]
   exact zar (by rw [List.length_map, List.length_map, List.length_take]; omega)
  ·rw [pv.2.1]
   exact SqL.of bH
  ·obtain ⟨⟨v, rfl⟩, rfl, rfl⟩ := pv
   obtain ⟨p, t, hp, rfl, ht⟩ := pk.get hx
   refine ⟨_, rfl, t, _, _, _, rfl, rfl, sqT ht, at0, ⟨_, rfl⟩, rfl, ?_⟩
   rw [List.take_add_one, hp, Option.toList_some, List.map_append]
   unfold zal
   rw [List.map_append]
   rfl
  obtain ⟨_, rfl, rfl⟩ := pv
  rw [← lx, List.take_length] at *
  have s4 := zaf cE (.lst (zal (ps.map (·.1))))
  have g4 : L2.upd H5 ln (.lst (zal (ps.map (·.1)))) ln = some (.lst (zal (ps.map (·.1)))) := zac
  generalize L2.upd H5 ln (.lst (zal (ps.map (·.1)))) = H4 at s4 g4 ⊢
  refine ⟨_, rfl, _, rfl, ln, _, rfl, .inl (SqL.of g4), rfl, zbu _, _, rfl, ?_⟩
  have aw : H4 x = some (.ins a.x_Choice dx (chF wd pl)) := s4 _ _ cj
  have au := cm.same s4
  have cH := dC.same s4
  have t4 := zav t3 (Same.tup s4)
  have av : ∀ H', zc7 H4 H' → WoodT H' wd m ts := fun H' t => ap H' (zav t4 t)
  have cK := s4 _ _ g3
  have aW : ∀ H8, Same H4 H8 → D.nx [some (.ref sp), some (.ref pen), some (.ref wd), some (.ref x), some (.ref lc), some (.ref lo), v6, some (.int kk), some (.bl b), some (.ref ln)] H8 := fun H8 s8 => nx _ _ H8 ((x3.trans (Same.x s4)).trans (Same.x s8)) (s8 _ _ cK)
  obtain ⟨b7, bU, ⟨cY, cA, aY, de, bK⟩, cu⟩ := (av H4 (zgo H4)).ex
  by_cases aE : inV (.int kk) (zal (ps.map (·.1))) = true
  ·obtain ⟨kn, ek, hk⟩ := (zoh _ _).mp aE
   have az : ∀ aq : Nat, kk = aq → aq ∉ zas m (zaj ps) (zau ps) := fun aq e z => by
    have e2 : kn = aq := by omega
    exact (mem_openP.mp z).2.2 (e2 ▸ hk)
   obtain ⟨pq, cO, b9⟩ := List.mem_map.mp hk
   have eI := ok.in_ pq cO
   have b9 : pq.1 = kn := b9
   refine zj5 (show (!inV (.int kk) (zal (ps.map (·.1)))) = false by rw [aE]; rfl) ?_
   refine zd1 ?_
   refine ⟨_, rfl, _, _, rfl, rfl, _, rfl, ?_⟩
   refine zkj (decide_eq_true (show (0 : Int) < kk by omega)) ?_
   refine ⟨_, rfl, wd, _, _, _, rfl, rfl, sqT aY, at0, _, _, rfl, rfl, _, rfl, ?_⟩
   refine zkj (decide_eq_true (show kk < (m : Int) by omega)) ?_
   refine ⟨_, rfl, _, rfl, ln, _, rfl, .inl (SqL.of g4), rfl, zbu _, _, rfl, ?_⟩
   refine zj5 (show (!inV (.int kk) (zal (ps.map (·.1)))) = false by rw [aE]; rfl) ?_
   have sE := Same.refl H4
   refine ⟨((ay.same s4).same sE).tab _ aB, fun p c' H7 np s7 hp ar aa ci _ _ kb => ?_⟩
   have Cl := zg5 (base := aa) (fr := ["_law_choice", "_law_k", "_law_value"]) (fv := [.ref x, .int kk, .bl b]) aX (by decide +kernel) (by decide +kernel) (fun i x' v h1 h2 => by
   match i, h1, h2 with
   | 0, h1, h2 => cases h1; cases h2; exact ci 3 "_law_choice" (.ref x) rfl rfl rfl
   | 1, h1, h2 => cases h1; cases h2; exact ci 7 "_law_k" (.int kk) rfl rfl rfl
   | 2, h1, h2 => cases h1; cases h2; exact ci 8 "_law_value" (.bl b) rfl rfl rfl
   | _ + 3, h1, _ => cases h1) al rfl
   have L := zd6 (P := P) (w := w) (K := K) (mg := mg) (base := aa) (D := a.x_NoOffer) (fr := ["_law_choice", "_law_k", "_law_value"]) (fv := [.ref x, .int kk, .bl b]) (k := 23) (r := true) (fun H => H x = some (.ins a.x_Choice dx (chF wd pl)) ∧ PicksAt H pl ps ∧ WoodT H wd m ts) Same hp ⟨rfl, rfl, rfl, by decide +kernel, by decide +kernel, by decide +kernel, by decide +kernel⟩ Cl.hcl Cl.inj Cl.has Cl.hfv Cl.hlen (fun _ _ _ => rfl)
    (fun q A outer s H Q E hr C0 qt qf => ⟨_, zdb (pv 0) T.C_Choice T.g_Choice_why (zef (P := P) (w := w) (base := aa) T) (hr.mono (by decide)) T.K_Choice_why.B .nil zfk (zaa (pv 1) (zaa (pv 2) zab)), ⟨_, rfl, x, _, _, rfl, C0.1, rfl, _, rfl, _, rfl, x, dx, wd, pl, m, ts, ps, kk, b, rfl, C0.1, C0.2.1, C0.2.2, m9, m1, ok, az, fun H' s' => qt rfl H' s'⟩⟩)
   have G := zbz (P := P) (w := w) (base := aa) T HK L (.all fun us hl => match us, hl with | [], _ => rfl) zei (fun H h => h.2.1)
   refine ⟨_, G, rfl, ⟨⟨(sE.trans s7) _ _ aw, au.same (sE.trans s7), av _ (Same.tup (sE.trans s7))⟩, hp, ar⟩, fun H8 S8 _ => ?_⟩
   have s8 := sE.trans (s7.trans (S8 rfl))
   refine ⟨rfl, _, rfl, ?_⟩
   refine zcq rfl ?_
   have sF := s8
   clear s8 G L Cl hp ar S8 s7 np kb
   generalize H8 = HF at sF ⊢
   refine ⟨((ay.same s4).same sF).tab _ aB, fun p c2 H7 np s7 hp aK aa ci _ _ kb => ?_⟩
   have Cl := zg5 (base := aa) (fr := ["_law_choice", "_law_k", "_law_value"]) (fv := [.ref x, .int kk, .bl b]) aT (by decide +kernel) (by decide +kernel) (fun i x' v h1 h2 => by
   match i, h1, h2 with
   | 0, h1, h2 => cases h1; cases h2; exact ci 3 "_law_choice" (.ref x) rfl rfl rfl
   | 1, h1, h2 => cases h1; cases h2; exact ci 7 "_law_k" (.int kk) rfl rfl rfl
   | 2, h1, h2 => cases h1; cases h2; exact ci 8 "_law_value" (.bl b) rfl rfl rfl
   | _ + 3, h1, _ => cases h1) al rfl
   have L := zd6 (P := P) (w := w) (K := K) (mg := mg) (base := aa) (D := a.x_NoOffer) (fr := ["_law_choice", "_law_k", "_law_value"]) (fv := [.ref x, .int kk, .bl b]) (k := 23) (r := true) (fun H => H x = some (.ins a.x_Choice dx (chF wd pl)) ∧ PicksAt H pl ps ∧ WoodT H wd m ts) Same hp ⟨rfl, rfl, rfl, by decide +kernel, by decide +kernel, by decide +kernel, by decide +kernel⟩ Cl.hcl Cl.inj Cl.has Cl.hfv Cl.hlen (fun _ _ _ => rfl)
    (fun q A outer s H Q E hr C0 qt qf => ⟨_, zdb (pv 0) T.C_Choice T.g_Choice_choose (zcu (P := P) (w := w) (base := aa) T) (hr.mono (by decide)) T.K_Choice_choose.B .nil zfk (zaa (pv 1) (zaa (pv 2) zab)), ⟨_, rfl, x, _, _, rfl, C0.1, rfl, _, rfl, _, rfl, x, dx, wd, pl, m, ts, ps, kk, b, rfl, C0.1, C0.2.1, C0.2.2, m9, m1, ok, (fun kn e h => absurd h (az kn e)), fun H' s' => qt rfl H' s'⟩⟩)
   have G := zbz (P := P) (w := w) (base := aa) T HK L (.all fun us hl => match us, hl with | [], _ => rfl) zei (fun H h => h.2.1)
   refine ⟨_, G, rfl, ⟨⟨(sF.trans s7) _ _ aw, au.same (sF.trans s7), av _ (Same.tup (sF.trans s7))⟩, hp, aK⟩, fun H8 S8 _ => ?_⟩
   have s8 := sF.trans (s7.trans (S8 rfl))
   refine ⟨rfl, _, rfl, ?_⟩
   refine zcq rfl ?_
   exact aW _ s8
  ·have aM : ∀ kn : Nat, kk = kn → kn ∉ ps.map (·.1) := fun kn e h => aE ((zoh _ _).mpr ⟨kn, e, h⟩)
   refine zt4 (show (!inV (.int kk) (zal (ps.map (·.1)))) = true by rw [Bool.eq_false_iff.mpr aE]; rfl) ?_
   refine ⟨(ay.same s4).tab _ aB, fun p c' H7 np s7 hp ar aa ci _ _ kb => ?_⟩
   have Cl := zg5 (base := aa) (fr := ["_law_choice", "_law_k"]) (fv := [.ref x, .int kk]) bM (by decide +kernel) (by decide +kernel) (fun i x' v h1 h2 => by
   match i, h1, h2 with
   | 0, h1, h2 => cases h1; cases h2; exact ci 3 "_law_choice" (.ref x) rfl rfl rfl
   | 1, h1, h2 => cases h1; cases h2; exact ci 7 "_law_k" (.int kk) rfl rfl rfl
   | _ + 2, h1, _ => cases h1) al rfl
   have L := zd6 (P := P) (w := w) (K := K) (mg := mg) (base := aa) (D := a.x_NoOffer) (fr := ["_law_choice", "_law_k"]) (fv := [.ref x, .int kk]) (k := 23) (r := true) (fun H => H x = some (.ins a.x_Choice dx (chF wd pl)) ∧ PicksAt H pl ps) Same hp ⟨rfl, rfl, rfl, by decide +kernel, by decide +kernel, by decide +kernel, by decide +kernel⟩ Cl.hcl Cl.inj Cl.has Cl.hfv Cl.hlen (fun _ _ _ => rfl)
    (fun q A outer s H Q E hr C0 qt qf => ⟨_, zdb (pv 0) T.C_Choice T.g_Choice_take_back (zf5 (P := P) (w := w) (base := aa) T) (hr.mono (by decide)) T.K_Choice_take_back.B .nil zfk (zaa (pv 1) zab), ⟨_, rfl, x, _, _, rfl, C0.1, rfl, _, rfl, x, dx, wd, pl, ps, kk, rfl, C0.1, C0.2, aM, fun H' s' => qt rfl H' s'⟩⟩)
   have G := zbz (P := P) (w := w) (base := aa) T HK L (.all fun us hl => match us, hl with | [], _ => rfl) zei (fun H h => h.2.1)
   refine ⟨_, G, rfl, ⟨⟨s7 _ _ aw, au.same s7⟩, hp, ar⟩, fun H8 S8 _ => ?_⟩
   have s8 := (Same.refl H4).trans (s7.trans (S8 rfl))
   refine ⟨rfl, _, rfl, ?_⟩
   refine zcq rfl ?_
   have sE := s8
   clear s8 G L Cl hp ar S8 s7 np kb
   generalize H8 = HE at sE ⊢
   refine ⟨_, rfl, _, _, rfl, rfl, _, rfl, ?_⟩
   by_cases k0 : (0 : Int) < kk
   rotate_left
   ·refine zbs k0 ?_
    refine ⟨_, rfl, ?_⟩
    refine zd1 ?_
    have az : ∀ aq : Nat, kk = aq → aq ∉ zas m (zaj ps) (zau ps) := fun aq e z => by
     have := (mem_openP.mp z).2.1
     omega
    refine ⟨((ay.same s4).same sE).tab _ aB, fun p c' H7 np s7 hp ar aa ci _ _ kb => ?_⟩
    have Cl := zg5 (base := aa) (fr := ["_law_choice", "_law_k", "_law_value"]) (fv := [.ref x, .int kk, .bl b]) aX (by decide +kernel) (by decide +kernel) (fun i x' v h1 h2 => by
    match i, h1, h2 with
    | 0, h1, h2 => cases h1; cases h2; exact ci 3 "_law_choice" (.ref x) rfl rfl rfl
    | 1, h1, h2 => cases h1; cases h2; exact ci 7 "_law_k" (.int kk) rfl rfl rfl
    | 2, h1, h2 => cases h1; cases h2; exact ci 8 "_law_value" (.bl b) rfl rfl rfl
    | _ + 3, h1, _ => cases h1) al rfl
    have L := zd6 (P := P) (w := w) (K := K) (mg := mg) (base := aa) (D := a.x_NoOffer) (fr := ["_law_choice", "_law_k", "_law_value"]) (fv := [.ref x, .int kk, .bl b]) (k := 23) (r := true) (fun H => H x = some (.ins a.x_Choice dx (chF wd pl)) ∧ PicksAt H pl ps ∧ WoodT H wd m ts) Same hp ⟨rfl, rfl, rfl, by decide +kernel, by decide +kernel, by decide +kernel, by decide +kernel⟩ Cl.hcl Cl.inj Cl.has Cl.hfv Cl.hlen (fun _ _ _ => rfl)
     (fun q A outer s H Q E hr C0 qt qf => ⟨_, zdb (pv 0) T.C_Choice T.g_Choice_why (zef (P := P) (w := w) (base := aa) T) (hr.mono (by decide)) T.K_Choice_why.B .nil zfk (zaa (pv 1) (zaa (pv 2) zab)), ⟨_, rfl, x, _, _, rfl, C0.1, rfl, _, rfl, _, rfl, x, dx, wd, pl, m, ts, ps, kk, b, rfl, C0.1, C0.2.1, C0.2.2, m9, m1, ok, az, fun H' s' => qt rfl H' s'⟩⟩)
    have G := zbz (P := P) (w := w) (base := aa) T HK L (.all fun us hl => match us, hl with | [], _ => rfl) zei (fun H h => h.2.1)
    refine ⟨_, G, rfl, ⟨⟨(sE.trans s7) _ _ aw, au.same (sE.trans s7), av _ (Same.tup (sE.trans s7))⟩, hp, ar⟩, fun H8 S8 _ => ?_⟩
    have s8 := sE.trans (s7.trans (S8 rfl))
    refine ⟨rfl, _, rfl, ?_⟩
    refine zcq rfl ?_
    have sF := s8
    clear s8 G L Cl hp ar S8 s7 np kb
    generalize H8 = HF at sF ⊢
    refine ⟨((ay.same s4).same sF).tab _ aB, fun p c2 H7 np s7 hp aK aa ci _ _ kb => ?_⟩
    have Cl := zg5 (base := aa) (fr := ["_law_choice", "_law_k", "_law_value"]) (fv := [.ref x, .int kk, .bl b]) aT (by decide +kernel) (by decide +kernel) (fun i x' v h1 h2 => by
    match i, h1, h2 with
    | 0, h1, h2 => cases h1; cases h2; exact ci 3 "_law_choice" (.ref x) rfl rfl rfl
    | 1, h1, h2 => cases h1; cases h2; exact ci 7 "_law_k" (.int kk) rfl rfl rfl
    | 2, h1, h2 => cases h1; cases h2; exact ci 8 "_law_value" (.bl b) rfl rfl rfl
    | _ + 3, h1, _ => cases h1) al rfl
    have L := zd6 (P := P) (w := w) (K := K) (mg := mg) (base := aa) (D := a.x_NoOffer) (fr := ["_law_choice", "_law_k", "_law_value"]) (fv := [.ref x, .int kk, .bl b]) (k := 23) (r := true) (fun H => H x = some (.ins a.x_Choice dx (chF wd pl)) ∧ PicksAt H pl ps ∧ WoodT H wd m ts) Same hp ⟨rfl, rfl, rfl, by decide +kernel, by decide +kernel, by decide +kernel, by decide +kernel⟩ Cl.hcl Cl.inj Cl.has Cl.hfv Cl.hlen (fun _ _ _ => rfl)
     (fun q A outer s H Q E hr C0 qt qf => ⟨_, zdb (pv 0) T.C_Choice T.g_Choice_choose (zcu (P := P) (w := w) (base := aa) T) (hr.mono (by decide)) T.K_Choice_choose.B .nil zfk (zaa (pv 1) (zaa (pv 2) zab)), ⟨_, rfl, x, _, _, rfl, C0.1, rfl, _, rfl, _, rfl, x, dx, wd, pl, m, ts, ps, kk, b, rfl, C0.1, C0.2.1, C0.2.2, m9, m1, ok, (fun kn e h => absurd h (az kn e)), fun H' s' => qt rfl H' s'⟩⟩)
    have G := zbz (P := P) (w := w) (base := aa) T HK L (.all fun us hl => match us, hl with | [], _ => rfl) zei (fun H h => h.2.1)
    refine ⟨_, G, rfl, ⟨⟨(sF.trans s7) _ _ aw, au.same (sF.trans s7), av _ (Same.tup (sF.trans s7))⟩, hp, aK⟩, fun H8 S8 _ => ?_⟩
    have s8 := sF.trans (s7.trans (S8 rfl))
    refine ⟨rfl, _, rfl, ?_⟩
    refine zcq rfl ?_
    exact aW _ s8
   refine zkj (decide_eq_true k0) ?_
   refine ⟨_, rfl, wd, _, _, _, rfl, rfl, sqT (sE _ _ aY), at0, _, _, rfl, rfl, _, rfl, ?_⟩
   by_cases km : kk < (m : Int)
   rotate_left
   ·refine zbs km ?_
    have az : ∀ aq : Nat, kk = aq → aq ∉ zas m (zaj ps) (zau ps) := fun aq e z => by
     have := (mem_openP.mp z).1
     omega
    refine ⟨((ay.same s4).same sE).tab _ aB, fun p c' H7 np s7 hp ar aa ci _ _ kb => ?_⟩
    have Cl := zg5 (base := aa) (fr := ["_law_choice", "_law_k", "_law_value"]) (fv := [.ref x, .int kk, .bl b]) aX (by decide +kernel) (by decide +kernel) (fun i x' v h1 h2 => by
    match i, h1, h2 with
    | 0, h1, h2 => cases h1; cases h2; exact ci 3 "_law_choice" (.ref x) rfl rfl rfl
    | 1, h1, h2 => cases h1; cases h2; exact ci 7 "_law_k" (.int kk) rfl rfl rfl
    | 2, h1, h2 => cases h1; cases h2; exact ci 8 "_law_value" (.bl b) rfl rfl rfl
    | _ + 3, h1, _ => cases h1) al rfl
    have L := zd6 (P := P) (w := w) (K := K) (mg := mg) (base := aa) (D := a.x_NoOffer) (fr := ["_law_choice", "_law_k", "_law_value"]) (fv := [.ref x, .int kk, .bl b]) (k := 23) (r := true) (fun H => H x = some (.ins a.x_Choice dx (chF wd pl)) ∧ PicksAt H pl ps ∧ WoodT H wd m ts) Same hp ⟨rfl, rfl, rfl, by decide +kernel, by decide +kernel, by decide +kernel, by decide +kernel⟩ Cl.hcl Cl.inj Cl.has Cl.hfv Cl.hlen (fun _ _ _ => rfl)
     (fun q A outer s H Q E hr C0 qt qf => ⟨_, zdb (pv 0) T.C_Choice T.g_Choice_why (zef (P := P) (w := w) (base := aa) T) (hr.mono (by decide)) T.K_Choice_why.B .nil zfk (zaa (pv 1) (zaa (pv 2) zab)), ⟨_, rfl, x, _, _, rfl, C0.1, rfl, _, rfl, _, rfl, x, dx, wd, pl, m, ts, ps, kk, b, rfl, C0.1, C0.2.1, C0.2.2, m9, m1, ok, az, fun H' s' => qt rfl H' s'⟩⟩)
    have G := zbz (P := P) (w := w) (base := aa) T HK L (.all fun us hl => match us, hl with | [], _ => rfl) zei (fun H h => h.2.1)
    refine ⟨_, G, rfl, ⟨⟨(sE.trans s7) _ _ aw, au.same (sE.trans s7), av _ (Same.tup (sE.trans s7))⟩, hp, ar⟩, fun H8 S8 _ => ?_⟩
    have s8 := sE.trans (s7.trans (S8 rfl))
    refine ⟨rfl, _, rfl, ?_⟩
    refine zcq rfl ?_
    have sF := s8
    clear s8 G L Cl hp ar S8 s7 np kb
    generalize H8 = HF at sF ⊢
    refine ⟨((ay.same s4).same sF).tab _ aB, fun p c2 H7 np s7 hp aK aa ci _ _ kb => ?_⟩
    have Cl := zg5 (base := aa) (fr := ["_law_choice", "_law_k", "_law_value"]) (fv := [.ref x, .int kk, .bl b]) aT (by decide +kernel) (by decide +kernel) (fun i x' v h1 h2 => by
    match i, h1, h2 with
    | 0, h1, h2 => cases h1; cases h2; exact ci 3 "_law_choice" (.ref x) rfl rfl rfl
    | 1, h1, h2 => cases h1; cases h2; exact ci 7 "_law_k" (.int kk) rfl rfl rfl
    | 2, h1, h2 => cases h1; cases h2; exact ci 8 "_law_value" (.bl b) rfl rfl rfl
    | _ + 3, h1, _ => cases h1) al rfl
    have L := zd6 (P := P) (w := w) (K := K) (mg := mg) (base := aa) (D := a.x_NoOffer) (fr := ["_law_choice", "_law_k", "_law_value"]) (fv := [.ref x, .int kk, .bl b]) (k := 23) (r := true) (fun H => H x = some (.ins a.x_Choice dx (chF wd pl)) ∧ PicksAt H pl ps ∧ WoodT H wd m ts) Same hp ⟨rfl, rfl, rfl, by decide +kernel, by decide +kernel, by decide +kernel, by decide +kernel⟩ Cl.hcl Cl.inj Cl.has Cl.hfv Cl.hlen (fun _ _ _ => rfl)
     (fun q A outer s H Q E hr C0 qt qf => ⟨_, zdb (pv 0) T.C_Choice T.g_Choice_choose (zcu (P := P) (w := w) (base := aa) T) (hr.mono (by decide)) T.K_Choice_choose.B .nil zfk (zaa (pv 1) (zaa (pv 2) zab)), ⟨_, rfl, x, _, _, rfl, C0.1, rfl, _, rfl, _, rfl, x, dx, wd, pl, m, ts, ps, kk, b, rfl, C0.1, C0.2.1, C0.2.2, m9, m1, ok, (fun kn e h => absurd h (az kn e)), fun H' s' => qt rfl H' s'⟩⟩)
    have G := zbz (P := P) (w := w) (base := aa) T HK L (.all fun us hl => match us, hl with | [], _ => rfl) zei (fun H h => h.2.1)
    refine ⟨_, G, rfl, ⟨⟨(sF.trans s7) _ _ aw, au.same (sF.trans s7), av _ (Same.tup (sF.trans s7))⟩, hp, aK⟩, fun H8 S8 _ => ?_⟩
    have s8 := sF.trans (s7.trans (S8 rfl))
    refine ⟨rfl, _, rfl, ?_⟩
    refine zcq rfl ?_
    exact aW _ s8
   refine zkj (decide_eq_true km) ?_
   refine ⟨_, rfl, _, rfl, ln, _, rfl, .inl (SqL.of (sE _ _ g4)), rfl, zbu _, _, rfl, ?_⟩
   refine zt4 (show (!inV (.int kk) (zal (ps.map (·.1)))) = true by rw [Bool.eq_false_iff.mpr aE]; rfl) ?_
   obtain ⟨kn, rfl⟩ : ∃ kn : Nat, kk = (kn : Int) := ⟨kk.toNat, by omega⟩
   obtain ⟨os, cr, be⟩ := cH.ex
   refine ⟨_, rfl, _, rfl, _, rfl, _, rfl, ((ay.same s4).same sE).tab _ bz, x, dx, wd, pl, lo, m, ts, ps, kn, b, os, rfl, sE _ _ aw, au.same sE, av _ (Same.tup sE), (av _ (Same.tup sE)).ok, m9, m1, by omega, ok, mem_openP.mpr ⟨by omega, by omega, aM kn rfl⟩, sE _ _ cr, be.same (Same.tup sE), fun H9 s9 => ?_⟩
   refine ⟨_, rfl, ?_⟩
   refine zd1 ?_
   exact aW _ (sE.trans s9)
 obtain ⟨tA, hA, rA⟩ := aH
 obtain ⟨cZ, cq, cp⟩ := zxv (X := (zb3 CX0 P w K mg base ["_law_script", "_law_state", "_law_wood_here", "_law_choice", "_law_chosen", "_law_offers", "_law_turn", "_law_k", "_law_value", "_law_named"] "law" (zah zcj) a.f_law cdv A outer s H E).nox) (st := (za2 zcj).drop 3) (zae (zao (i := 3) sc_law.nd rfl (Or.inr rfl) (zvq T.g_Choice___init__ af hr.lv rfl T.g_Choice T.K_Choice___init__.B .nil zg3 (zaa (pv 2) zab)))
   (zae (zao (i := 4) sc_law.nd rfl (Or.inl rfl) (zag aj hr.lv rfl T.K_law_played (zaa (pv 1) (zaa (pv 3) (zaa (zag ag hr.lv rfl T.K_law_broken (zaa (pv 2) zab)) (zaa (zat (ixT (K := K)) (pv 2) zad (fun _ _ => rfl)) zab))))))
   (zae (zao (i := 5) sc_law.nd rfl (Or.inl rfl) (zkb (pv 3) T.C_Choice T.g_Choice_offers ad hr.lv T.K_Choice_offers.B .nil zg3))
   (zae (zch PassesOwn.never rfl (zcs rfl T.m_range (zaa zad zab)) (zaw (i := 6) sc_law.nd rfl (Or.inl rfl)) (zae (zao (i := 7) sc_law.nd rfl (Or.inr rfl) (zag ac hr.lv rfl T.K_law_take (zaa (pv 1) (zaa (zat (ixT (K := K)) (pv 2) zad (fun _ _ => rfl)) zab))))
   (zae (za4 (zan zbq (zag ac hr.lv rfl T.K_law_take (zaa (pv 1) (zaa zad zab))) zad (zaq _)) (zai (zao (i := 7) sc_law.nd rfl (Or.inr rfl) (zat (ixL (K := K)) (za8 (zaa (znu zkn zad) (zaa (zat (ixT (K := K)) (pv 2) zad (fun _ _ => rfl)) (zaa zad (zaa (zax zfz zad (zax zo1 zad zad)) (zaa (zax zo1 zad zad) zab)))))) (zag ac hr.lv rfl T.K_law_take (zaa (pv 1) (zaa zad zab))) (fun _ _ => rfl)))) za0)
   hA)))
   (zai (zap (zdk (zbc (zjy hr.units) (zkb (pv 3) T.C_Choice T.g_Choice_chosen ah hr.lv T.K_Choice_chosen.B .nil zg3) (pv 4) (zaq _)) (zd4 (zbc (zjy hr.units) (zkb (pv 3) T.C_Choice T.g_Choice_offers ad hr.lv T.K_Choice_offers.B .nil zg3) (pv 5) (zaq _))))))))))
 refine ⟨_, (zae (zao (i := 1) sc_law.nd rfl (Or.inl rfl) (za8 (zaa (pv 0) (zaa zad zab))))
   (zae (zao (i := 2) sc_law.nd rfl (Or.inl rfl) (zag ak hr.lv rfl T.K_law_wood (zaa (pv 1) (zaa zad zab))))
   (zae (za4 (zan (zhg hr.units) (zag ao hr.lv rfl T.K_law_sets (zaa (zag ag hr.lv rfl T.K_law_broken (zaa (pv 2) zab)) (zaa (znu zkn zad) (zaa (za8 zab) zab)))) (za8 zab) (zaq _)) (zai (zao (i := 2) sc_law.nd rfl (Or.inl rfl) (zbb (zaa (zat (ixT (K := K)) (pv 2) zad (fun _ _ => rfl)) (zaa (zat (ixT (K := K)) (pv 2) zad (fun _ _ => rfl)) (zaa (zbb zab) zab)))))) za0)
   cq))), ?_⟩
 refine ⟨_, rfl, zar (by show 2 ≤ 1000; decide), fun pen ae => ?_⟩
 have pn := zvj hS hl ae
 have s1 := zaf ae (.lst [.ref sp, .int 0])
 generalize L2.upd H pen (.lst [.ref sp, .int 0]) = H1 at pn s1 ⊢
 have rest : ∀ (wd : Addr) (m : Nat) (ts : List Tie) (k : Int) (H2 : Hp), KeepA [] H H2 → H2 pen = some (.lst [.ref sp, .int k]) → 0 ≤ k → k ≤ 500 → 1 ≤ m → m ≤ 9 → (∃ s, s < 2 ^ m ∧ zbg ts s = true) → ts.length ≤ 29 → (∀ H', zc7 H2 H' → WoodT H' wd m ts) → cZ { nx := fun _ H' => Q .non H', rt := Q } [some (.ref sp), some (.ref pen), some (.ref wd), none, none, none, none, none, none, none] H2 := by
  intro wd m ts k H2 aD aP k0 k5 m1 m9 aC bb ap
  refine cp _ _ _ ?_
  have W := ap H2 (zgo H2)
  obtain ⟨bY, bV, br⟩ := aC
  refine ⟨_, rfl, fun x dx hx cT nd => ?_⟩
  have t1 := zaf cT (.own x)
  have t2 := t1.trans (zaf (show L2.upd H2 dx (.own x) x = none by rw [zak (Ne.symm nd)]; exact hx) (.ins a.x_Choice dx []))
  have bQ : L2.upd (L2.upd H2 dx (.own x)) x (.ins a.x_Choice dx []) x = some (.ins a.x_Choice dx []) := zac
  generalize L2.upd (L2.upd H2 dx (.own x)) x (.ins a.x_Choice dx []) = eK at t2 bQ ⊢
  refine ⟨x, dx, wd, m, ts, rfl, bQ, W.same t2, m9, m1, ⟨bY, bV, br⟩, fun bg H4 t4 l4 c4 n4 bK au => ⟨rfl, ?_⟩⟩
  have bq : zc7 H2 H4 := zav (Same.tup t2) t4
  have W4 := ap H4 bq
  have xn : H x = none := aD.dom _ hx
  have cW := (aD.same t2).ch c4 (.inr xn)
  have ax : H4 pen = some (.lst [.ref sp, .int k]) := l4 _ _ (t2 _ _ aP)
  have aG : H bg = none := (aD.same t2).dom _ n4
  obtain ⟨b7, bU, ⟨cY, cA, aY, de, cN⟩, cu⟩ := W4.ex
  refine ⟨_, rfl, _, rfl, _, rfl, wd, m, ts, rfl, W4, m9, by omega, fun lb H5 s5 aI bv => ?_⟩
  have bx : H5 lb = some (.lst (zal (brN m ts))) := bv
  have bP := cW.same s5
  have aN := s5 _ _ ax
  have bc : lb ≠ bg := fun z => by
   obtain ⟨zs, hz, _⟩ := au.ex
   rw [z, hz] at aI
   cases aI
  have bi : lb ≠ pen := fun z => by rw [z, ax] at aI; cases aI
  refine ⟨_, rfl, wd, _, _, _, rfl, rfl, sqT (s5 _ _ aY), at0, pen, sp, ns, k, x, dx, wd, bg, lb, m, ts, rfl, fun k' H' KA dl => zge hS hl (bP.comp KA (zxu (.inr ae) (.inr xn) (.inr aG))) ae dl, aN, k0, by omega, s5 _ _ bK, au.same s5, bc, fun H' t => ap H' (zav bq (zav (Same.tup s5) t)), bx, bi, m1, m9, ⟨bY, bV, zsd br, br⟩, fun lc pl ps k6 H6 cD t6 cF eQ eE bw bN cL eA dY eu ok wr => ?_⟩
  have bE := bP.comp cD (zxu (.inr ae) (.inr xn) (.inr aG))
  have bS := zav bq (zav (Same.tup s5) t6)
  have p9 := ok.len
  refine ⟨_, rfl, x, _, _, rfl, bw, rfl, x, dx, wd, pl, m, ts, ps, rfl, bw, bN, ap H6 bS, m9, m1, by omega, ok.stand m1, fun lo os H7 s7 eH cX be => ?_⟩
  have aL := bE.same s7
  have aV := zav bS (Same.tup s7)
  have aR := zpq m1 m9 cX be
  have aU := bN.same s7
  have aZ := cL.same s7
  have aF : H7 x = some (.ins a.x_Choice dx (chF wd pl)) := s7 _ _ bw
  have ai := s7 _ _ cF
  refine ⟨_, rfl, by rw [bL]; decide, by rw [bL]; decide, ?_⟩
  refine zd9 (n := 8) (fun i σ H8 => ∃ (k8 : Int) (v6 v7 v8 v9 : Option V), σ = [some (.ref sp), some (.ref pen), some (.ref wd), some (.ref x), some (.ref lc), some (.ref lo), v6, v7, v8, v9] ∧ SameX pen H7 H8 ∧ H8 pen = some (.lst [.ref sp, .int k8]) ∧ 0 ≤ k8 ∧ k8 ≤ 600 + 10 * i) ⟨k6, none, none, none, none, rfl, Same.x (Same.refl H7), ai, by omega, by omega⟩ ?_ ?_
  ·rintro i σ H8 hi ⟨k8, v6, v7, v8, v9, rfl, x8, bA, cU, cQ⟩
   have cI := aL.pen x8 (.inr ae) ai bA
   have bG := zav aV (SameX.tup ai x8)
   obtain ⟨dQ, dW, ⟨eO, eh, cC, eL, cG⟩, dM⟩ := (ap H8 bG).ex
   have go : ∀ (kk kd : Int) (v6 v8 v9 : Option V) (H9 : Hp), SameX pen H7 H9 → H9 pen = some (.lst [.ref sp, .int kd]) → 0 ≤ kd → kd ≤ 609 + 10 * i → ∀ D : zgt, (∀ (v8 v9 : Option V) (H3 : Hp), SameX pen H9 H3 → H3 pen = some (.lst [.ref sp, .int (kd + 1)]) → D.nx [some (.ref sp), some (.ref pen), some (.ref wd), some (.ref x), some (.ref lc), some (.ref lo), v6, some (.int kk), v8, v9] H3) → tA D [some (.ref sp), some (.ref pen), some (.ref wd), some (.ref x), some (.ref lc), some (.ref lo), v6, some (.int kk), v8, v9] H9 := by
    intro kk kd v6 v8 v9 H9 x9 bZ bJ cS D nx
    have aO := aL.pen x9 (.inr ae) ai bZ
    exact rA D kk kd pen x dx wd pl lc lo m ts ps v6 v8 v9 H9 (aO.tab _ bz) (aO.tab _ ta) (zge hS hl aO ae bZ) bJ (by omega) (x9 _ _ (fun z => by rw [z, ai] at aF; cases aF) aF) (aU.x ai (za9 aU ai) x9) (aZ.x ai (za9 aZ ai) x9) ok (fun H' t => ap H' (zav (zav aV (SameX.tup ai x9)) t)) m1 m9 bb (aR.x ai (za9 aR ai) x9) nx
   refine ⟨_, rfl, _, rfl, wd, _, _, _, rfl, rfl, sqT cC, at0, pen, sp, ns, (m : Int), k8, rfl, zge hS hl cI ae bA, by omega, by omega, by omega, fun wk dD eo => ?_⟩
   have x9 := x8.trans (za1 (pen := pen) (H := H8) (.lst [.ref sp, .int (k8 + 1)]))
   have g9 : L2.upd H8 pen (.lst [.ref sp, .int (k8 + 1)]) pen = some (.lst [.ref sp, .int (k8 + 1)]) := zac
   generalize L2.upd H8 pen (.lst [.ref sp, .int (k8 + 1)]) = H9 at x9 g9 ⊢
   have aO := aL.pen x9 (.inr ae) ai g9
   refine ⟨_, rfl, pen, sp, ns, 3, k8 + 1, rfl, zge hS hl aO ae g9, by omega, by omega, by decide, fun wt dF dZ => ?_⟩
   have xA := x9.trans (za1 (pen := pen) (H := H9) (.lst [.ref sp, .int (k8 + 1 + 1)]))
   have gA : L2.upd H9 pen (.lst [.ref sp, .int (k8 + 1 + 1)]) pen = some (.lst [.ref sp, .int (k8 + 1 + 1)]) := zac
   generalize L2.upd H9 pen (.lst [.ref sp, .int (k8 + 1 + 1)]) = HA at xA gA ⊢
   have eJ := aL.pen xA (.inr ae) ai gA
   refine ⟨rfl, _, rfl, ?_⟩
   refine zci (fun cz => ?_) (fun cz => ?_)
   ·have du := zav aV (SameX.tup ai xA)
    obtain ⟨dO, dG, ⟨dH, dR, di, dX, dg⟩, dU⟩ := (ap HA du).ex
    refine ⟨1, rfl, _, rfl, wd, _, _, _, rfl, rfl, sqT di, at0, _, _, rfl, rfl, ⟨by decide, by decide, by decide⟩, _, _, rfl, rfl, _, _, rfl, rfl, ⟨by decide, by decide, by decide⟩, zar (by show 5 ≤ 1000; decide), fun lk bF => ?_⟩
    have sB := zaf bF (.lst [.int (-1), .int (m : Int), .int 0, .int (0 - 10 ^ (50 : Int).toNat), .int (10 ^ (50 : Int).toNat)])
    have gB : L2.upd HA lk (.lst [.int (-1), .int (m : Int), .int 0, .int (0 - 10 ^ (50 : Int).toNat), .int (10 ^ (50 : Int).toNat)]) lk = some (.lst [.int (-1), .int (m : Int), .int 0, .int (0 - 10 ^ (50 : Int).toNat), .int (10 ^ (50 : Int).toNat)]) := zac
    have bo := sB _ _ gA
    generalize L2.upd HA lk (.lst [.int (-1), .int (m : Int), .int 0, .int (0 - 10 ^ (50 : Int).toNat), .int (10 ^ (50 : Int).toNat)]) = HB at sB gB bo ⊢
    have xB := xA.trans (Same.x sB)
    have cV := aL.pen xB (.inr ae) ai bo
    refine ⟨_, rfl, pen, sp, ns, 5, k8 + 1 + 1, rfl, zge hS hl cV ae bo, by omega, by omega, by decide, fun wj dJ dE => ?_⟩
    have nk : lk ≠ pen := fun z => by rw [z, gA] at bF; cases bF
    have xC := xB.trans (za1 (pen := pen) (H := HB) (.lst [.ref sp, .int (k8 + 1 + 1 + 1)]))
    have gC : L2.upd HB pen (.lst [.ref sp, .int (k8 + 1 + 1 + 1)]) pen = some (.lst [.ref sp, .int (k8 + 1 + 1 + 1)]) := zac
    have bT : L2.upd HB pen (.lst [.ref sp, .int (k8 + 1 + 1 + 1)]) lk = some (.lst [.int (-1), .int (m : Int), .int 0, .int (0 - 10 ^ (50 : Int).toNat), .int (10 ^ (50 : Int).toNat)]) := by rw [zak nk]; exact gB
    generalize L2.upd HB pen (.lst [.ref sp, .int (k8 + 1 + 1 + 1)]) = HC at xC gC bT ⊢
    obtain ⟨kk, c7⟩ : ∃ kk : Int, atI [V.int (-1), .int (m : Int), .int 0, .int (0 - 10 ^ (50 : Int).toNat), .int (10 ^ (50 : Int).toNat)] wj = some (.int kk) := by
     have e : wj = 0 ∨ wj = 1 ∨ wj = 2 ∨ wj = 3 ∨ wj = 4 := by omega
     rcases e with e | e | e | e | e <;> rw [e] <;> exact ⟨_, rfl⟩
    refine ⟨lk, _, _, _, rfl, rfl, SqL.of bT, c7, ?_⟩
    refine go kk _ _ _ _ HC xC gC (by omega) (by omega) _ fun v8 v9 HD xD hD => ?_
    exact ⟨_, _, _, _, _, rfl, xC.trans xD, hD, by omega, by omega⟩
   ·refine go wk _ _ _ _ HA xA gA (by omega) (by omega) _ fun v8 v9 HB xB hB => ?_
    exact ⟨_, _, _, _, _, rfl, xA.trans xB, hB, by omega, by omega⟩
  ·rintro σ H8 ⟨k8, v6, v7, v8, v9, rfl, x8, bA, cU, cQ⟩
   have bI := aU.x ai (za9 aU ai) x8
   have cn := aZ.x ai (za9 aZ ai) x8
   have dA := aR.x ai (za9 aR ai) x8
   have ba : H8 x = some (.ins a.x_Choice dx (chF wd pl)) := x8 _ _ (fun z => by rw [z, ai] at aF; cases aF) aF
   have bG := zav aV (SameX.tup ai x8)
   refine ⟨_, rfl, x, _, _, rfl, ba, rfl, x, dx, wd, pl, ps, rfl, ba, bI, fun lk H9 s9 dL P9 => ?_⟩
   obtain ⟨eD, g3, cy⟩ := P9.ex
   obtain ⟨ef, cR, bj⟩ := (cn.same s9).ex
   refine ⟨_, rfl, .list (ps.map zbw), .list (ps.map zbw), ⟨lk, _, rfl, g3, cy.dn⟩, ⟨lc, _, rfl, cR, bj.dn⟩, zb0 _, zb0 _, _, rfl, ?_⟩
   rw [zk3 _ (SeqAt.canLay_of_shaped (zb0 _))]
   refine zll ?_
   refine ⟨_, rfl, x, _, _, rfl, s9 _ _ ba, rfl, x, dx, wd, pl, m, ts, ps, rfl, s9 _ _ ba, bI.same s9, ap H9 (zav bG (Same.tup s9)), m9, m1, by omega, ok.stand m1, fun cM eP HA sA dw bf bd => ?_⟩
   obtain ⟨dP, dh, bu⟩ := ((dA.same s9).same sA).ex
   refine ⟨_, rfl, .list ((zi9 ts m ps).map zbw), .list ((zi9 ts m ps).map zbw), ⟨cM, _, rfl, bf, bd.dn⟩, ⟨lo, _, rfl, dh, bu.dn⟩, zb0 _, zb0 _, ?_⟩
   rw [zk3 _ (SeqAt.canLay_of_shaped (zb0 _))]
   exact q _
 refine ⟨_, rfl, pen, sp, ns, 6, 0, rfl, pn, by decide, by decide, by decide, by decide, fun wd m bs cs k2 H2 x2 bp eB eF m1 m9 W2 eG => ?_⟩
 have aD := ((KeepA.refl [] H).same s1).pen x2 (.inr ae) pn.at_ bp
 obtain ⟨ts, dI, dN, bb, ap⟩ := W2.ties
 have W := ap H2 (zgo H2)
 obtain ⟨b7, bU, ⟨tb, tc, hw, hb, hc⟩, dn⟩ := W.ex
 refine ⟨_, rfl, wd, m, ts, rfl, W, m9, by omega, fun lb H3 s3 aI bx => ?_⟩
 refine ⟨1, rfl, zar (by show 0 ≤ 1000; decide), fun le ce => ?_⟩
 have s4 := s3.trans (zaf ce (.lst []))
 have g4 : L2.upd H3 le (.lst []) le = some (.lst []) := zac
 have cg := (zaf ce (.lst [])) _ _ bx
 generalize L2.upd H3 le (.lst []) = H4 at s4 g4 cg ⊢
 have pw : 2 ^ m ≤ 512 := ztk m9
 refine ⟨lb, le, brN m ts, -1, [], rfl, cg, by rw [zh6]; exact pw, ⟨⟨[], g4, rfl⟩, by decide, (fun _ z => nomatch z)⟩, fun ls H5 s5 dS bW => ?_⟩
 rw [zr5] at bW
 refine ⟨zar (by show 0 ≤ 1000; decide), fun aS aJ => ?_⟩
 have s6 := (s4.trans s5).trans (zaf aJ (.lst []))
 have g6 : L2.upd H5 aS (.lst []) aS = some (.lst []) := zac
 have bO := (zaf aJ (.lst [])) _ _ bW
 generalize L2.upd H5 aS (.lst []) = H6 at s6 g6 bO ⊢
 refine ⟨ls, aS, (zhp m ts).map (fun k : Nat => (k : Int)), [], rfl, rfl, SqL.of (by rw [zqr]; exact bO), SqL.of g6, _, rfl, ?_⟩
 have bE := aD.same s6
 by_cases e : zhp m ts = []
 ·refine zfr (by rw [e]; rfl) ?_
  refine ⟨_, rfl, wd, _, _, _, rfl, rfl, sqT (s6 _ _ hw), at0, _, rfl, wd, _, _, _, rfl, rfl, sqT (s6 _ _ hw), at1, ?_⟩
  refine ⟨zar (by show 0 ≤ 1000; decide), fun te c9 => ?_⟩
  have s7 := s6.trans (zaf c9 (.tup []))
  have g7 : L2.upd H6 te (.tup []) te = some (.tup []) := zac
  generalize L2.upd H6 te (.tup []) = H7 at s7 g7 ⊢
  refine ⟨zar (by show 3 ≤ 1000; decide), fun aQ bB => ?_⟩
  have bX := zaf bB (.tup [.int (m : Int), .ref tb, .ref te])
  have s8 := s7.trans bX
  have g8 : L2.upd H7 aQ (.tup [.int (m : Int), .ref tb, .ref te]) aQ = some (.tup [.int (m : Int), .ref tb, .ref te]) := zac
  have bR := bX _ _ g7
  generalize L2.upd H7 aQ (.tup [.int (m : Int), .ref tb, .ref te]) = H8 at s8 g8 bR ⊢
  obtain ⟨cJ, aC, _, bh, bt⟩ := (W2.cut hw (Same.tup s8) g8 bR).bare
  exact rest aQ m cJ k2 H8 (aD.same s8) (s8 _ _ bp) (by omega) (by omega) m1 m9 aC bh bt
 ·refine zbs (fun z => e (by simpa using z)) ?_
  obtain ⟨wa, cx⟩ := List.exists_mem_of_ne_nil _ e
  exact rest wd m ts k2 H6 bE (s6 _ _ bp) (by omega) (by omega) m1 m9 ⟨wa, mem_wareL.mp cx⟩ bb fun H' t => ap H' (zav (Same.tup s6) t)
end
theorem all_mk {l : PySem.W.OpenLaw} {w : World} {K : PySem.W.Frag} {h : Heap} {mg : Str → Option Value} {fa f1 f2 f3 f4 f5 f6 f7 f8 f9 f10 f11 f12 f13 f14 f15 f16 f17 f18 f19 f20 f21 f22 f23 f24 f25 f26 f27 f28 f29 f30 f31 f32 f33 f34 f35 f36 f37 f38 f39 f40 f41 f42 f43 f44 f45 f46 cc12 tt12 cc40 tt40 y_WoodError y_NoWood y_NoCount y_NoWares y_NoOffer y_Unlike y_NoText y_NoRow y_NoName y_Choice : Addr} (X : K.In h) (G : h.Ns mainGlobals mg) (hfa : mg "law" = some (.ref fa))
  {d1 d2 d3 d4 d5 d6 d7 d8 d9 d10 d11 d12 d13 d14 d15 d16 d17 d18 d19 d20 d21 d22 d23 d24 d25 d26 d27 d28 d29 d30 d31 d32 d33 d34 d35 d36 d37 d38 d39 d40 d41 d42 d43 d44 d45 d46 : FuncData}
  {coc12 : Value} {cod12 : Option Addr} {cvs12 : Array Value} {csl12 : Array (Option Value)}
  {coc40 : Value} {cod40 : Option Addr} {cvs40 : Array Value} {csl40 : Array (Option Value)}
  (a1 : Dk K "has" zsz f1 d1)
  (a2 : Dk K "with_option" zew f2 d2)
  (a3 : Dk K "open_options" zct f3 d3)
  (a4 : Dk K "many_ties" zgg f4 d4)
  (a5 : Dk K "tie_at" zky f5 d5)
  (a6 : Dk K "count_in" ze4 f6 d6)
  (a7 : Dk K "every_tie" zf4 f7 d7)
  (a8 : Dk K "sure_broken" zep f8 d8)
  (a9 : Dk K "least_sum" zej f9 d9)
  (a10 : Dk K "sure_broken_bough" za5 f10 d10)
  (a11 : Dk K "first_sure_broken" zcg f11 d11)
  (a12 : Dk K "cases_of" zb5 f12 d12)
  (e12 : d12.code = .ref cc12) (m12 : K.lookup cc12 = some ⟨coc12, cod12, .fields cvs12, csl12⟩) (n12 : (cvs12[11]? : Option Value) = some (.ref tt12))
  (a13 : Dk K "ware_leaf" zfx f13 d13)
  (a14 : Dk K "told_tree" zdh f14 d14)
  (a15 : Dk K "first_ware" zfd f15 d15)
  (a16 : Dk K "first_keeping" zb1 f16 d16)
  (a17 : Dk K "bars" zpc f17 d17)
  (a18 : Dk K "least_ties" zfl f18 d18)
  (a19 : Dk K "tie_others" zdr f19 d19)
  (a20 : Dk K "left_without" zb7 f20 d20)
  (a21 : Dk K "stand_of" zhe f21 d21)
  (a22 : Dk K "open_at" zij f22 d22)
  (a23 : Dk K "first_ware_at" zdl f23 d23)
  (a24 : Dk K "leads_on" zhb f24 d24)
  (a25 : Dk K "why_barred" ze7 f25 d25)
  (a26 : Dk K "least_picks" zeq f26 d26)
  (a27 : Dk K "pick_others" zes f27 d27)
  (a28 : Dk K "_law_take" zeb f28 d28)
  (a29 : Dk K "_law_boughs" zcf f29 d29)
  (a30 : Dk K "_law_cross" zbp f30 d30)
  (a31 : Dk K "_law_wood" zd2 f31 d31)
  (a32 : Dk K "_law_keeps" zdj f32 d32)
  (a33 : Dk K "_law_broken" zdp f33 d33)
  (a34 : Dk K "_law_heard" zfu f34 d34)
  (a35 : Dk K "_law_stand" zgb f35 d35)
  (a36 : Dk K "_law_sets" zhj f36 d36)
  (a37 : Dk K "_law_played" zcd f37 d37)
  (a38 : Dk K "_law_closed" zc2 f38 d38)
  (a39 : Dk K "_law_open" zfa f39 d39)
  (a40 : Dk K "law" zcj f40 d40)
  (e40 : d40.code = .ref cc40) (m40 : K.lookup cc40 = some ⟨coc40, cod40, .fields cvs40, csl40⟩) (n40 : (cvs40[11]? : Option Value) = some (.ref tt40))
  (a41 : Dq K y_Choice "__init__" "Choice.__init__" zcz f41 d41)
  (a42 : Dq K y_Choice "chosen" "Choice.chosen" zdn f42 d42)
  (a43 : Dq K y_Choice "offers" "Choice.offers" zcm f43 d43)
  (a44 : Dq K y_Choice "choose" "Choice.choose" zb2 f44 d44)
  (a45 : Dq K y_Choice "take_back" "Choice.take_back" za7 f45 d45)
  (a46 : Dq K y_Choice "why" "Choice.why" zcw f46 d46)
  (z1 : PySem.W.nsIn K mainGlobals "ValueError" = some none)
  (z2 : PySem.W.nsIn K mainGlobals "range" = some none)
  (z3 : PySem.W.nsIn K mainGlobals "len" = some none)
  (z4 : PySem.W.nsIn K mainGlobals "isinstance" = some none)
  (z5 : PySem.W.nsIn K mainGlobals "max" = some none)
  (z6 : PySem.W.nsIn K mainGlobals "int" = some none)
  (z7 : PySem.W.nsIn K mainGlobals "list" = some none)
  (z8 : PySem.W.nsIn K mainGlobals "tuple" = some none)
  (z9 : PySem.W.nsIn K mainGlobals "sorted" = some none)
  (z10 : PySem.W.nsIn K mainGlobals "enumerate" = some none)
  (z11 : PySem.W.nsIn K mainGlobals "sum" = some none)
  (gm_Choice : PySem.W.nsIn K mainGlobals "Choice" = some (some (.ref y_Choice)))
  (p1_Choice : PySem.W.plainGet K y_Choice Str.empty = true) (p2_Choice : PySem.W.hasDictIn K y_Choice = true) (p3_Choice : PySem.W.plainOver K y_Choice = true) (p4_Choice : PySem.W.findIn K (.ref y_Choice) "__setattr__" = some (some (.builtin "object.__setattr__"))) (p5_Choice : PySem.W.makesIn K y_Choice = true) (p6_Choice : PySem.W.keepIn K (.ref y_Choice) = true)
  (q_Choice_picks : PySem.W.findIn K (.ref y_Choice) "picks" = some none)
  (q_Choice_wood : PySem.W.findIn K (.ref y_Choice) "wood" = some none)
  (g_WoodError : PySem.W.nsIn K mainGlobals "WoodError" = some (some (.ref y_WoodError)))
  (g_NoWood : PySem.W.nsIn K mainGlobals "NoWood" = some (some (.ref y_NoWood)))
  (g_NoCount : PySem.W.nsIn K mainGlobals "NoCount" = some (some (.ref y_NoCount)))
  (g_NoWares : PySem.W.nsIn K mainGlobals "NoWares" = some (some (.ref y_NoWares)))
  (g_NoOffer : PySem.W.nsIn K mainGlobals "NoOffer" = some (some (.ref y_NoOffer)))
  (g_Unlike : PySem.W.nsIn K mainGlobals "Unlike" = some (some (.ref y_Unlike)))
  (g_NoText : PySem.W.nsIn K mainGlobals "NoText" = some (some (.ref y_NoText)))
  (g_NoRow : PySem.W.nsIn K mainGlobals "NoRow" = some (some (.ref y_NoRow)))
  (g_NoName : PySem.W.nsIn K mainGlobals "NoName" = some (some (.ref y_NoName)))
  (xa_WoodError : PySem.W.excIn K y_WoodError zg8 zgv = true) (xb_WoodError : PySem.W.findIn K (.ref y_WoodError) "__getattribute__" = some (some (.builtin "BaseException.__getattribute__"))) (xc_WoodError : PySem.W.findIn K (.ref y_WoodError) "__getattr__" = some none) (xd_WoodError : PySem.W.findIn K (.ref y_WoodError) "__class__" = some (some (.builtin "object.__class__")))
  (xa_NoWood : PySem.W.excIn K y_NoWood zg8 zgv = true) (xb_NoWood : PySem.W.findIn K (.ref y_NoWood) "__getattribute__" = some (some (.builtin "BaseException.__getattribute__"))) (xc_NoWood : PySem.W.findIn K (.ref y_NoWood) "__getattr__" = some none) (xd_NoWood : PySem.W.findIn K (.ref y_NoWood) "__class__" = some (some (.builtin "object.__class__")))
  (xa_NoCount : PySem.W.excIn K y_NoCount zg8 zgv = true) (xb_NoCount : PySem.W.findIn K (.ref y_NoCount) "__getattribute__" = some (some (.builtin "BaseException.__getattribute__"))) (xc_NoCount : PySem.W.findIn K (.ref y_NoCount) "__getattr__" = some none) (xd_NoCount : PySem.W.findIn K (.ref y_NoCount) "__class__" = some (some (.builtin "object.__class__")))
  (xa_NoWares : PySem.W.excIn K y_NoWares zg8 zgv = true) (xb_NoWares : PySem.W.findIn K (.ref y_NoWares) "__getattribute__" = some (some (.builtin "BaseException.__getattribute__"))) (xc_NoWares : PySem.W.findIn K (.ref y_NoWares) "__getattr__" = some none) (xd_NoWares : PySem.W.findIn K (.ref y_NoWares) "__class__" = some (some (.builtin "object.__class__")))
  (xa_NoOffer : PySem.W.excIn K y_NoOffer zg8 zgv = true) (xb_NoOffer : PySem.W.findIn K (.ref y_NoOffer) "__getattribute__" = some (some (.builtin "BaseException.__getattribute__"))) (xc_NoOffer : PySem.W.findIn K (.ref y_NoOffer) "__getattr__" = some none) (xd_NoOffer : PySem.W.findIn K (.ref y_NoOffer) "__class__" = some (some (.builtin "object.__class__")))
  (xa_Unlike : PySem.W.excIn K y_Unlike zg8 zgv = true) (xb_Unlike : PySem.W.findIn K (.ref y_Unlike) "__getattribute__" = some (some (.builtin "BaseException.__getattribute__"))) (xc_Unlike : PySem.W.findIn K (.ref y_Unlike) "__getattr__" = some none) (xd_Unlike : PySem.W.findIn K (.ref y_Unlike) "__class__" = some (some (.builtin "object.__class__")))
  (xa_NoText : PySem.W.excIn K y_NoText zg8 zgv = true) (xb_NoText : PySem.W.findIn K (.ref y_NoText) "__getattribute__" = some (some (.builtin "BaseException.__getattribute__"))) (xc_NoText : PySem.W.findIn K (.ref y_NoText) "__getattr__" = some none) (xd_NoText : PySem.W.findIn K (.ref y_NoText) "__class__" = some (some (.builtin "object.__class__")))
  (xa_NoRow : PySem.W.excIn K y_NoRow zg8 zgv = true) (xb_NoRow : PySem.W.findIn K (.ref y_NoRow) "__getattribute__" = some (some (.builtin "BaseException.__getattribute__"))) (xc_NoRow : PySem.W.findIn K (.ref y_NoRow) "__getattr__" = some none) (xd_NoRow : PySem.W.findIn K (.ref y_NoRow) "__class__" = some (some (.builtin "object.__class__")))
  (xa_NoName : PySem.W.excIn K y_NoName zg8 zgv = true) (xb_NoName : PySem.W.findIn K (.ref y_NoName) "__getattribute__" = some (some (.builtin "BaseException.__getattribute__"))) (xc_NoName : PySem.W.findIn K (.ref y_NoName) "__getattr__" = some none) (xd_NoName : PySem.W.findIn K (.ref y_NoName) "__class__" = some (some (.builtin "object.__class__")))
  (k_NoWares_WoodError : PySem.W.kitOne K (.ref y_NoWares) (.ref y_WoodError) = some true)
  (k_NoWares_NoWood : PySem.W.kitOne K (.ref y_NoWares) (.ref y_NoWood) = some false)
  (k_NoWares_NoCount : PySem.W.kitOne K (.ref y_NoWares) (.ref y_NoCount) = some false)
  (k_NoWares_NoWares : PySem.W.kitOne K (.ref y_NoWares) (.ref y_NoWares) = some true)
  (k_NoWares_NoOffer : PySem.W.kitOne K (.ref y_NoWares) (.ref y_NoOffer) = some false)
  (k_NoWares_Unlike : PySem.W.kitOne K (.ref y_NoWares) (.ref y_Unlike) = some false)
  (k_NoWares_NoText : PySem.W.kitOne K (.ref y_NoWares) (.ref y_NoText) = some false)
  (k_NoWares_NoRow : PySem.W.kitOne K (.ref y_NoWares) (.ref y_NoRow) = some false)
  (k_NoWares_NoName : PySem.W.kitOne K (.ref y_NoWares) (.ref y_NoName) = some false)
  (v_NoWares : PySem.W.kitOne K (.ref y_NoWares) (.type "ValueError") = some true)
  (s_NoWares_WoodError : zon K y_NoWares y_WoodError = true)
  (k_NoOffer_WoodError : PySem.W.kitOne K (.ref y_NoOffer) (.ref y_WoodError) = some true)
  (k_NoOffer_NoWood : PySem.W.kitOne K (.ref y_NoOffer) (.ref y_NoWood) = some false)
  (k_NoOffer_NoCount : PySem.W.kitOne K (.ref y_NoOffer) (.ref y_NoCount) = some false)
  (k_NoOffer_NoWares : PySem.W.kitOne K (.ref y_NoOffer) (.ref y_NoWares) = some false)
  (k_NoOffer_NoOffer : PySem.W.kitOne K (.ref y_NoOffer) (.ref y_NoOffer) = some true)
  (k_NoOffer_Unlike : PySem.W.kitOne K (.ref y_NoOffer) (.ref y_Unlike) = some false)
  (k_NoOffer_NoText : PySem.W.kitOne K (.ref y_NoOffer) (.ref y_NoText) = some false)
  (k_NoOffer_NoRow : PySem.W.kitOne K (.ref y_NoOffer) (.ref y_NoRow) = some false)
  (k_NoOffer_NoName : PySem.W.kitOne K (.ref y_NoOffer) (.ref y_NoName) = some false)
  (v_NoOffer : PySem.W.kitOne K (.ref y_NoOffer) (.type "ValueError") = some true)
  (s_NoOffer_WoodError : zon K y_NoOffer y_WoodError = true)
  : (∃ fd : FuncData, (∀ (s : Shared) (v : Value), BindsTo s fd ⟨[v], []⟩ [("_law_script", v)]) ∧ ∀ base : Heap, K.In base → base.Ns mainGlobals mg → (∀ p ∈ ([(cc12, tt12), (cc40, tt40)] : List (Addr × Addr)), zi7 mg base p.1 p.2) → FnOk l.prog w K mg base CX0 29 fa fd ["_law_script"] (spT tt12 (spT tt40 (zqd K)))) := by
 have e := hfa.symm.trans (PySem.W.mg_of X G a40.1)
 cases e
 have T : Txt K mg ⟨f1, f2, f3, f4, f5, f6, f7, f8, f9, f10, f11, f12, f13, f14, f15, f16, f17, f18, f19, f20, f21, f22, f23, f24, f25, f26, f27, f28, f29, f30, f31, f32, f33, f34, f35, f36, f37, f38, f39, fa, f41, f42, f43, f44, f45, f46, cc12, tt12, cc40, tt40, y_WoodError, y_NoWood, y_NoCount, y_NoWares, y_NoOffer, y_Unlike, y_NoText, y_NoRow, y_NoName, y_Choice⟩ ⟨d1, d2, d3, d4, d5, d6, d7, d8, d9, d10, d11, d12, d13, d14, d15, d16, d17, d18, d19, d20, d21, d22, d23, d24, d25, d26, d27, d28, d29, d30, d31, d32, d33, d34, d35, d36, d37, d38, d39, d40, d41, d42, d43, d44, d45, d46⟩ := ⟨PySem.W.mg_none_of X G z1, PySem.W.mg_none_of X G z2, PySem.W.mg_none_of X G z3, PySem.W.mg_none_of X G z4, PySem.W.mg_none_of X G z5, PySem.W.mg_none_of X G z6, PySem.W.mg_none_of X G z7, PySem.W.mg_none_of X G z8, PySem.W.mg_none_of X G z9, PySem.W.mg_none_of X G z10, PySem.W.mg_none_of X G z11, a1.df X G (bd2 fun _ _ _ _ _ _ _ _ => rfl), a2.df X G (bd2 fun _ _ _ _ _ _ _ _ => rfl), a3.df X G (bd3 fun _ _ _ _ _ _ _ _ _ => rfl), a4.df X G (bd1 fun _ _ _ _ _ _ _ => rfl), a5.df X G (bd2 fun _ _ _ _ _ _ _ _ => rfl), a6.df X G (bd2 fun _ _ _ _ _ _ _ _ => rfl), a7.df X G (bd1 fun _ _ _ _ _ _ _ => rfl), a8.df X G (bd3 fun _ _ _ _ _ _ _ _ _ => rfl), a9.df X G (bd3 fun _ _ _ _ _ _ _ _ _ => rfl), a10.df X G (bd3 fun _ _ _ _ _ _ _ _ _ => rfl), a11.df X G (bd4 fun _ _ _ _ _ _ _ _ _ _ => rfl), a12.df X G (bd4 fun _ _ _ _ _ _ _ _ _ _ => rfl), a13.df X G (bd3 fun _ _ _ _ _ _ _ _ _ => rfl), a14.df X G (bd5 fun _ _ _ _ _ _ _ _ _ _ _ => rfl), a15.df X G (bd3 fun _ _ _ _ _ _ _ _ _ => rfl), a16.df X G (bd4 fun _ _ _ _ _ _ _ _ _ _ => rfl), a17.df X G (bd4 fun _ _ _ _ _ _ _ _ _ _ => rfl), a18.df X G (bd3 fun _ _ _ _ _ _ _ _ _ => rfl), a19.df X G (bd4 fun _ _ _ _ _ _ _ _ _ _ => rfl), a20.df X G (bd2 fun _ _ _ _ _ _ _ _ => rfl), a21.df X G (bd1 fun _ _ _ _ _ _ _ => rfl), a22.df X G (bd2 fun _ _ _ _ _ _ _ _ => rfl), a23.df X G (bd2 fun _ _ _ _ _ _ _ _ => rfl), a24.df X G (bd3 fun _ _ _ _ _ _ _ _ _ => rfl), a25.df X G (bd3 fun _ _ _ _ _ _ _ _ _ => rfl), a26.df X G (bd4 fun _ _ _ _ _ _ _ _ _ _ => rfl), a27.df X G (bd4 fun _ _ _ _ _ _ _ _ _ _ => rfl), a28.df X G (bd2 fun _ _ _ _ _ _ _ _ => rfl), a29.df X G (bd2 fun _ _ _ _ _ _ _ _ => rfl), a30.df X G (bd3 fun _ _ _ _ _ _ _ _ _ => rfl), a31.df X G (bd2 fun _ _ _ _ _ _ _ _ => rfl), a32.df X G (bd2 fun _ _ _ _ _ _ _ _ => rfl), a33.df X G (bd1 fun _ _ _ _ _ _ _ => rfl), a34.df X G (bd1 fun _ _ _ _ _ _ _ => rfl), a35.df X G (bd1 fun _ _ _ _ _ _ _ => rfl), a36.df X G (bd3 fun _ _ _ _ _ _ _ _ _ => rfl), a37.df X G (bd4 fun _ _ _ _ _ _ _ _ _ _ => rfl), a38.df X G (bd3 fun _ _ _ _ _ _ _ _ _ => rfl), a39.df X G (bd4 fun _ _ _ _ _ _ _ _ _ _ => rfl), a40.df X G (bd1 fun _ _ _ _ _ _ _ => rfl), ⟨p5_Choice, a41.1, a41.2.1, p6_Choice⟩, a41.dm (bd2 fun _ _ _ _ _ _ _ _ => rfl), ⟨a42.1, a42.2.1, a42.2.2.kp⟩, a42.dm (bd1 fun _ _ _ _ _ _ _ => rfl), ⟨a43.1, a43.2.1, a43.2.2.kp⟩, a43.dm (bd1 fun _ _ _ _ _ _ _ => rfl), ⟨a44.1, a44.2.1, a44.2.2.kp⟩, a44.dm (bd3 fun _ _ _ _ _ _ _ _ _ => rfl), ⟨a45.1, a45.2.1, a45.2.2.kp⟩, a45.dm (bd2 fun _ _ _ _ _ _ _ _ => rfl), ⟨a46.1, a46.2.1, a46.2.2.kp⟩, a46.dm (bd3 fun _ _ _ _ _ _ _ _ _ => rfl), e12, e40, PySem.W.mg_of X G gm_Choice, ⟨p1_Choice, p2_Choice, p3_Choice, p4_Choice⟩, q_Choice_picks, q_Choice_wood, PySem.W.mg_of X G g_WoodError, PySem.W.mg_of X G g_NoWood, PySem.W.mg_of X G g_NoCount, PySem.W.mg_of X G g_NoWares, PySem.W.mg_of X G g_NoOffer, PySem.W.mg_of X G g_Unlike, PySem.W.mg_of X G g_NoText, PySem.W.mg_of X G g_NoRow, PySem.W.mg_of X G g_NoName, ⟨xa_WoodError, xb_WoodError, xc_WoodError, xd_WoodError⟩, ⟨xa_NoWood, xb_NoWood, xc_NoWood, xd_NoWood⟩, ⟨xa_NoCount, xb_NoCount, xc_NoCount, xd_NoCount⟩, ⟨xa_NoWares, xb_NoWares, xc_NoWares, xd_NoWares⟩, ⟨xa_NoOffer, xb_NoOffer, xc_NoOffer, xd_NoOffer⟩, ⟨xa_Unlike, xb_Unlike, xc_Unlike, xd_Unlike⟩, ⟨xa_NoText, xb_NoText, xc_NoText, xd_NoText⟩, ⟨xa_NoRow, xb_NoRow, xc_NoRow, xd_NoRow⟩, ⟨xa_NoName, xb_NoName, xc_NoName, xd_NoName⟩, k_NoWares_WoodError, k_NoWares_NoWood, k_NoWares_NoCount, k_NoWares_NoWares, k_NoWares_NoOffer, k_NoWares_Unlike, k_NoWares_NoText, k_NoWares_NoRow, k_NoWares_NoName, v_NoWares, s_NoWares_WoodError, k_NoOffer_WoodError, k_NoOffer_NoWood, k_NoOffer_NoCount, k_NoOffer_NoWares, k_NoOffer_NoOffer, k_NoOffer_Unlike, k_NoOffer_NoText, k_NoOffer_NoRow, k_NoOffer_NoName, v_NoOffer, s_NoOffer_WoodError⟩
 exact ⟨d40, zxh a40.2 fun _ _ _ _ _ _ _ => rfl, fun base _ _ LL => zwq T (LL _ List.mem_cons_self) (LL _ (List.mem_cons_of_mem _ List.mem_cons_self))⟩
theorem walk {l : PySem.W.OpenLaw} {q : Program} {loose : List Str} {XP : (Str → Option Value) → Heap → Prop} {YP : World → Heap → Prop} {d : DefRec} {K : Params → PySem.W.Frag} {c12 P12 c40 P40 : Addr} (hn : l.most = some 63) (hdf : d.params.defaults = [])
  (hY : ∀ (w : World) (h : Heap), YP w h → (K w.params).In h)
  (hK0 : ∀ w : World, PySem.W.noTabs (K w.params) = true) (hT : ∀ (w : World) (h : Heap), YP w h → PySem.W.TabsAt [(c12, P12), (c40, P40)] h)
(F : ∀ (w : World) (mg : Str → Option Value) (fa : Addr) (h : Heap), (K w.params).In h → h.Ns mainGlobals mg → mg d.name = some (.ref fa) →
   ∃ fd : FuncData, (∀ (s : Shared) (u : Value), BindsTo s fd ⟨[u], []⟩ [("_law_script", u)]) ∧ ∀ base : Heap, (K w.params).In base → base.Ns mainGlobals mg → (∀ p ∈ ([(c12, P12), (c40, P40)] : List (Addr × Addr)), zi7 mg base p.1 p.2) → FnOk l.prog w (K w.params) mg base CX0 29 fa fd ["_law_script"] (spT P12 (spT P40 (zqd (K w.params))))) :
  PySem.W.WalkO q loose XP YP l.row.toRowW d [] (fun f vs => PySem.call f vs) :=
 L2.walk_ofT (n := 63) (k := 29) (x := "_law_script") (tabs := fun _ => [(c12, P12), (c40, P40)]) (sp := fun w => (spT P12 (spT P40 (zqd (K w.params))))) hn (by decide) hdf ⟨rfl, by decide, by decide⟩ hY hK0 hT F (fun _ _ a ns hl hT hS => ⟨hT _ List.mem_cons_self, hT _ (List.mem_cons_of_mem _ List.mem_cons_self), a, ns, rfl, hS, hl, fun _ => rfl⟩)
end Ow
structure PySem.W.Fast : Prop where
 (tw14392340218570038597 tw1302643385556061085 tw146673160532956513 tw17125318900595538090 tw4165380167635415976 tw11562572628437435262 tw14600721597727103569 tw2277393469632017971 tw15922394232532004438 tw12187715622213084093 tw15908493295625513385 tw5891921708189738664 tw8597792108932124445 tw7768388678106457913 tw13046304760162464533 tw4992085416032073573 tw702529431752995951 tw1130278018901933212 tw6251143742699354776 tw8003140704398595223 tw2745807029952755359 tw16412850687862299230 tw13641878004192256937 tw17202105514728344652 tw10357303324271930031 tw9295943512672486474 tw8034428606068132635 tw9807452621337813452 tw2609322427104647257 tw14863755534590476325 tw9640351400028347596 tw18356515428695658190 tw16187493694396275244 tw11637981656662755005 tw11440573422784073393 tw6693016080232214680 tw7132154977196910964 tw4540854494447274193 tw5983469799832011127 tw17392197493568212015 tw785861698384940785 tw10145241585693570136 tw12026602366553537848 tw17934315992736396535 tw16946271873645173047 tw8621550682453988360 tw6442415556395109594 tw18331879636999830278 tw7079495575205417185 tw4961278478318366781 tw3168505565540554677 tw6085164254465588088 tw14061335269054430531 tw4604596696114301439 tw16104703261359008050 tw6205916888223444204 tw7290775933393629603 tw2648490641465424621 tw11758097821288828478 tw3191321429575774141 tw2130537503701603491 tw15447281476884038893 tw16023166988549048371 tw1543036481440495741 tw13121738815375498977 tw3156301563287227754 tw743786090359071585 tw870568445793027258 tw4560998023194173197 tw422893227533640003 tw12667268793606470777 tw10113971069798101975 tw6703252750399086945 tw4827673442284724007 tw6778079289535191575 tw18272499903395320888 tw3423936803874120646 tw5817184640314188208 tw3593368206110568272 tw13445798746016691742 tw10817882037512106301 tw5784443828912965919 tw15350920616084436924 tw7337964157621091515 tw10319805427848419741 tw11622404236407819357 tw2390062142067046762 tw15803245058337611452 tw14421957858010512559 tw6410723881193317452 tw11174600993341623084 tw9811970846671503960 tw577430843308822862 tw12611033290163052662 tw15724195752290113994 tw3886540467910588039 tw2095190943754514066 tw11397515487637126689 tw6739492500255139861 tw17484594953493171193 tw4639760138372900161 tw9125383822095285275 tw2025323780972769180 tw3953644588133367513 tw16009489812767837356 tw17424479488812192805 tw14351999749034674613 tw4908254547410133514 tw10384759731747781869 tw7169536455197109838 tw4589058351632926200 tw2097714134540650368 tw6397111610727093252 tw4900592790125452544 tw1696589270861140324 tw8803620900558193090 tw8517416755178665748 tw742627809477090321 tw4590806326556442732 tw12310313406694144677 tw12751071710044392763 tw10311107596112630684 tw3607980163293434386 tw3890384370245945911 tw18027833557848193470 tw913289848547497234 tw2771895181531001684 tw13160784723594114180 tw1890358253310428088 tw1900367495766573784 tw10527019708627337390 tw4145090988568098951 tw5316043623446532989 tw3749574903921541162 tw11249032493797111444 tw1010220461550553463 tw17161630972932460733 tw15839399822964929060 tw8058642450254124763 tw4501603634775526965 tw2600283909837082311 tw9857757800092916690 tw9713071190444582224 tw14379854542478404263 tw4561671045911211429 tw5654301219621791598 tw2137194094344477875 tw95348424135467921 tw14544651823082404460 tw14914759217521360587 tw6253009420562857907 tw11956511841404644608 tw12165688475773394394 tw759877262968023726 tw18122971733722505118 tw7140650364478487777 tw4318228134089995035 tw6874990696368760495 tw162867258617606173 tw5353554210610196310 tw4345949461638548744 tw13787344324838440355 tw13356149851465895390 tw16993802148907952259 tw9749047981627721812 tw16136302528220889100 tw331020603868003520 tw9740848851605342105 tw9500316646672326044 tw4320438172732378774 tw3979384605512720062 tw11040578548395772844 tw15861868751842795511 tw7732031765239287239 tw14368323729183829125 tw9391122221859758615 tw18337878190746282197 tw4066065477159174582 tw1661783166539237238 tw3244115939822335043 tw6698482814594965509 tw14279540841231919369 tw14345706166292681196 tw14379076954703434572 tw2282391334220693712 tw9421597611004681365 tw4339222076723549112 tw4020471624267959031 tw11607925235168202194 tw660839552729612309 tw12902163795556475905 tw9027299045037819665 tw3929520363169301835 tw5378182880542436838 tw15445240274823944753 tw6028757987408264631 tw9933639688265362635 tw10053273524995196348 tw3232359185727310551 tw3950466984946725790 tw2823514640402868101 tw17536870461433255104 tw6172517627171916244 tw1531495321492328490 tw1235407553718405620 tw11959161656367945795 tw9445111707348591852 tw5360588373106665733 tw7048227760239454136 tw4412940885420629519 tw13735792111652468300 tw7939095265457471650 tw4197002453369416974 tw2923331871477616466 tw12141450621218820795 tw6514551427583162351 tw16189814267695746928 tw5585578686802137376 tw16035569801786445507 tw18053963824848448180 tw7118268128011798626 tw10041172791711023444 tw5223774460229319111 tw11380972959516477139 tw5257897399717798068 tw16534565255098662950 tw45855263299096527 tw397034008240015044 tw116914509215725098 tw1699834221127159425 tw18199662287388934162 tw2349595863136110133 tw2221148655236879537 tw15238944379544958385 tw15621179137499769662 tw13928755968555915212 tw12682277865098620927 tw5863063413081006846 tw6627710274501243650 tw18117823563127618918 tw17152805541971861783 tw11908991075006988237 tw11576830550865686840 tw7422812615176206916 tw4782749403698263557 tw7530179536370899154 tw14393931159267523995 tw11751961853935174239 tw8165439287140899395 tw155166620423744853 tw18252846837529980513 tw4139053320017146021 tw16603504635771967136 tw18217155351757699207 tw13811359640486030999 tw11771130778512164130 tw4705774927652685874 tw3688645304722978087 tw11281520549712626561 tw4643886335716375309 tw5731871639757059928 tw6677781683594704911 tw8451256534206029870 tw6280520134284022271 tw14631470016148138697 tw2705243990004064258 tw5182197788274416365 tw7841294905564759771 tw12200293056633226071 tw7626417868066403981 tw4186845284412418002 tw5720259984591878546 tw15521086191099416934 tw17932789917526831122 tw9900329844489897665 tw10873595731163322129 tw2983055388281983901 tw1822496558420698158 tw96742810633497612 tw16844861311631086793 tw17954885107156471444 tw8327817840634040250 tw4039560460571763309 tw12802952743727971783 tw10883873678253293380 tw5483828451361410022 tw15832746066947778163 tw10171339268405152691 tw3232436196385437761 tw9938507091435362122 tw7504514139040525564 tw6307032395335025195 tw4865742176941962381 tw7540299452205521901 tw18292998630429755366 tw13007726730256924961 tw16502574141648216011 tw14835922262316883312 tw17534488407684717698 tw2412638925878500018 tw2310737979474693313 tw1714838558358086464 tw4179497573969660767 tw3722193226945478082 tw15143320546580561865 tw6719727709547670137 tw6701752837013863557 tw9963890128148274793 tw4903143651096607651 tw13456620642818736835 tw15777757401944430253 tw16180388965593298696 tw16489651209777229199 tw11631186125033770657 tw2321228154722723405 tw15409227981463859386 tw15990850808724415255 tw6509113803331204291 tw10085799569193890811 tw1670353648106281503 tw2147405957545069593 tw13071055537764537244 tw1774777448786752977 tw6709308018160921055 tw15870929528920692547 tw15700010006457684883 tw7285646498977953768 tw5019740918644445893 tw12471613790977244388 tw15737519406021842810 tw2777120178815094264 tw17258519063328454619 tw14229079224001415349 tw17343751287495386442 tw12446463368714066957 tw6887126479188388694 tw7179282368346912354 tw2242204298602029887 tw7021977431952213138 tw10771993988359222304 tw15211803760423499703 tw6364707582686400598 tw5698176677476229555 tw327418852502402655 tw16364879448884961292 tw1484505272992352421 tw8851831933628670067 tw63737755316940907 tw14148642983749931024 tw10452348649070624067 tw4633789957721879897 tw373368142382889526 tw15710991171914854333 tw1954513981560488642 tw17287616947082035084 tw12673795033494302277 tw16473071588056531779 tw9318040004662006951 tw10047285689452233676 tw17421443265211288666 tw4613535845213697706 tw16933772948698678856 tw6278240303182029165 tw7806134843311087845 tw5060510731386616548 tw6916522051534507710 tw17883958670653096747 tw1853745432859739560 tw12787939310090407270 tw3373403616606474249 tw4453975840259410338 tw6114493687584270629 tw13048256462075133036 tw1668872208966211062 tw10359296421051893400 tw13366668426832551940 tw14932657812116059206 tw3340559296906547857 tw15698207440502052050 tw2023272008589508578 tw12019255112361715629 tw11835175099381162485 tw13243125808457951198 tw14778560795942015758 tw12189407501560614006 tw12077152824285576639 tw11315927984818944234 tw10727894390643903280 tw12443133179764644905 tw16165567671869251249 tw4439027256227602113 tw10407883990873535337 tw8805641269101844870 tw15472116866485542148 tw12861584408002945594 tw14563041953950687497 tw4660972156560612260 tw16046550611376917217 tw12177877377280635673 tw991305395698010956 tw756873444826652377 tw9330237529085949421 tw5399531232706392556 tw9135787517429706276 tw2112308356976668769 tw9882638380701399289 tw10524957650810430017 tw12956482236927133523 tw14719951255688460505 tw10765124290760481985 tw11977619841245506066 tw3124505923208842419 tw6744990541491422520 tw7604724006574237095 tw5198063001295468341 tw16379824977065447911 tw7241001776820046628 tw14205834697612015439 tw14278043434826073301 tw2337059658520831581 tw7051148276633470598 tw3239443681779659457 tw9176817211795615355 tw16313309707209556052 tw2114679574933440335 tw12872763179220851602 tw3945771986493665327 tw4758258972162905692 tw15331162659065880143 tw5805362975314822339 tw7540710211990977193 tw5492486777830540781 tw10554737186086696353 tw17578228968504364241 : True)
open PySem PySem.W PyProof.Rows
set_option maxRecDepth 100000 in
set_option maxHeartbeats 0 in
theorem PySem.Challenge.cw_optionwood_k43_why_asked_of_others_holds : PySem.Challenge.rw_optionwood_k43_why_asked_of_others.Holds := by
 w_on; o_law; k_head; (case hw => w_witness2)
 k_fill
 refine' Ow.walk (l := PySem.Challenge.rw_optionwood_k43_why_asked_of_others) (c12 := _) (P12 := _) (c40 := _) (P40 := _) rfl rfl (fun w h Y => PySem.W.km_in_of Y) ?K0 ?hT ?F
 case F =>
  intro w mg fa h KX G aa
  refine' Ow.all_mk KX G aa ?a1 ?a2 ?a3 ?a4 ?a5 ?a6 ?a7 ?a8 ?a9 ?a10 ?a11 ?a12 ?e12 ?m12 ?n12 ?a13 ?a14 ?a15 ?a16 ?a17 ?a18 ?a19 ?a20 ?a21 ?a22 ?a23 ?a24 ?a25 ?a26 ?a27 ?a28 ?a29 ?a30 ?a31 ?a32 ?a33 ?a34 ?a35 ?a36 ?a37 ?a38 ?a39 ?a40 ?e40 ?m40 ?n40 ?a41 ?a42 ?a43 ?a44 ?a45 ?a46 ?z1 ?z2 ?z3 ?z4 ?z5 ?z6 ?z7 ?z8 ?z9 ?z10 ?z11 ?gm_Choice ?p1_Choice ?p2_Choice ?p3_Choice ?p4_Choice ?p5_Choice ?p6_Choice ?q_Choice_picks ?q_Choice_wood ?g_WoodError ?g_NoWood ?g_NoCount ?g_NoWares ?g_NoOffer ?g_Unlike ?g_NoText ?g_NoRow ?g_NoName ?xa_WoodError ?xb_WoodError ?xc_WoodError ?xd_WoodError ?xa_NoWood ?xb_NoWood ?xc_NoWood ?xd_NoWood ?xa_NoCount ?xb_NoCount ?xc_NoCount ?xd_NoCount ?xa_NoWares ?xb_NoWares ?xc_NoWares ?xd_NoWares ?xa_NoOffer ?xb_NoOffer ?xc_NoOffer ?xd_NoOffer ?xa_Unlike ?xb_Unlike ?xc_Unlike ?xd_Unlike ?xa_NoText ?xb_NoText ?xc_NoText ?xd_NoText ?xa_NoRow ?xb_NoRow ?xc_NoRow ?xd_NoRow ?xa_NoName ?xb_NoName ?xc_NoName ?xd_NoName ?k_NoWares_WoodError ?k_NoWares_NoWood ?k_NoWares_NoCount ?k_NoWares_NoWares ?k_NoWares_NoOffer ?k_NoWares_Unlike ?k_NoWares_NoText ?k_NoWares_NoRow ?k_NoWares_NoName ?v_NoWares ?s_NoWares_WoodError ?k_NoOffer_WoodError ?k_NoOffer_NoWood ?k_NoOffer_NoCount ?k_NoOffer_NoWares ?k_NoOffer_NoOffer ?k_NoOffer_Unlike ?k_NoOffer_NoText ?k_NoOffer_NoRow ?k_NoOffer_NoName ?v_NoOffer ?s_NoOffer_WoodError
  (case gm_Choice => k_is)
  all_goals try (refine' L2.dk ?a ?l ?c ?k; (case a => k_is); (case l => k_is); (case c => k_is); (case k => k_is))
  all_goals try (refine' L2.dq ?a ?l ?c ?k ?i; (case a => k_is); (case l => k_is); (case c => k_is); (case k => k_is); (case i => k_is))
  (case e12 => exact rfl)
  (case m12 => k_is)
  (case n12 => exact rfl)
  (case e40 => exact rfl)
  (case m40 => k_is)
  (case n40 => exact rfl)
  (case z1 => k_is)
  (case z2 => k_is)
  (case z3 => k_is)
  (case z4 => k_is)
  (case z5 => k_is)
  (case z6 => k_is)
  (case z7 => k_is)
  (case z8 => k_is)
  (case z9 => k_is)
  (case z10 => k_is)
  (case z11 => k_is)
  (case p1_Choice => first | k_is | kernel_rfl)
  (case p2_Choice => first | k_is | kernel_rfl)
  (case p3_Choice => first | k_is | kernel_rfl)
  (case p4_Choice => first | k_is | kernel_rfl)
  (case p5_Choice => first | k_is | kernel_rfl)
  (case p6_Choice => first | k_is | kernel_rfl)
  (case q_Choice_picks => first | k_is | kernel_rfl)
  (case q_Choice_wood => first | k_is | kernel_rfl)
  (case g_WoodError => k_is)
  (case g_NoWood => k_is)
  (case g_NoCount => k_is)
  (case g_NoWares => k_is)
  (case g_NoOffer => k_is)
  (case g_Unlike => k_is)
  (case g_NoText => k_is)
  (case g_NoRow => k_is)
  (case g_NoName => k_is)
  (case xa_WoodError => first | k_is | kernel_rfl)
  (case xb_WoodError => first | k_is | kernel_rfl)
  (case xc_WoodError => first | k_is | kernel_rfl)
  (case xd_WoodError => first | k_is | kernel_rfl)
  (case xa_NoWood => first | k_is | kernel_rfl)
  (case xb_NoWood => first | k_is | kernel_rfl)
  (case xc_NoWood => first | k_is | kernel_rfl)
  (case xd_NoWood => first | k_is | kernel_rfl)
  (case xa_NoCount => first | k_is | kernel_rfl)
  (case xb_NoCount => first | k_is | kernel_rfl)
  (case xc_NoCount => first | k_is | kernel_rfl)
  (case xd_NoCount => first | k_is | kernel_rfl)
  (case xa_NoWares => first | k_is | kernel_rfl)
  (case xb_NoWares => first | k_is | kernel_rfl)
  (case xc_NoWares => first | k_is | kernel_rfl)
  (case xd_NoWares => first | k_is | kernel_rfl)
  (case xa_NoOffer => first | k_is | kernel_rfl)
  (case xb_NoOffer => first | k_is | kernel_rfl)
  (case xc_NoOffer => first | k_is | kernel_rfl)
  (case xd_NoOffer => first | k_is | kernel_rfl)
  (case xa_Unlike => first | k_is | kernel_rfl)
  (case xb_Unlike => first | k_is | kernel_rfl)
  (case xc_Unlike => first | k_is | kernel_rfl)
  (case xd_Unlike => first | k_is | kernel_rfl)
  (case xa_NoText => first | k_is | kernel_rfl)
  (case xb_NoText => first | k_is | kernel_rfl)
  (case xc_NoText => first | k_is | kernel_rfl)
  (case xd_NoText => first | k_is | kernel_rfl)
  (case xa_NoRow => first | k_is | kernel_rfl)
  (case xb_NoRow => first | k_is | kernel_rfl)
  (case xc_NoRow => first | k_is | kernel_rfl)
  (case xd_NoRow => first | k_is | kernel_rfl)
  (case xa_NoName => first | k_is | kernel_rfl)
  (case xb_NoName => first | k_is | kernel_rfl)
  (case xc_NoName => first | k_is | kernel_rfl)
  (case xd_NoName => first | k_is | kernel_rfl)
  (case k_NoWares_WoodError => first | k_is | kernel_rfl)
  (case k_NoWares_NoWood => first | k_is | kernel_rfl)
  (case k_NoWares_NoCount => first | k_is | kernel_rfl)
  (case k_NoWares_NoWares => first | k_is | kernel_rfl)
  (case k_NoWares_NoOffer => first | k_is | kernel_rfl)
  (case k_NoWares_Unlike => first | k_is | kernel_rfl)
  (case k_NoWares_NoText => first | k_is | kernel_rfl)
  (case k_NoWares_NoRow => first | k_is | kernel_rfl)
  (case k_NoWares_NoName => first | k_is | kernel_rfl)
  (case v_NoWares => first | k_is | kernel_rfl)
  (case s_NoWares_WoodError => first | k_is | kernel_rfl)
  (case k_NoOffer_WoodError => first | k_is | kernel_rfl)
  (case k_NoOffer_NoWood => first | k_is | kernel_rfl)
  (case k_NoOffer_NoCount => first | k_is | kernel_rfl)
  (case k_NoOffer_NoWares => first | k_is | kernel_rfl)
  (case k_NoOffer_NoOffer => first | k_is | kernel_rfl)
  (case k_NoOffer_Unlike => first | k_is | kernel_rfl)
  (case k_NoOffer_NoText => first | k_is | kernel_rfl)
  (case k_NoOffer_NoRow => first | k_is | kernel_rfl)
  (case k_NoOffer_NoName => first | k_is | kernel_rfl)
  (case v_NoOffer => first | k_is | kernel_rfl)
  (case s_NoOffer_WoodError => first | k_is | kernel_rfl)
 case K0 => intro w; kernel_rfl
 case hT =>
  intro w h Y q hq
  simp only [List.mem_cons, List.not_mem_nil, or_false] at hq
  rcases hq with rfl | rfl
  ·exact ⟨PySem.W.codeHd_of_K (PySem.W.km_in_of Y) (by kernel_rfl), PySem.W.km_tabs_of Y _ (by decide)⟩
  ·exact ⟨PySem.W.codeHd_of_K (PySem.W.km_in_of Y) (by kernel_rfl), PySem.W.km_tabs_of Y _ (by decide)⟩
#print axioms PySem.Challenge.cw_optionwood_k43_why_asked_of_others_holds

