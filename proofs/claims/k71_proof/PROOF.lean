import PyProof.Rows.All
import Wide.All
import OpenK.AllK
import Wide.FinOn
import Lean
import PyProof.EqAt
import PyProof.EqKinds
import PyProof.TupleCall
import PySem.Challenge.RW_optionwood_k71_tight_and_needed
set_option Elab.async false
set_option linter.all false
set_option maxRecDepth 100000
namespace L2
open PySem PySem.Spec PyProof.Rows
abbrev Key := Sum Int Str
def ztl : Key → Value → Bool
 | .inl k, v => Value.isInt k v
 | .inr x, v => Value.isStrOf x v
def zv4 (w : World) : Key → Int
 | .inl k => hashInt k
 | .inr x => hashStr w x
theorem zci : ∀ {k : Key} {v : Value}, ztl k v = true → (∃ i t, k = Sum.inl i ∧ v = Value.int i t) ∨ (∃ x t, k = Sum.inr x ∧ v = Value.str x t)
 | .inl i, v, h => by
  obtain ⟨t, e⟩ := Value.isInt_shape (k := i) (v := v) h
  exact .inl ⟨i, t, rfl, e⟩
 | .inr x, v, h => by
  obtain ⟨t, e⟩ := Value.isStrOf_shape (x := x) (v := v) h
  exact .inr ⟨x, t, rfl, e⟩
theorem zui (a b : Int) : decide ((Sum.inl a : Key) = Sum.inl b) = (a == b) := by
 by_cases e : a = b
 ·subst e; simp
 ·have h : ¬ (Sum.inl a : Key) = Sum.inl b := fun q => e (Sum.inl.inj q)
  rw [decide_eq_false h]
  exact (beq_eq_false_iff_ne.mpr e).symm
theorem zt1 (a b : Str) : decide ((Sum.inr a : Key) = Sum.inr b) = decide (a = b) := by
 by_cases e : a = b
 ·subst e; simp
 ·have h : ¬ (Sum.inr a : Key) = Sum.inr b := fun q => e (Sum.inr.inj q)
  rw [decide_eq_false h, decide_eq_false e]
theorem zuq (a : Int) (b : Str) : decide ((Sum.inl a : Key) = Sum.inr b) = false := decide_eq_false (fun q => nomatch q)
theorem zuk (a : Str) (b : Int) : decide ((Sum.inr a : Key) = Sum.inl b) = false := decide_eq_false (fun q => nomatch q)
def zof (prog : Program) (w : World) : PySem.KeyKind prog w Key where
 is := ztl
 hash := zv4 w
 inj := fun v a b ha hb => by
  rcases zci ha with ⟨i, t, rfl, rfl⟩ | ⟨x, t, rfl, rfl⟩
  ·rcases zci hb with ⟨j, u, rfl, e⟩ | ⟨y, u, rfl, e⟩
   ·injection e with e1 _; rw [e1]
   ·exact nomatch e
  ·rcases zci hb with ⟨j, u, rfl, e⟩ | ⟨y, u, rfl, e⟩
   ·exact nomatch e
   ·injection e with e1 _; rw [e1]
 byValue := fun k v h => by
  rcases zci h with ⟨i, t, rfl, rfl⟩ | ⟨x, t, rfl, rfl⟩ <;> rfl
 pyHash := fun hv h => by
  rcases zci hv with ⟨i, t, rfl, rfl⟩ | ⟨x, t, rfl, rfl⟩
  ·exact wpAny_pyHash_int h
  ·exact wpAny_pyHash_str h
 eqBool := fun hu hv h => by
  rcases zci hu with ⟨i, t, rfl, rfl⟩ | ⟨x, t, rfl, rfl⟩
  ·rcases zci hv with ⟨j, u, rfl, rfl⟩ | ⟨y, u, rfl, rfl⟩
   ·rw [zui] at h; exact wpAny_eqBool_int h
   ·rw [zuq] at h; exact SeqAt.EqAt.int_str i t y u _ _ _ _ h
  ·rcases zci hv with ⟨j, u, rfl, rfl⟩ | ⟨y, u, rfl, rfl⟩
   ·rw [zuk] at h; exact SeqAt.EqAt.str_int x t j u _ _ _ _ h
   ·rw [zt1] at h; exact wpAny_eqBool_str h
 «strs» := fun k x t v h => by
  rcases zci h with ⟨i, u, rfl, e⟩ | ⟨y, u, rfl, e⟩
  ·exact nomatch e
  ·injection e with e1 _
   subst e1
   cases v <;> rfl
end L2
namespace L2
open PySem PySem.Spec PyProof.Rows
inductive V where
 | non | bl (b : Bool) | int (i : Int) | str (x : Str) | byt (b : Array UInt8) | flt (b : UInt64) | ref (a : Addr) | ty (n : String)
 deriving DecidableEq
def RelV : V → Value → Prop
 | .non, u => u = Value.none
 | .bl b, u => u = Value.bool b
 | .int i, u => ∃ t, u = Value.int i t
 | .str x, u => ∃ t, u = Value.str x t
 | .byt b, u => ∃ t, u = Value.bytes b t
 | .flt b, u => ∃ t, u = Value.float b t
 | .ref a, u => u = Value.ref a
 | .ty n, u => u = Value.type n
abbrev Vals : List V → List Value → Prop := Paired RelV
theorem Vals.length {xs : List V} {us : List Value} (r : Vals xs us) : xs.length = us.length := Paired.length r
theorem Vals.get : ∀ {xs : List V} {us : List Value} {i : Nat} {x : V}, Vals xs us → xs[i]? = some x → ∃ u, us[i]? = some u ∧ RelV x u
 | _, _, _, _, .nil, e => by simp at e
 | _, _, 0, _, .cons r _, e => by simp at e; subst e; exact ⟨_, rfl, r⟩
 | _, _, i + 1, x, .cons _ t, e => by
  obtain ⟨u, h1, h2⟩ := Vals.get (i := i) (x := x) t (by simpa using e)
  exact ⟨u, by simpa using h1, h2⟩
theorem Vals.set {x : V} {u : Value} (r : RelV x u) : ∀ {xs : List V} {us : List Value} (i : Nat), Vals xs us → Vals (xs.set i x) (us.set i u)
 | _, _, _, .nil => .nil
 | _, _, 0, .cons _ t => .cons r t
 | _, _, i + 1, .cons q t => .cons q (Vals.set r i t)
theorem Vals.append : ∀ {xs ys : List V} {us ws : List Value}, Vals xs us → Vals ys ws → Vals (xs ++ ys) (us ++ ws)
 | _, _, _, _, .nil, s => s
 | _, _, _, _, .cons r t, s => .cons r (Vals.append t s)
theorem Vals.take : ∀ {xs : List V} {us : List Value} (n : Nat), Vals xs us → Vals (xs.take n) (us.take n)
 | _, _, 0, _ => .nil
 | _, _, _ + 1, .nil => .nil
 | _, _, n + 1, .cons r t => .cons r (Vals.take n t)
theorem Vals.drop : ∀ {xs : List V} {us : List Value} (n : Nat), Vals xs us → Vals (xs.drop n) (us.drop n)
 | _, _, 0, r => r
 | _, _, _ + 1, .nil => .nil
 | _, _, n + 1, .cons _ t => Vals.drop n t
def zug : Option V → Option Value → Prop
 | some v, some u => RelV v u
 | none, none => True
 | _, _ => False
def KV {κ : Type} : List (κ × V) → List (κ × Value) → Prop := Paired fun (p : κ × V) (q : κ × Value) => p.1 = q.1 ∧ RelV p.2 q.2
def kV : Key → V
 | .inl i => .int i
 | .inr x => .str x
inductive HO where
 | lst (xs : List V)
 | tup (xs : List V)
 | dK (kvs : List (Key × V)) | dT (kvs : List (List Key × V))
 | set (S : Int → Bool) (n : Nat)
 | ins (C dx : Addr) (fs : List (Str × V))
 | own (x : Addr)
 | xd (fs : List (Str × V))
 | met (f x : Addr)
 | rng (lo hi : Int)
 | frz (o : Obj) (u : HO)
 | tbl (ps : Array Value)
 | ext (φ : Heap → Prop)
abbrev Hp := Addr → Option HO
def upd (H : Hp) (a : Addr) (o : HO) : Hp := fun b => if b = a then some o else H b
theorem zad {H : Hp} {a : Addr} {o : HO} : upd H a o a = some o := by unfold upd; rw [if_pos rfl]
theorem zam {H : Hp} {a b : Addr} {o : HO} (h : b ≠ a) : upd H a o b = H b := by unfold upd; rw [if_neg h]
theorem zlr {H : Hp} {a b : Addr} {o u : HO} (h : H a = some o) (h' : H b = some u) (d : o ≠ u) : a ≠ b := by
 intro e; subst e; rw [h] at h'; exact d (Option.some.inj h')
theorem zav {H : Hp} {a b : Addr} {o : HO} (h : H a = some o) (h' : H b = none) : a ≠ b := by
 intro e; subst e; rw [h] at h'; cases h'
section
variable (P : Program) (w : World)
def ObjOk (H : Hp) (h : Heap) (a : Addr) : HO → Prop
 | .lst xs => xs.length ≤ sizeLine ∧ ∃ (its : List Value) (n : Nat), Vals xs its ∧ h.get? a = some { cls := .type "list", data := .seq its.toArray n }
 | .tup xs => xs.length ≤ sizeLine ∧ ∃ its : List Value, Vals xs its ∧ IsTup h a its.toArray
 | .dK kvs => kvs.length ≤ sizeLine ∧ (a == sysModules) = false ∧ ∃ vs, KV kvs vs ∧ h.DictOf (zof P w) a vs
 | .dT kvs => kvs.length ≤ sizeLine ∧ (a == sysModules) = false ∧ ∃ xs : List (List Key × Addr × Value),
   Paired (fun (p : List Key × V) (q : List Key × Addr × Value) => p.1 = q.1 ∧ H q.2.1 = some (.tup (p.1.map kV)) ∧ RelV p.2 q.2.2) kvs xs ∧
   ∃ o es ep, h.get? a = some o ∧ o.ExactDict ∧ o.data = .dict es ep ∧ es.toList = xs.map (entryOfKey (tupleKind (zof P w))) ∧ (xs.map (·.1)).Nodup
 | .set S n => h.SetOf (intKind P w) a S n
 | .ins C dx fs => H dx = some (.own a) ∧ fs.length ≤ 1000 ∧ dx ≠ a ∧ h.get? a = some (PySem.W.instObj C dx) ∧
   ∃ mA, h.Ns1 dx mA ∧ (∀ f, zug (fs.lookup f) (mA f)) ∧ PySem.Within mA (fs.map (·.1))
 | .own _ => ∃ o, h.get? a = some o
 | .xd fs => ∃ mA, h.Ns1 a mA ∧ ∀ f, zug (fs.lookup f) (mA f)
 | .rng lo hi => ∃ t u v, h.get? a = some { cls := .type "range", data := .fields #[.int lo t, .int hi u, .int 1 v] }
 | .frz o u => h.get? a = some o ∧ ObjOk H h a u
 | .tbl ps => h.get? a = some { cls := .none, data := .fields ps }
 | .met f x => h.get? a = some (PySem.W.methodObj (.ref f) (.ref x))
 | .ext φ => φ h ∧ (∃ o, h.get? a = some o) ∧ ∀ h1 h2 : Heap, φ h1 → (∀ o, h1.get? a = some o → h2.get? a = some o) → φ h2
def HOk (H : Hp) (h : Heap) : Prop := ∀ a o, H a = some o → ObjOk P w H h a o
end
section
variable {P : Program} {w : World} {H H' : Hp} {h h' : Heap} {a : Addr} {o : HO}
theorem ObjOk.lt (x : ObjOk P w H h a o) : a < h.objs.size := by
 cases o with
 | lst xs => obtain ⟨_, _, _, _, e⟩ := x; exact Heap.lt_size e
 | tup xs => obtain ⟨_, _, _, p⟩ := x; exact p.lt
 | dK kvs => obtain ⟨_, _, _, _, o, _, _, e, _⟩ := x; exact Heap.lt_size e
 | dT kvs => obtain ⟨_, _, _, _, o, _, _, e, _⟩ := x; exact Heap.lt_size e
 | set S n => obtain ⟨o, _, _, _, e, _⟩ := x; exact Heap.lt_size e
 | ins C dx fs => obtain ⟨_, _, _, e, _⟩ := x; exact Heap.lt_size e
 | own y => obtain ⟨_, e⟩ := x; exact Heap.lt_size e
 | xd fs => obtain ⟨_, ⟨_, _, _, e, _⟩, _⟩ := x; exact Heap.lt_size e
 | rng lo hi => obtain ⟨_, _, _, e⟩ := x; exact Heap.lt_size e
 | frz ob u => obtain ⟨e, _⟩ := x; exact Heap.lt_size e
 | tbl ps => exact Heap.lt_size (show h.get? a = some _ from x)
 | met f y => exact Heap.lt_size (show h.get? a = some _ from x)
 | ext φ => obtain ⟨_, ⟨_, e⟩, _⟩ := x; exact Heap.lt_size e
theorem Paired.mapP {α β : Type} {F G : α → β → Prop} : ∀ {l₁ : List α} {l₂ : List β}, Paired F l₁ l₂ → (∀ a b, F a b → G a b) → Paired G l₁ l₂
 | _, _, .nil, _ => .nil
 | _, _, .cons r t, f => .cons (f _ _ r) (Paired.mapP t f)
theorem ObjOk.stay (x : ObjOk P w H h a o) (k : ∀ b u, (b = a ∨ H b = some (.own a)) → h.get? b = some u → h'.get? b = some u)
  (ho : ∀ b, H b = some (.own a) → H' b = some (.own a)) (ht : ∀ b xs, H b = some (.tup xs) → H' b = some (.tup xs)) : ObjOk P w H' h' a o := by
 induction o with
 | lst xs => obtain ⟨z, its, n, r, e⟩ := x; exact ⟨z, its, n, r, k _ _ (.inl rfl) e⟩
 | tup xs => obtain ⟨z, its, r, ob, e, c⟩ := x; exact ⟨z, its, r, ob, k _ _ (.inl rfl) e, c⟩
 | dK kvs => obtain ⟨z, y, vs, r, ob, es, ep, e, c⟩ := x; exact ⟨z, y, vs, r, ob, es, ep, k _ _ (.inl rfl) e, c⟩
 | dT kvs =>
  obtain ⟨z, y, xs, r, ob, es, ep, e, c⟩ := x
  exact ⟨z, y, xs, Paired.mapP r fun p q z => ⟨z.1, ht _ _ z.2.1, z.2.2⟩, ob, es, ep, k _ _ (.inl rfl) e, c⟩
 | set S n => obtain ⟨ob, es, ep, t, e, c⟩ := x; exact ⟨ob, es, ep, t, k _ _ (.inl rfl) e, c⟩
 | ins C dx fs =>
  obtain ⟨d, z, ne, e, mA, ⟨od, es, ep, e2, c⟩, r⟩ := x
  exact ⟨ho _ d, z, ne, k _ _ (.inl rfl) e, mA, ⟨od, es, ep, k _ _ (.inr d) e2, c⟩, r⟩
 | own y => obtain ⟨ob, e⟩ := x; exact ⟨ob, k _ _ (.inl rfl) e⟩
 | xd fs => obtain ⟨mA, ⟨od, es, ep, e, c⟩, r⟩ := x; exact ⟨mA, ⟨od, es, ep, k _ _ (.inl rfl) e, c⟩, r⟩
 | rng lo hi => obtain ⟨t, u, v, e⟩ := x; exact ⟨t, u, v, k _ _ (.inl rfl) e⟩
 | frz ob u ih => obtain ⟨e, q⟩ := x; exact ⟨k _ _ (.inl rfl) e, ih q⟩
 | tbl ps =>
  have e : h.get? a = some { cls := .none, data := .fields ps } := x
  show h'.get? a = some { cls := .none, data := .fields ps }
  exact k a _ (.inl rfl) e
 | met f y =>
  have e : h.get? a = some (PySem.W.methodObj (.ref f) (.ref y)) := x
  show h'.get? a = some (PySem.W.methodObj (.ref f) (.ref y))
  exact k a _ (.inl rfl) e
 | ext φ => obtain ⟨p, ⟨o, e⟩, st⟩ := x; exact ⟨st _ _ p fun o q => k _ _ (.inl rfl) q, ⟨o, k _ _ (.inl rfl) e⟩, st⟩
theorem HOk.lt (x : HOk P w H h) (e : H a = some o) : a < h.objs.size := (x a o e).lt
theorem HOk.fresh (x : HOk P w H h) (e : h.objs.size ≤ a) : H a = none := by
 cases q : H a with
 | none => rfl
 | some u => exact absurd (Nat.lt_of_lt_of_le (x.lt q) e) (Nat.lt_irrefl _)
theorem HOk.kept (x : HOk P w H h) (k : ∀ b u, h.get? b = some u → h'.get? b = some u) : HOk P w H h' := fun a o e =>
 (x a o e).stay (fun b u _ q => k b u q) (fun _ q => q) fun _ _ q => q
theorem HOk.laid (x : HOk P w H h) (k : ∀ b u, h.get? b = some u → h'.get? b = some u) (hp : h.objs.size ≤ a) (new : ObjOk P w (upd H a o) h' a o) : HOk P w (upd H a o) h' := fun b u e => by
 have hn := x.fresh hp
 by_cases hb : b = a
 ·subst hb; rw [zad] at e; cases e; exact new
 ·rw [zam hb] at e
  exact (x b u e).stay (fun c v _ q => k c v q) (fun c q => by rw [zam (zav q hn)]; exact q) fun c xs q => by rw [zam (zav q hn)]; exact q
end
def Rd (H : Hp) (a : Addr) (u : HO) : Prop := H a = some u ∨ ∃ o, H a = some (.frz o u)
theorem Rd.ok {P : Program} {w : World} {H : Hp} {h : Heap} {a : Addr} {u : HO} (r : Rd H a u) (x : HOk P w H h) : ObjOk P w H h a u := by
 rcases r with r | ⟨o, r⟩
 ·exact x a u r
 ·obtain ⟨_, q⟩ := x a _ r
  exact q
def Mut : Option HO → Prop
 | some (.lst _) => True
 | some (.dK _) => True
 | some (.dT _) => True
 | some (.set _ _) => True
 | some (.ins _ _ _) => True
 | some (.ext _) => True
 | _ => False
section
variable {P : Program} {w : World} {H : Hp} {h h' : Heap} {x e : Addr} {o' : HO}
theorem HOk.write (ok : HOk P w H h) (mu : Mut (H x)) (he : e = x ∨ H e = some (.own x)) (k : ∀ b u, b ≠ e → h.get? b = some u → h'.get? b = some u) (heo : ∃ u, h'.get? e = some u)
  (new : ObjOk P w (upd H x o') h' x o') : HOk P w (upd H x o') h' := fun b u q => by
 have nown : ∀ c y, H c = some (.own y) → c ≠ x := fun c y r z => by subst z; rw [r] at mu; exact mu
 have ntup : ∀ c xs, H c = some (.tup xs) → c ≠ x := fun c xs r z => by subst z; rw [r] at mu; exact mu
 by_cases hb : b = x
 ·subst hb; rw [zad] at q; cases q; exact new
 ·rw [zam hb] at q
  by_cases hbe : b = e
  ·have q' : H b = some (.own x) := by
    rcases he with z | z
    ·exact absurd (hbe.trans z) hb
    ·rw [hbe]; exact z
   rw [q] at q'; cases q'
   obtain ⟨v, hv⟩ := heo
   exact ⟨v, by rw [hbe]; exact hv⟩
  ·refine (ok b u q).stay (fun c v hc r => k c v ?_ r) (fun c r => by rw [zam (nown c b r)]; exact r) fun c xs r => by rw [zam (ntup c xs r)]; exact r
   rcases hc with rfl | hc
   ·exact hbe
   ·rintro rfl
    rcases he with z | z
    ·exact nown c b hc z
    ·rw [hc] at z; cases z; exact hb rfl
end
structure Un (fs ex : List Addr) (H H' : Hp) (h h' : Heap) : Prop where
 keep : ∀ b o, h.get? b = some o → H b = none → b ∉ fs → b ∉ ex → h'.get? b = some o
 slot : ∀ b o, h.get? b = some o → H b = none → b ∈ fs → b ∉ ex → ∃ sl, h'.get? b = some { o with slots := sl }
 free : ∀ b o, h.get? b = some o → H b = none → b ∉ ex → H' b = none
 there : ∀ b o, h.get? b = some o → b ∉ ex → ∃ o', h'.get? b = some o'
 tups : ∀ b xs, H b = some (.tup xs) → H' b = some (.tup xs)
 frzs : ∀ b o u, H b = some (.frz o u) → H' b = some (.frz o u)
 tbls : ∀ b ps, H b = some (.tbl ps) → ∃ more, H' b = some (.tbl (ps ++ more))
section
variable {fs fs' ex ex' : List Addr} {H H1 H2 : Hp} {h h1 h2 h' : Heap} {a x e : Addr} {o : HO}
theorem Un.any (u : Un fs ex H H1 h h1) {b : Addr} {ob : Obj} (q : h.get? b = some ob) (n : H b = none) (hx : b ∉ ex) : ∃ sl, h1.get? b = some { ob with slots := sl } := by
 by_cases hb : b ∈ fs
 ·exact u.slot b ob q n hb hx
 ·exact ⟨ob.slots, u.keep b ob q n hb hx⟩
theorem Un.kept (k : ∀ b u, h.get? b = some u → h'.get? b = some u) : Un fs ex H H h h' :=
 ⟨fun b ob q _ _ _ => k b ob q, fun b ob q _ _ _ => ⟨ob.slots, k b ob q⟩, fun _ _ _ n _ => n, fun b ob q _ => ⟨ob, k b ob q⟩, fun _ _ q => q, fun _ _ _ q => q, fun _ ps q => ⟨#[], by rw [q]; simp⟩⟩
theorem Un.refl : Un fs ex H H h h := Un.kept fun _ _ q => q
theorem Un.laid (k : ∀ b u, h.get? b = some u → h'.get? b = some u) (hp : h.objs.size ≤ a) (hn : H a = none) : Un fs ex H (upd H a o) h h' where
 keep := fun b u q _ _ _ => k b u q
 slot := fun b u q _ _ _ => ⟨u.slots, k b u q⟩
 free := fun b u q n _ => by rw [zam (Nat.ne_of_lt (Nat.lt_of_lt_of_le (Heap.lt_size q) hp))]; exact n
 there := fun b u q _ => ⟨u, k b u q⟩
 tups := fun b xs q => by rw [zam (zav q hn)]; exact q
 frzs := fun b u xs q => by rw [zam (zav q hn)]; exact q
 tbls := fun b ps q => ⟨#[], by rw [zam (zav q hn), q]; simp⟩
theorem Un.write (mu : Mut (H x)) (he : e = x ∨ H e = some (.own x)) (k : ∀ b u, b ≠ e → h.get? b = some u → h'.get? b = some u) (heo : ∃ u, h'.get? e = some u) : Un fs ex H (upd H x o) h h' := by
 have hx : ∀ b, H b = none → b ≠ x := fun b n z => by subst z; rw [n] at mu; exact mu
 have hb : ∀ b, H b = none → b ≠ e := fun b n z => by
  subst z
  rcases he with r | r
  ·exact hx b n r
  ·rw [n] at r; cases r
 have hm : ∀ b u, H b = some u → ¬ Mut (some u) → b ≠ x := fun b u q nm z => by subst z; rw [q] at mu; exact nm mu
 refine ⟨fun b u q n _ _ => k b u (hb b n) q, fun b u q n _ _ => ⟨u.slots, k b u (hb b n) q⟩, fun b u q n _ => by rw [zam (hx b n)]; exact n, fun b u q _ => ?_,
  fun b xs q => by rw [zam (hm b _ q fun z => z)]; exact q, fun b u xs q => by rw [zam (hm b _ q fun z => z)]; exact q, fun b ps q => ⟨#[], by rw [zam (hm b _ q fun z => z), q]; simp⟩⟩
 by_cases hbe : b = e
 ·subst hbe; exact heo
 ·exact ⟨u, k b u hbe q⟩
end
def trk (h : Heap) (H : Hp) : List Addr := (List.range h.objs.size).filter fun a => (H a).isSome
def zjn (h : Heap) (H : Hp) : Heap := PySem.W.hideAll h (trk h H)
theorem zp1 (h : Heap) (H : Hp) : (zjn h H).objs.size = h.objs.size := PySem.W.hideAll_size _ _
theorem zru {h : Heap} {H : Hp} {b : Addr} {o : Obj} (e : h.get? b = some o) (n : H b = none) : (zjn h H).get? b = some o :=
 PySem.W.hideAll_get _ e fun hm => by
  have q : (H b).isSome = true := (List.mem_filter.mp hm).2
  rw [n] at q; simp at q
theorem zsv {h : Heap} {H : Hp} {b : Addr} {o : Obj} (e : (zjn h H).get? b = some o) : h.get? b = some o ∧ H b = none := by
 have e' : h.get? b = some o := PySem.W.of_hideAll (trk h H) e
 refine ⟨e', ?_⟩
 cases q : H b with
 | none => rfl
 | some x =>
  have hm : b ∈ trk h H := List.mem_filter.mpr ⟨List.mem_range.mpr (Heap.lt_size e'), by simp [q]⟩
  have z : (zjn h H).get? b = none := PySem.W.hideAll_none (trk h H) hm
  rw [z] at e; cases e
end L2
namespace L2
open PySem PySem.Spec PyProof.Rows
structure Mod (K : PySem.W.Frag) (mg : Str → Option Value) (base : Heap) : Prop where
 kin : K.In base
 glob : base.Ns mainGlobals mg
 blt : ∃ mb, base.Ns builtinsNs mb ∧ ∀ x : Str, x ≠ "__name__" → mb x = bootBuiltins x
 nolimit : base.NoLimit
structure Cx where
 prog : Program
 w : World
 K : PySem.W.Frag
 mg : Str → Option Value
 base : Heap
 A : Around
 N : List Str
 s₀ : Shared
 H₀ : Hp
 env : Env
 outer : List Env
 stack : List Env
 ex : List Addr
 fn : Str → Bool
 calm : Bool
 pn : List (Addr × Obj)
 xe : Value → Shared → Prop
def frs (l : List Env) : List Addr := l.filterMap (·.frame)
abbrev Cx.fs (X : Cx) : List Addr := frs X.outer
def Vis (sc : Scope) (x : Str) : Prop := sc.names.lookup x = some .local ∨ sc.names.lookup x = some .cell ∨ sc.names.lookup x = some .free
def Loc (sc : Scope) (x : Str) : Prop := sc.names.lookup x = some .local ∨ sc.names.lookup x = some .cell
def zwf (env : Env) (h : Heap) (m : Str → Option Value) (x : Str) (u : Value) : Prop :=
 (env.kindOf x = some .local ∧ m x = some u) ∨ ((env.kindOf x = some .cell ∨ env.kindOf x = some .free) ∧ ∃ c, env.cells.lookup x = some c ∧ h.IsCell c (some u))
structure Cx.Ok (X : Cx) : Prop where
 mod : Mod X.K X.mg X.base
 kind : X.env.scope.kind = .function
 glob : X.env.globals = mainGlobals
 blt : X.env.builtins = builtinsNs
 above : X.s₀.heap.objs.size ≤ X.env.locals
 inj : ∀ x y c, X.env.cells.lookup x = some c → X.env.cells.lookup y = some c → x = y
 has : ∀ x, (X.env.kindOf x = some .cell ∨ X.env.kindOf x = some .free) → ∃ c, X.env.cells.lookup x = some c
 cab : ∀ x c, X.fn x = true → X.env.cells.lookup x = some c → X.s₀.heap.objs.size ≤ c
 hd : X.calm = true → X.A.handled = none
 frames : X.A.frames = some X.stack
 stk : X.stack = X.outer ∨ (X.stack = X.env :: X.outer ∧ X.env.frame = some X.env.locals)
 exf : ∀ b ∈ X.ex, b ≠ X.env.locals ∧ ∀ x c, X.env.cells.lookup x = some c → c ≠ b
 bs : ∀ b o, X.base.get? b = some o → X.s₀.heap.get? b = some o ∧ X.H₀ b = none
 bsz : X.base.objs.size ≤ X.s₀.heap.objs.size
 noex : ∀ b o, X.base.get? b = some o → b ∉ X.ex
 exfs : ∀ b ∈ X.ex, b ∉ X.fs
 funs : X.s₀.heap.FunFrames X.base X.outer
 frf : ∀ b ∈ X.fs, X.H₀ b = none
structure Inv (X : Cx) (pins : List (Addr × Obj)) (σ : List (Option V)) (H : Hp) (s : Shared) : Prop where
 ok : X.Ok
 os : s.os = X.s₀.os
 bare : AllBare s.gens
 base : Un X.fs X.ex X.H₀ H X.s₀.heap s.heap
 loc : ∃ m, s.heap.Ns X.env.locals m ∧ ∀ (i : Nat) (x : Str) (v : V), X.N[i]? = some x → σ[i]? = some (some v) → Vis X.env.scope x → ∃ u, RelV v u ∧ zwf X.env s.heap m x u
 cell : ∀ x c, X.env.cells.lookup x = some c → ∃ v, s.heap.IsCell c v
 free : H X.env.locals = none
 freeC : ∀ x c, X.env.cells.lookup x = some c → H c = none
 pin : ∀ p ∈ X.pn ++ pins, s.heap.get? p.1 = some p.2 ∧ H p.1 = none ∧ p.1 ≠ X.env.locals ∧ p.1 ∉ X.fs ∧ ∀ v, p.2.data ≠ .cell v
 hok : HOk X.prog X.w H s.heap
 len : σ.length = X.N.length
section
variable {X : Cx} {pins : List (Addr × Obj)} {σ : List (Option V)} {H H' : Hp} {s : Shared} {h' : Heap}
theorem Cx.Ok.nofr (ok : X.Ok) {b : Addr} {o : Obj} (e : X.base.get? b = some o) : b ∉ X.fs := fun hb => by
 have := (ok.funs.mem hb).1
 rw [e] at this; cases this
theorem Inv.bs (I : Inv X pins σ H s) : ∀ b o, X.base.get? b = some o → s.heap.get? b = some o ∧ H b = none := fun b o e =>
 ⟨I.base.keep b o (I.ok.bs b o e).1 (I.ok.bs b o e).2 (I.ok.nofr e) (I.ok.noex b o e), I.base.free b o (I.ok.bs b o e).1 (I.ok.bs b o e).2 (I.ok.noex b o e)⟩
theorem Inv.bk (I : Inv X pins σ H s) : ∀ b o, X.base.get? b = some o → s.heap.get? b = some o := fun b o e => (I.bs b o e).1
theorem Inv.mod (I : Inv X pins σ H s) : Mod X.K X.mg X.base := I.ok.mod
theorem Inv.kIn (I : Inv X pins σ H s) : X.K.In s.heap := I.ok.mod.kin.keeps I.bk
theorem Inv.lt (I : Inv X pins σ H s) : X.env.locals < s.heap.objs.size := let ⟨_, hn, _⟩ := I.loc; hn.lt
theorem Inv.sz (I : Inv X pins σ H s) : X.s₀.heap.objs.size ≤ s.heap.objs.size := Nat.le_trans I.ok.above (Nat.le_of_lt I.lt)
theorem Inv.nofs (I : Inv X pins σ H s) {a : Addr} (h : s.heap.objs.size ≤ a) : a ∉ X.fs := fun hb => by
 obtain ⟨_, o, ho, _⟩ := I.ok.funs.mem hb
 exact absurd (Nat.lt_of_lt_of_le (Heap.lt_size ho) (Nat.le_trans I.sz h)) (Nat.lt_irrefl _)
theorem Inv.cne (I : Inv X pins σ H s) : ∀ x c, X.env.cells.lookup x = some c → c ≠ X.env.locals := fun x c e z => by
 obtain ⟨v, o, ho, hd⟩ := I.cell x c e
 obtain ⟨m, ⟨o', es, ep, ho', hd', _⟩, _⟩ := I.loc
 rw [z, ho'] at ho; cases ho; rw [hd'] at hd; cases hd
theorem Inv.funs (I : Inv X pins σ H s) : s.heap.FunFrames X.base X.outer := by
 have all : ∀ (l : List Env), (∀ b ∈ frs l, b ∈ X.fs) → X.s₀.heap.FunFrames X.base l → s.heap.FunFrames X.base l := by
  intro l
  induction l with
  | nil => intro _ _; trivial
  | cons env r ih =>
   intro hs hl
   obtain ⟨hk, ⟨L, o, hf, hn, ho, hd⟩, hr⟩ := hl
   have hL : L ∈ X.fs := hs L (by unfold frs; rw [List.filterMap_cons, hf]; exact List.mem_cons_self)
   obtain ⟨sl, e⟩ := I.base.slot L o ho (I.ok.frf L hL) hL fun z => I.ok.exfs L z hL
   exact ⟨hk, ⟨L, _, hf, hn, e, hd⟩, ih (fun b hb => hs b (by unfold frs; rw [List.filterMap_cons, hf]; exact List.mem_cons_of_mem _ hb)) hr⟩
 exact all X.outer (fun _ hb => hb) I.ok.funs
theorem Inv.stack (I : Inv X pins σ H s) : s.heap.FunFrames X.base X.stack := by
 rcases I.ok.stk with e | ⟨e, hf⟩
 ·rw [e]; exact I.funs
 ·rw [e]
  obtain ⟨m, hn, _⟩ := I.loc
  refine .cons (by rw [I.ok.kind]; decide) hf hn ?_ I.funs
  exact Heap.get?_none_of_le (Nat.le_trans I.ok.bsz I.ok.above)
theorem Inv.stkSub (I : Inv X pins σ H s) : ∀ b ∈ frs X.stack, b ∈ X.env.locals :: X.fs := fun b hb => by
 rcases I.ok.stk with e | ⟨e, hf⟩
 ·rw [e] at hb; exact List.mem_cons_of_mem _ hb
 ·rw [e] at hb
  unfold frs at hb
  rw [List.filterMap_cons, hf] at hb
  exact hb
theorem Inv.stkFree (I : Inv X pins σ H s) : ∀ b ∈ frs X.stack, H b = none := fun b hb => by
 rcases List.mem_cons.mp (I.stkSub b hb) with e | hb
 ·rw [e]; exact I.free
 ·obtain ⟨_, o, ho, _⟩ := I.ok.funs.mem hb
  exact I.base.free b o ho (I.ok.frf b hb) fun z => I.ok.exfs b z hb
theorem Inv.step {g' : Array GenState} {t' : Nat} {d' : Drawn} {ch : List Addr} (I : Inv X pins σ H s)
  (hch : ∀ b ∈ ch, (b ∈ X.ex ∨ X.s₀.heap.objs.size ≤ b) ∧ b ≠ X.env.locals ∧ (∀ x c, X.env.cells.lookup x = some c → c ≠ b) ∧ ∀ p ∈ X.pn ++ pins, p.1 ≠ b)
  (keep : ∀ b o, b ≠ X.env.locals → b ∉ X.fs → b ∉ ch → s.heap.get? b = some o → H b = none → h'.get? b = some o)
  (slot : ∀ b o, b ≠ X.env.locals → b ∈ X.fs → b ∉ ch → s.heap.get? b = some o → H b = none → ∃ sl, h'.get? b = some { o with slots := sl }) (free : ∀ b o, b ∉ ch → s.heap.get? b = some o → H b = none → H' b = none)
  (there : ∀ b o, b ∉ ch → s.heap.get? b = some o → ∃ o', h'.get? b = some o')
  (tups : ∀ b xs, H b = some (.tup xs) → H' b = some (.tup xs)) (frzs : ∀ b o u, H b = some (.frz o u) → H' b = some (.frz o u)) (tbls : ∀ b ps, H b = some (.tbl ps) → ∃ more, H' b = some (.tbl (ps ++ more)))
  (ns : ∀ m, s.heap.Ns X.env.locals m → h'.Ns X.env.locals m) (hok : HOk X.prog X.w H' h') (hg : AllBare g') :
  Inv X pins σ H' { s with heap := h', gens := g', drawn := d', toks := t' } := by
 have neL : ∀ b o, X.s₀.heap.get? b = some o → b ≠ X.env.locals := fun b o e => Nat.ne_of_lt (Nat.lt_of_lt_of_le (Heap.lt_size e) I.ok.above)
 have neC : ∀ b o, X.s₀.heap.get? b = some o → b ∉ X.ex → b ∉ ch := fun b o e hx hb => by
  rcases (hch b hb).1 with z | z
  ·exact hx z
  ·exact absurd (Nat.lt_of_lt_of_le (Heap.lt_size e) z) (Nat.lt_irrefl _)
 have cellK : ∀ x c, X.env.cells.lookup x = some c → ∀ v, s.heap.IsCell c v → h'.IsCell c v := fun x c e v ⟨o, ho, hd⟩ => by
  have nch : c ∉ ch := fun z => (hch c z).2.2.1 x c e rfl
  by_cases hc : c ∈ X.fs
  ·obtain ⟨sl, q⟩ := slot c o (I.cne x c e) hc nch ho (I.freeC x c e)
   exact ⟨_, q, hd⟩
  ·exact ⟨o, keep c o (I.cne x c e) hc nch ho (I.freeC x c e), hd⟩
 refine ⟨I.ok, I.os, hg, ⟨fun b o e n hb hx => ?_, fun b o e n hb hx => ?_, fun b o e n hx => ?_, fun b o e hx => ?_, fun b xs e => tups b xs (I.base.tups b xs e), fun b o xs e => frzs b o xs (I.base.frzs b o xs e), fun b ps e => ?_⟩, ?_, fun x c e => ?_, ?_, fun x c e => ?_, fun p hp => ?_, hok, I.len⟩
 ·exact keep b o (neL b o e) hb (neC b o e hx) (I.base.keep b o e n hb hx) (I.base.free b o e n hx)
 ·obtain ⟨sl, e1⟩ := I.base.slot b o e n hb hx
  obtain ⟨sl', e2⟩ := slot b _ (neL b o e) hb (neC b o e hx) e1 (I.base.free b o e n hx)
  exact ⟨sl', e2⟩
 ·obtain ⟨o', e1⟩ := I.base.there b o e hx
  exact free b o' (neC b o e hx) e1 (I.base.free b o e n hx)
 ·obtain ⟨o', e1⟩ := I.base.there b o e hx
  exact there b o' (neC b o e hx) e1
 ·obtain ⟨m1, e1⟩ := I.base.tbls b ps e
  obtain ⟨m2, e2⟩ := tbls b _ e1
  exact ⟨m1 ++ m2, by rw [e2, Array.append_assoc]⟩
 ·obtain ⟨m, hn, hl⟩ := I.loc
  refine ⟨m, ns m hn, fun i x v e1 e2 e3 => ?_⟩
  obtain ⟨u, r, l⟩ := hl i x v e1 e2 e3
  refine ⟨u, r, ?_⟩
  rcases l with l | ⟨k, c, e, z⟩
  ·exact .inl l
  ·exact .inr ⟨k, c, e, cellK x c e _ z⟩
 ·obtain ⟨v, z⟩ := I.cell x c e
  exact ⟨v, cellK x c e v z⟩
 ·obtain ⟨m, ⟨o, _, _, ho, _⟩, _⟩ := I.loc
  exact free _ o (fun z => (hch _ z).2.1 rfl) ho I.free
 ·obtain ⟨v, o, ho, hd⟩ := I.cell x c e
  exact free c o (fun z => (hch c z).2.2.1 x c e rfl) ho (I.freeC x c e)
 ·obtain ⟨e, n, ne, nf, d⟩ := I.pin p hp
  have nch : p.1 ∉ ch := fun z => (hch p.1 z).2.2.2 p hp rfl
  exact ⟨keep p.1 p.2 ne nf nch e n, free p.1 p.2 nch e n, ne, nf, d⟩
theorem Inv.un {t' : Nat} (I : Inv X pins σ H s) (u : Un X.fs [] H H' s.heap h') (hok : HOk X.prog X.w H' h') : Inv X pins σ H' { s with heap := h', toks := t' } := by
 obtain ⟨m, ⟨o, es, ep, ho, r⟩, _⟩ := id I.loc
 obtain ⟨sl, hL⟩ := u.any ho I.free (by simp)
 exact I.step (g' := s.gens) (d' := s.drawn) (ch := []) (fun _ z => nomatch z) (fun b o _ hb _ e n => u.keep b o e n hb (by simp)) (fun b o _ hb _ e n => u.slot b o e n hb (by simp)) (fun b o _ e n => u.free b o e n (by simp)) (fun b o _ e => u.there b o e (by simp)) u.tups u.frzs u.tbls (fun m' hm => by
  obtain ⟨o', es', ep', ho', r'⟩ := hm
  rw [ho] at ho'; cases ho'
  exact ⟨_, es', ep', hL, r'⟩) hok I.bare
theorem Inv.call {g' : Array GenState} {t' : Nat} {d' : Drawn} {ch : List Addr} (I : Inv X pins σ H s) (u : Un (frs X.stack) ch H H' s.heap h') (hok : HOk X.prog X.w H' h') (hg : AllBare g')
  (hch : ∀ b ∈ ch, (b ∈ X.ex ∨ X.s₀.heap.objs.size ≤ b) ∧ b ≠ X.env.locals ∧ (∀ x c, X.env.cells.lookup x = some c → c ≠ b) ∧ ∀ p ∈ X.pn ++ pins, p.1 ≠ b) :
  Inv X pins σ H' { s with heap := h', gens := g', drawn := d', toks := t' } := by
 obtain ⟨m, ⟨o, es, ep, ho, r⟩, _⟩ := id I.loc
 obtain ⟨sl, hL⟩ := u.any ho I.free fun z => (hch _ z).2.1 rfl
 exact I.step (ch := ch) hch (fun b o hL hb hc e n => u.keep b o e n (fun z => (List.mem_cons.mp (I.stkSub b z)).elim hL hb) hc) (fun b o _ _ hc e n => u.any e n hc) (fun b o hc e n => u.free b o e n hc) (fun b o hc e => u.there b o e hc) u.tups u.frzs u.tbls (fun m' hm => by
  obtain ⟨o', es', ep', ho', r'⟩ := hm
  rw [ho] at ho'; cases ho'
  exact ⟨_, es', ep', hL, r'⟩) hok hg
theorem Inv.turned {t' : Nat} {it : Addr} (I : Inv X pins σ H s) (k : ∀ b o, b ≠ it → s.heap.get? b = some o → h'.get? b = some o) (hn : H it = none) (hL : it ≠ X.env.locals)
  (h1 : it ∈ X.ex ∨ X.s₀.heap.objs.size ≤ it) (h2 : ∀ x c, X.env.cells.lookup x = some c → c ≠ it) (h3 : ∀ p ∈ X.pn ++ pins, p.1 ≠ it) : Inv X pins σ H { s with heap := h', toks := t' } := by
 have nit : ∀ b u, H b = some u → b ≠ it := fun b u e z => by rw [z, hn] at e; cases e
 refine I.step (g' := s.gens) (d' := s.drawn) (ch := [it]) (fun b hb => ?_) (fun b o _ _ hc e _ => k b o (fun z => hc (by simp [z])) e) (fun b o _ _ hc e _ => ⟨o.slots, k b o (fun z => hc (by simp [z])) e⟩) (fun _ _ _ _ n => n)
  (fun b o hc e => ⟨o, k b o (fun z => hc (by simp [z])) e⟩) (fun _ _ e => e) (fun _ _ _ e => e) (fun b ps e => ⟨#[], by rw [e]; simp⟩) (fun m hm => ?_) (fun b u e => ?_) I.bare
 ·have e : b = it := by simpa using hb
  subst e
  exact ⟨h1, hL, h2, h3⟩
 ·obtain ⟨o, es, ep, ho, r⟩ := hm
  exact ⟨o, es, ep, k _ o (Ne.symm hL) ho, r⟩
 ·refine (I.hok b u e).stay (fun c v hc q => k c v ?_ q) (fun _ q => q) fun _ _ q => q
  rcases hc with z | z
  ·rw [z]; exact nit b u e
  ·exact nit c _ z
theorem Inv.tok (I : Inv X pins σ H s) (t : Nat) : Inv X pins σ H { s with toks := t } := I.un (h' := s.heap) (t' := t) Un.refl I.hok
theorem Inv.kept {t' : Nat} (I : Inv X pins σ H s) (k : ∀ b u, s.heap.get? b = some u → h'.get? b = some u) : Inv X pins σ H { s with heap := h', toks := t' } := I.un (Un.kept k) (I.hok.kept k)
theorem Inv.laid {a : Addr} {o : HO} {t' : Nat} (I : Inv X pins σ H s) (k : ∀ b u, s.heap.get? b = some u → h'.get? b = some u) (hp : s.heap.objs.size ≤ a) (new : ObjOk X.prog X.w (upd H a o) h' a o) :
  Inv X pins σ (upd H a o) { s with heap := h', toks := t' } := I.un (Un.laid k hp (I.hok.fresh hp)) (I.hok.laid k hp new)
theorem Inv.write {x e : Addr} {o : HO} {t' : Nat} (I : Inv X pins σ H s) (mu : Mut (H x)) (he : e = x ∨ H e = some (.own x)) (k : ∀ b u, b ≠ e → s.heap.get? b = some u → h'.get? b = some u) (heo : ∃ u, h'.get? e = some u)
  (new : ObjOk X.prog X.w (upd H x o) h' x o) : Inv X pins σ (upd H x o) { s with heap := h', toks := t' } := I.un (Un.write mu he k heo) (I.hok.write mu he k heo new)
theorem Inv.pins_of {pins' : List (Addr × Obj)} (I : Inv X pins σ H s) (h : ∀ p ∈ pins', s.heap.get? p.1 = some p.2 ∧ H p.1 = none ∧ p.1 ≠ X.env.locals ∧ p.1 ∉ X.fs ∧ ∀ v, p.2.data ≠ .cell v) : Inv X pins' σ H s :=
 ⟨I.ok, I.os, I.bare, I.base, I.loc, I.cell, I.free, I.freeC, fun p hp => (List.mem_append.mp hp).elim (fun z => I.pin p (List.mem_append_left _ z)) (h p), I.hok, I.len⟩
theorem zmg {N : List Str} (hN : N.Nodup) {i j : Nat} {x : Str} (a : N[i]? = some x) (b : N[j]? = some x) : i = j := by
 obtain ⟨h1, e1⟩ := List.getElem?_eq_some_iff.mp a
 obtain ⟨h2, e2⟩ := List.getElem?_eq_some_iff.mp b
 exact (List.getElem_inj hN).mp (e1.trans e2.symm)
theorem zpm {M : Model} {A : Around} {E : Value → Shared → Prop} {i : Nat} {x : Str} {v : V} {u : Value} {Q : Unit → Shared → Prop} (I : Inv X pins σ H s) (hN : X.N.Nodup) (hi : X.N[i]? = some x) (hx : Loc X.env.scope x) (r : RelV v u)
  (h : ∀ s', Inv X pins (σ.set i (some v)) H s' → (∃ a, Heap.SameBut a s.heap s'.heap ∧ (a = X.env.locals ∨ X.env.cells.lookup x = some a)) → Q () s') (hf : X.fn x = true ∨ X.env.scope.names.lookup x = some .local := by first | exact .inl rfl | exact .inr rfl | assumption) : wpAny M A (storeName X.env x u) Q E s := by
 obtain ⟨m, hn, hl⟩ := id I.loc
 have hcls : (X.env.scope.kind == .class || (X.env.scope.kind == .module && X.env.locals != X.env.globals)) = false := by rw [I.ok.kind]; rfl
 have hiσ : i < σ.length := by rw [I.len]; exact (List.getElem?_eq_some_iff.mp hi).1
 have cne := I.cne
 have tracked : ∀ {a : Addr} {h' : Heap}, (∃ o, s.heap.get? a = some o ∧ H a = none) → Heap.SameBut a s.heap h' → HOk X.prog X.w H h' := fun {a h'} ha hs b ob e => by
  obtain ⟨_, _, hfree⟩ := ha
  refine (I.hok b ob e).stay (fun c w' hc q => (hs.2 c ?_).trans q) (fun _ q => q) fun _ _ q => q
  rintro rfl
  rcases hc with rfl | hc
  ·rw [hfree] at e; cases e
  ·rw [hfree] at hc; cases hc
 rcases hx with hk | hk
 ·refine wpAny_storeName_local hk hn (fun h' hn' hs => ?_) hcls
  obtain ⟨oL, _, _, hoL, _⟩ := id hn
  refine h _ ⟨I.ok, I.os, I.bare, ⟨fun b o e n hb hx => ?_, fun b o e n hb hx => ?_, I.base.free, fun b o e hx => ?_, I.base.tups, I.base.frzs, I.base.tbls⟩, ⟨_, hn', fun j y v' e1 e2 e3 => ?_⟩, fun y c e => ?_, I.free, I.freeC, fun p hp => ?_, tracked ⟨oL, hoL, I.free⟩ hs, by simpa using I.len⟩ ⟨_, hs, .inl rfl⟩
  ·exact (hs.2 b (Nat.ne_of_lt (Nat.lt_of_lt_of_le (Heap.lt_size e) I.ok.above))).trans (I.base.keep b o e n hb hx)
  ·obtain ⟨sl, e1⟩ := I.base.slot b o e n hb hx
   exact ⟨sl, (hs.2 b (Nat.ne_of_lt (Nat.lt_of_lt_of_le (Heap.lt_size e) I.ok.above))).trans e1⟩
  ·obtain ⟨o', e1⟩ := I.base.there b o e hx
   exact ⟨o', (hs.2 b (Nat.ne_of_lt (Nat.lt_of_lt_of_le (Heap.lt_size e) I.ok.above))).trans e1⟩
  ·by_cases hj : j = i
   ·subst hj
    rw [hi] at e1; cases e1
    rw [List.getElem?_set_self hiσ] at e2
    cases e2
    exact ⟨u, r, .inl ⟨hk, by simp⟩⟩
   ·rw [List.getElem?_set_ne (Ne.symm hj)] at e2
    obtain ⟨u', r', q⟩ := hl j y v' e1 e2 e3
    refine ⟨u', r', ?_⟩
    rcases q with ⟨k, e⟩ | ⟨k, c, e, z⟩
    ·refine .inl ⟨k, ?_⟩
     have : y ≠ x := fun e => hj (zmg hN e1 (e ▸ hi))
     simp [this, e]
    ·exact .inr ⟨k, c, e, z.sameBut hs (cne y c e)⟩
  ·obtain ⟨w', z⟩ := I.cell y c e
   exact ⟨w', z.sameBut hs (cne y c e)⟩
  ·obtain ⟨e, n, ne, nf, d⟩ := I.pin p hp
   exact ⟨(hs.2 p.1 ne).trans e, n, ne, nf, d⟩
 ·have hfn : X.fn x = true := by
   rcases hf with z | z
   ·exact z
   ·rw [z] at hk; cases hk
  obtain ⟨c, hc⟩ := I.ok.has x (.inl hk)
  obtain ⟨w', z⟩ := I.cell x c hc
  refine wpAny_storeName_cell I.ok.kind hk hc z (fun h' hc' hs => ?_)
  obtain ⟨oc, hoc, hocd⟩ := id z
  refine h { s with heap := h' } ⟨I.ok, I.os, I.bare, ⟨fun b o e n hb hx => ?_, fun b o e n hb hx => ?_, I.base.free, fun b o e hx => ?_, I.base.tups, I.base.frzs, I.base.tbls⟩, ⟨m, hn.sameBut hs (Ne.symm (cne x c hc)), fun j y v' e1 e2 e3 => ?_⟩, fun y c' e => ?_, I.free, I.freeC, fun p hp => ?_, tracked ⟨oc, hoc, I.freeC x c hc⟩ hs, by simpa using I.len⟩ ⟨c, hs, .inr hc⟩
  ·exact (hs.2 b (Nat.ne_of_lt (Nat.lt_of_lt_of_le (Heap.lt_size e) (I.ok.cab x c hfn hc)))).trans (I.base.keep b o e n hb hx)
  ·obtain ⟨sl, e1⟩ := I.base.slot b o e n hb hx
   exact ⟨sl, (hs.2 b (Nat.ne_of_lt (Nat.lt_of_lt_of_le (Heap.lt_size e) (I.ok.cab x c hfn hc)))).trans e1⟩
  ·obtain ⟨o', e1⟩ := I.base.there b o e hx
   exact ⟨o', (hs.2 b (Nat.ne_of_lt (Nat.lt_of_lt_of_le (Heap.lt_size e) (I.ok.cab x c hfn hc)))).trans e1⟩
  ·by_cases hj : j = i
   ·subst hj
    rw [hi] at e1; cases e1
    rw [List.getElem?_set_self hiσ] at e2
    cases e2
    exact ⟨u, r, .inr ⟨.inl hk, c, hc, hc'⟩⟩
   ·rw [List.getElem?_set_ne (Ne.symm hj)] at e2
    obtain ⟨u', r', q⟩ := hl j y v' e1 e2 e3
    refine ⟨u', r', ?_⟩
    rcases q with q | ⟨k, c', e, z'⟩
    ·exact .inl q
    ·refine .inr ⟨k, c', e, z'.sameBut hs ?_⟩
     rintro rfl
     exact hj (zmg hN e1 (I.ok.inj _ _ _ e hc ▸ hi))
  ·by_cases hcc : c' = c
   ·subst hcc; exact ⟨_, hc'⟩
   ·obtain ⟨w2, z2⟩ := I.cell y c' e
    exact ⟨w2, z2.sameBut hs hcc⟩
  ·obtain ⟨e, n, ne, nf, d⟩ := I.pin p hp
   refine ⟨(hs.2 p.1 ?_).trans e, n, ne, nf, d⟩
   intro q
   rw [q, hoc] at e
   have q' : oc = p.2 := Option.some.inj e
   exact d w' (by rw [← q']; exact hocd)
theorem zl8 {M : Model} {A : Around} {E : Value → Shared → Prop} {i : Nat} {x : Str} {v : V} {u : Value} {Q : Unit → Shared → Prop} (I : Inv X pins σ H s) (hN : X.N.Nodup) (hi : X.N[i]? = some x) (hx : Loc X.env.scope x) (r : RelV v u)
  (h : ∀ s', Inv X pins (σ.set i (some v)) H s' → Q () s') (hf : X.fn x = true ∨ X.env.scope.names.lookup x = some .local := by first | exact .inl rfl | exact .inr rfl | assumption) : wpAny M A (storeName X.env x u) Q E s :=
 zpm I hN hi hx r (fun s' I' _ => h s' I') hf
theorem Inv.call' {s' : Shared} {ch : List Addr} (I : Inv X pins σ H s) (ho : s'.os = s.os) (u : Un (frs X.stack) ch H H' s.heap s'.heap) (hok : HOk X.prog X.w H' s'.heap) (hg : AllBare s'.gens)
  (hch : ∀ b ∈ ch, (b ∈ X.ex ∨ X.s₀.heap.objs.size ≤ b) ∧ b ≠ X.env.locals ∧ (∀ x c, X.env.cells.lookup x = some c → c ≠ b) ∧ ∀ p ∈ X.pn ++ pins, p.1 ≠ b) : Inv X pins σ H' s' := by
 obtain ⟨h', g', d', t', o'⟩ := s'
 have e : o' = s.os := ho
 subst e
 exact I.call (g' := g') (t' := t') (d' := d') u hok hg hch
end
abbrev XK := Value → Option Addr → Hp → Prop
abbrev St := List (Option V)
abbrev VK := V → Hp → Prop
abbrev TE := St → Hp → VK → Prop
abbrev TT := St → Hp → (Bool → Hp → Prop) → Prop
abbrev TA := St → Hp → (List V → Hp → Prop) → Prop
structure zis where
 nx : St → Hp → Prop
 rt : VK
 bk : St → Hp → Prop := fun _ _ => False
 ct : St → Hp → Prop := fun _ _ => False
abbrev TS := zis → St → Hp → Prop
def EP (X : Cx) (pins : List (Addr × Obj)) (σ : St) (Q : VK) (u : Value) (s' : Shared) : Prop := ∃ v H', Inv X pins σ H' s' ∧ RelV v u ∧ Q v H'
def TP (X : Cx) (pins : List (Addr × Obj)) (σ : St) (Q : Bool → Hp → Prop) (b : Bool) (s' : Shared) : Prop := ∃ H', Inv X pins σ H' s' ∧ Q b H'
def AP (X : Cx) (pins : List (Addr × Obj)) (σ : St) (Q : List V → Hp → Prop) (us : List Value) (s' : Shared) : Prop := ∃ vs H', Inv X pins σ H' s' ∧ Vals vs us ∧ Q vs H'
def SP (X : Cx) (pins : List (Addr × Obj)) (D : zis) (f : Flow) (s' : Shared) : Prop :=
 match f with
 | .next => ∃ σ' H', Inv X pins σ' H' s' ∧ D.nx σ' H'
 | .brk => ∃ σ' H', Inv X pins σ' H' s' ∧ D.bk σ' H'
 | .cont => ∃ σ' H', Inv X pins σ' H' s' ∧ D.ct σ' H'
 | .ret u => ∃ v σ' H', Inv X pins σ' H' s' ∧ RelV v u ∧ D.rt v H'
def PE (X : Cx) (e : Expr) (t : TE) : Prop :=
 ∀ (pins : List (Addr × Obj)) (s : Shared) (σ : St) (H : Hp) (Q : VK), Inv X pins σ H s → t σ H Q → wpAny (model X.prog X.w) X.A (eval e X.env) (EP X pins σ Q) X.xe s
def PT (X : Cx) (e : Expr) (t : TT) : Prop :=
 ∀ (pins : List (Addr × Obj)) (s : Shared) (σ : St) (H : Hp) (Q : Bool → Hp → Prop), Inv X pins σ H s → t σ H Q → wpAny (model X.prog X.w) X.A (isTrue e X.env (eval e X.env)) (TP X pins σ Q) X.xe s
def PW (X : Cx) (e : Expr) (t : TT) : Prop :=
 ∀ (whole : Sem Value) (pins : List (Addr × Obj)) (s : Shared) (σ : St) (H : Hp) (Q : Bool → Hp → Prop), Inv X pins σ H s → t σ H Q → wpAny (model X.prog X.w) X.A (isTrue e X.env whole) (TP X pins σ Q) X.xe s
theorem PW.pt {X : Cx} {e : Expr} {t : TT} (h : PW X e t) : PT X e t := h _
def PA (X : Cx) (es : List Expr) (t : TA) : Prop :=
 ∀ (pos : Pos) (pins : List (Addr × Obj)) (s : Shared) (σ : St) (H : Hp) (Q : List V → Hp → Prop), Inv X pins σ H s → t σ H Q → wpAny (model X.prog X.w) X.A (spliced (backTo pos (starEach es X.env))) (AP X pins σ Q) X.xe s
def PS (X : Cx) (st : Stmt) (t : TS) : Prop :=
 ∀ (pins : List (Addr × Obj)) (s : Shared) (σ : St) (H : Hp) (D : zis), Inv X pins σ H s → t D σ H → wpAny (model X.prog X.w) X.A (exec st X.env) (SP X pins D) X.xe s
def PSs (X : Cx) (st : List Stmt) (t : TS) : Prop :=
 ∀ (pins : List (Addr × Obj)) (s : Shared) (σ : St) (H : Hp) (D : zis), Inv X pins σ H s → t D σ H → wpAny (model X.prog X.w) X.A (execs st X.env) (SP X pins D) X.xe s
theorem thn {α : Type} {t : Sem α} {Q Q' : α → Shared → Prop} {M : Model} {A : Around} {E : Value → Shared → Prop} {s : Shared} (h : wpAny M A t Q E s) (hQ : ∀ a s, Q a s → Q' a s) : wpAny M A t Q' E s := wpAny_mono h hQ fun _ _ x => x
end L2
namespace L2
open PySem PySem.Spec PyProof.Rows
section
variable {X : Cx}
def zs3 (i : Nat) : TE := fun σ H Q => ∃ v, σ[i]? = some (some v) ∧ Q v H
def tC (v : V) : TE := fun _ H Q => Q v H
theorem zqv {i : Nat} {x : Str} {pos : Pos} (hN : X.N[i]? = some x) (hv : Vis X.env.scope x) (hd : (x == ("__debug__" : Str)) = false := by decide) (hcd : (x == ("__classdict__" : Str)) = false := by decide) : PE X (.Name x pos) (zs3 i) := by
 intro pins s σ H Q I h
 obtain ⟨v, e, h⟩ := h
 obtain ⟨m, hn, hl⟩ := I.loc
 obtain ⟨u, r, l⟩ := hl i x v hN e hv
 have fin : EP X pins σ Q u s := ⟨v, H, I, r, h⟩
 rcases l with ⟨hk, hm⟩ | ⟨hk, c, hc, hcell⟩
 ·exact wpAny_Name (wpAny_loadName_local I.ok.kind hk hn hm fin) hd
 ·rcases hk with hk | hk
  ·exact wpAny_Name (wpAny_loadName_cell I.ok.kind hk hc hcell fin) hd
  ·exact wpAny_Name (wpAny_loadName_free I.ok.kind hk hc hcell fin hcd) hd
theorem zae {i j pos} : PE X (.Constant (.int i) j pos) (tC (.int i)) := fun _ _ _ H _ I h => wpAny_Constant_int ⟨.int i, H, I.tok _, ⟨_, rfl⟩, h⟩
theorem zq2 {b j pos} : PE X (.Constant (.bool b) j pos) (tC (.bl b)) := fun _ _ _ H _ I h => Constant_bool ⟨.bl b, H, I, rfl, h⟩
theorem zdo {j pos} : PE X (.Constant .none j pos) (tC .non) := fun _ _ _ H _ I h => Constant_none ⟨.non, H, I, rfl, h⟩
theorem zcs {x j pos} : PE X (.Constant (.str x) j pos) (tC (.str x)) := fun _ _ _ H _ I h => Calls.Constant_str ⟨.str x, H, I.tok _, ⟨_, rfl⟩, h⟩
def Gl (X : Cx) (x : Str) : Prop := X.env.kindOf x = some .globalImplicit
theorem zhy {E : Value → Shared → Prop} {pins : List (Addr × Obj)} {s : Shared} {σ : St} {H : Hp} {x : Str} {u : Value} {pos : Pos} {Q : Value → Shared → Prop} (I : Inv X pins σ H s) (hg : Gl X x) (hm : X.mg x = some u) (h : Q u s)
  (hd : (x == ("__debug__" : Str)) = false := by decide) : wpAny (model X.prog X.w) X.A (eval (.Name x pos) X.env) Q E s :=
 Calls.Name_function_global I.ok.kind hg (Calls.loadGlobal_global (by rw [I.ok.glob]; exact I.mod.glob.keeps I.bk) hm h) hd
theorem zhb {E : Value → Shared → Prop} {pins : List (Addr × Obj)} {s : Shared} {σ : St} {H : Hp} {x : Str} {u : Value} {pos : Pos} {Q : Value → Shared → Prop} (I : Inv X pins σ H s) (hg : Gl X x) (hm : X.mg x = none) (hv : bootBuiltins x = some u) (h : Q u s)
  (hn : x ≠ "__name__" := by decide) (hd : (x == ("__debug__" : Str)) = false := by decide) : wpAny (model X.prog X.w) X.A (eval (.Name x pos) X.env) Q E s := by
 obtain ⟨mb, h1, h2⟩ := I.mod.blt
 exact Calls.Name_function_global I.ok.kind hg (Calls.loadGlobal_builtin (by rw [I.ok.glob]; exact I.mod.glob.keeps I.bk) hm (by rw [I.ok.blt]; exact h1.keeps I.bk) ((h2 x hn).trans hv) h) hd
theorem zkw {x : Str} {v : V} {u : Value} {pos : Pos} (hg : Gl X x) (hm : X.mg x = none) (hv : bootBuiltins x = some u) (r : RelV v u) (hn : x ≠ "__name__" := by decide) (hd : (x == ("__debug__" : Str)) = false := by decide) : PE X (.Name x pos) (tC v) :=
 fun _ _ _ H _ I h => zhb I hg hm hv ⟨v, H, I, r, h⟩ hn hd
variable {a b : Expr} {ta tb : TE} {pos : Pos}
def tB (t : TE) : TT := fun σ H Q => t σ H fun x H1 => ∃ c, x = .bl c ∧ Q c H1
theorem zcv {e : Expr} {t : TE} (h : PE X e t) (he : ∀ whole, isTrue e X.env whole = (do let v ← whole; standAt e.pos; holding [v] (truthy v)) := by intro _; rfl) : PT X e (tB t) := by
 intro pins s σ H Q I hw
 refine isTrue_plain (thn (h pins s σ H _ I hw) fun v s1 ⟨x, H1, I1, r1, q1⟩ => ?_) (he _)
 obtain ⟨d, rfl, q⟩ := q1
 cases r1
 exact wpAny_truthy_bool ⟨H1, I1, q⟩
variable {tA tB' : TT} {rest : List Expr}
def zv3 (t u : TT) : TT := fun σ H Q => t σ H fun c H1 => if c = true then u σ H1 Q else Q false H1
def tOr (t u : TT) : TT := fun σ H Q => t σ H fun c H1 => if c = true then Q true H1 else u σ H1 Q
def zv6 (t : TT) : TT := fun σ H Q => t σ H fun c H1 => Q (!c) H1
theorem zhz (ha : PT X a tA) : PW X (.BoolOp .And [a] pos) tA := by
 intro wh pins s σ H Q I h
 refine isTrue_and (thn (ha pins s σ H Q I h) fun c s1 e => ?_)
 cases c with
 | true => exact isTrue_and_nil e
 | false => exact e
theorem zkt (ha : PT X a tA) : PW X (.BoolOp .Or [a] pos) tA := by
 intro wh pins s σ H Q I h
 refine isTrue_or (thn (ha pins s σ H Q I h) fun c s1 e => ?_)
 cases c with
 | false => exact isTrue_or_nil e
 | true => exact e
theorem zlp (ha : PT X a tA) (hb : PW X (.BoolOp .And (b :: rest) pos) tB') : PW X (.BoolOp .And (a :: b :: rest) pos) (zv3 tA tB') := by
 intro wh pins s σ H Q I h
 refine isTrue_and (thn (ha pins s σ H _ I h) fun c s1 ⟨H1, I1, q1⟩ => ?_)
 cases c with
 | true => exact hb wh pins s1 σ H1 Q I1 q1
 | false => exact ⟨H1, I1, q1⟩
theorem zke (ha : PT X a tA) (hb : PW X (.BoolOp .Or (b :: rest) pos) tB') : PW X (.BoolOp .Or (a :: b :: rest) pos) (tOr tA tB') := by
 intro wh pins s σ H Q I h
 refine isTrue_or (thn (ha pins s σ H _ I h) fun c s1 ⟨H1, I1, q1⟩ => ?_)
 cases c with
 | true => exact ⟨H1, I1, q1⟩
 | false => exact hb wh pins s1 σ H1 Q I1 q1
theorem zfl (ha : PT X a tA) : PT X (.UnaryOp .Not a pos) (zv6 tA) := by
 intro pins s σ H Q I h
 exact isTrue_not (ha pins s σ H (fun c H1 => Q (!c) H1) I h)
def zu6 (ta tb : TE) : TE := fun σ H Q => ta σ H fun x H1 => ∃ c, x = .bl c ∧ if c = true then tb σ H1 Q else Q (.bl false) H1
def zwo (ta tb : TE) : TE := fun σ H Q => ta σ H fun x H1 => ∃ c, x = .bl c ∧ if c = true then Q (.bl true) H1 else tb σ H1 Q
def zu7 (ta : TE) : TE := fun σ H Q => ta σ H fun x H1 => ∃ c, x = .bl c ∧ Q (.bl (!c)) H1
theorem zel {op} {t : TE} (h : PE X a t) : PE X (.BoolOp op [a] pos) t := fun pins s σ H Q I hw => BoolOp_one (h pins s σ H Q I hw)
theorem zfb (ha : PE X a ta) (hb : PE X (.BoolOp .And (b :: rest) pos) tb) : PE X (.BoolOp .And (a :: b :: rest) pos) (zu6 ta tb) := by
 intro pins s σ H Q I h
 refine BoolOp_and (thn (ha pins s σ H _ I h) fun v s1 ⟨x, H1, I1, r1, q1⟩ => ?_)
 obtain ⟨c, rfl, q1⟩ := q1
 cases r1
 refine wpAny_truthy_bool ?_
 cases c with
 | true => exact hb pins s1 σ H1 Q I1 q1
 | false => exact ⟨.bl false, H1, I1, rfl, q1⟩
theorem ztj (ha : PE X a ta) (hb : PE X (.BoolOp .Or (b :: rest) pos) tb) : PE X (.BoolOp .Or (a :: b :: rest) pos) (zwo ta tb) := by
 intro pins s σ H Q I h
 refine BoolOp_or (thn (ha pins s σ H _ I h) fun v s1 ⟨x, H1, I1, r1, q1⟩ => ?_)
 obtain ⟨c, rfl, q1⟩ := q1
 cases r1
 refine wpAny_truthy_bool ?_
 cases c with
 | false => exact hb pins s1 σ H1 Q I1 q1
 | true => exact ⟨.bl true, H1, I1, rfl, q1⟩
theorem zfu (ha : PE X a ta) : PE X (.UnaryOp .Not a pos) (zu7 ta) := by
 intro pins s σ H Q I h
 refine UnaryOp_ (thn (ha pins s σ H _ I h) fun v s1 ⟨x, H1, I1, r1, q1⟩ => ?_)
 obtain ⟨c, rfl, q1⟩ := q1
 cases r1
 exact not_of (wpAny_truthy_bool ⟨.bl (!c), H1, I1, rfl, q1⟩)
end
end L2
namespace L2
open PySem PySem.Spec PyProof.Rows
def SqL (K : PySem.W.Frag) (H : Hp) (a : Addr) (xs : List V) : Prop :=
 Rd H a (.lst xs) ∨
  ∃ (o : Obj) (its : Array Value) (n : Nat), K.lookup a = some o ∧ o.cls = .type "list" ∧ o.dict = none ∧ o.data = .seq its n ∧ its.size ≤ sizeLine ∧ Vals xs its.toList
def SqT (K : PySem.W.Frag) (H : Hp) (a : Addr) (xs : List V) : Prop :=
 Rd H a (.tup xs) ∨
  ∃ (o : Obj) (its : Array Value) (n : Nat), K.lookup a = some o ∧ o.cls = .type "tuple" ∧ o.data = .seq its n ∧ its.size ≤ sizeLine ∧ Vals xs its.toList
def zwi : Value → Option V
 | .none => some .non
 | .bool b => some (.bl b)
 | .int i _ => some (.int i)
 | .str x _ => some (.str x)
 | .bytes b _ => some (.byt b)
 | .float b _ => some (.flt b)
 | .ref a => some (.ref a)
 | .type n => some (.ty n)
 | _ => none
theorem RelV.abs {x : V} {u : Value} (r : RelV x u) : zwi u = some x := by
 cases x with
 | non => cases r; rfl
 | bl _ => cases r; rfl
 | int _ => obtain ⟨t, rfl⟩ := r; rfl
 | str _ => obtain ⟨t, rfl⟩ := r; rfl
 | byt _ => obtain ⟨t, rfl⟩ := r; rfl
 | flt _ => obtain ⟨t, rfl⟩ := r; rfl
 | ref _ => cases r; rfl
 | ty _ => cases r; rfl
theorem RelV.inj {x y : V} {u : Value} (r : RelV x u) (q : RelV y u) : x = y := Option.some.inj (r.abs.symm.trans q.abs)
theorem Vals.inj : ∀ {xs ys : List V} {us : List Value}, Vals xs us → Vals ys us → xs = ys
 | _, _, _, .nil, .nil => rfl
 | _, _, _, .cons r t, .cons r' t' => by rw [r.inj r', Vals.inj t t']
section
variable {X : Cx} {pins : List (Addr × Obj)} {σ : St} {H : Hp} {s : Shared} {a : Addr} {xs ys : List V}
theorem SqL.of {K : PySem.W.Frag} (h : H a = some (.lst xs)) : SqL K H a xs := .inl (.inl h)
theorem Inv.list (I : Inv X pins σ H s) (h : SqL X.K H a xs) : ∃ its : List Value, Vals xs its ∧ PlainL s.heap a its.toArray ∧ xs.length ≤ sizeLine := by
 rcases h with h | ⟨o, its, n, hk, hc, hd, hs, hz, r⟩
 ·obtain ⟨z, its, n, r, e⟩ := h.ok I.hok
  exact ⟨its, r, ⟨_, n, e, rfl, rfl, rfl⟩, z⟩
 ·refine ⟨its.toList, r, ⟨o, n, I.kIn a o hk, hc, hd, by simpa using hs⟩, ?_⟩
  have e := r.length
  simp only [Array.length_toList] at e
  omega
theorem Inv.tuple (I : Inv X pins σ H s) (h : SqT X.K H a xs) : ∃ its : List Value, Vals xs its ∧ IsTup s.heap a its.toArray ∧ xs.length ≤ sizeLine := by
 rcases h with h | ⟨o, its, n, hk, hc, hs, hz, r⟩
 ·obtain ⟨z, its, r, p⟩ := h.ok I.hok
  exact ⟨its, r, p, z⟩
 ·refine ⟨its.toList, r, ⟨o, I.kIn a o hk, hc, n, by simpa using hs⟩, ?_⟩
  have e := r.length
  simp only [Array.length_toList] at e
  omega
theorem Inv.list_inj (I : Inv X pins σ H s) (h : SqL X.K H a xs) (h' : SqL X.K H a ys) : xs = ys := by
 obtain ⟨its, r, ⟨o, n, e, _, _, d⟩, _⟩ := I.list h
 obtain ⟨its', r', ⟨o', n', e', _, _, d'⟩, _⟩ := I.list h'
 rw [e] at e'; cases e'
 rw [d] at d'
 injection d' with d1 _
 have : its = its' := by simpa using congrArg Array.toList d1
 subst this
 exact r.inj r'
theorem Inv.tuple_inj (I : Inv X pins σ H s) (h : SqT X.K H a xs) (h' : SqT X.K H a ys) : xs = ys := by
 obtain ⟨its, r, ⟨o, e, _, n, d⟩, _⟩ := I.tuple h
 obtain ⟨its', r', ⟨o', e', _, n', d'⟩, _⟩ := I.tuple h'
 rw [e] at e'; cases e'
 rw [d] at d'
 injection d' with d1 _
 have : its = its' := by simpa using congrArg Array.toList d1
 subst this
 exact r.inj r'
end
abbrev Cx.wish (X : Cx) (E : Value → Shared → Prop) : Cx := { X with xe := E }
abbrev Cx.nox (X : Cx) : Cx := X.wish fun _ _ => False
theorem Cx.Ok.wish {X : Cx} (ok : X.Ok) (E : Value → Shared → Prop) : (X.wish E).Ok :=
 ⟨ok.mod, ok.kind, ok.glob, ok.blt, ok.above, ok.inj, ok.has, ok.cab, ok.hd, ok.frames, ok.stk, ok.exf, ok.bs, ok.bsz, ok.noex, ok.exfs, ok.funs, ok.frf⟩
theorem Cx.Ok.unwish {X : Cx} {E : Value → Shared → Prop} (ok : (X.wish E).Ok) : X.Ok :=
 ⟨ok.mod, ok.kind, ok.glob, ok.blt, ok.above, ok.inj, ok.has, ok.cab, ok.hd, ok.frames, ok.stk, ok.exf, ok.bs, ok.bsz, ok.noex, ok.exfs, ok.funs, ok.frf⟩
section
variable {X : Cx} {pins : List (Addr × Obj)} {σ : St} {H : Hp} {s : Shared} {E : Value → Shared → Prop}
theorem Inv.wish (I : Inv X pins σ H s) (E : Value → Shared → Prop) : Inv (X.wish E) pins σ H s := ⟨I.ok.wish E, I.os, I.bare, I.base, I.loc, I.cell, I.free, I.freeC, I.pin, I.hok, I.len⟩
theorem Inv.unwish (I : Inv (X.wish E) pins σ H s) : Inv X pins σ H s := ⟨I.ok.unwish, I.os, I.bare, I.base, I.loc, I.cell, I.free, I.freeC, I.pin, I.hok, I.len⟩
theorem SP.unwish {D : zis} {f : Flow} {s' : Shared} (h : SP (X.wish E) pins D f s') : SP X pins D f s' := by
 cases f with
 | next => obtain ⟨σ', H', I, q⟩ := h; exact ⟨σ', H', I.unwish, q⟩
 | brk => obtain ⟨σ', H', I, q⟩ := h; exact ⟨σ', H', I.unwish, q⟩
 | cont => obtain ⟨σ', H', I, q⟩ := h; exact ⟨σ', H', I.unwish, q⟩
 | ret u => obtain ⟨v, σ', H', I, r, q⟩ := h; exact ⟨v, σ', H', I.unwish, r, q⟩
theorem PSs.nox {st : List Stmt} {t : TS} (h : PSs X.nox st t) : PSs X st t := fun pins s σ H D I hw =>
 wpAny_mono (h pins s σ H D (I.wish _) hw) (fun _ _ q => q.unwish) fun _ _ z => False.elim z
end
section
variable {X : Cx} {st : Stmt} {rest : List Stmt} {t u : TS} {e : Expr} {te : TE} {pos : Pos}
def zvv : TS := fun D σ H => D.nx σ H
def zv7 (t u : TS) : TS := fun D σ H => t { D with nx := u D } σ H
theorem za1 : PSs X [] zvv := fun _ _ σ H _ I h => wpAny_execs_nil ⟨σ, H, I, h⟩
theorem zaf (h1 : PS X st t) (h2 : PSs X rest u) : PSs X (st :: rest) (zv7 t u) := by
 intro pins s σ H D I h
 refine wpAny_execs_cons (thn (h1 pins s σ H { D with nx := u D } I h) fun f s1 q => ?_)
 cases f with
 | next =>
  obtain ⟨σ', H', I', q⟩ := q
  exact h2 pins s1 σ' H' D I' q
 | ret v => exact q
 | brk => exact q
 | cont => exact q
theorem zaj (h1 : PS X st t) : PSs X [st] t := by
 intro pins s σ H D I h
 refine wpAny_execs_cons (thn (h1 pins s σ H D I h) fun f s1 q => ?_)
 cases f with
 | next => exact wpAny_execs_nil q
 | ret v => exact q
 | brk => exact q
 | cont => exact q
theorem Inv.quiet {pins : List (Addr × Obj)} {σ : St} {H : Hp} {s : Shared} (I : Inv X pins σ H s) : interactive X.env = false := by simp [interactive, I.ok.kind]
def zve (te : TE) : TS := fun D σ H => te σ H fun _ H1 => D.nx σ H1
theorem zdj (he : PE X e te) (hs : swapsWith e none pos.line X.env = pure false := by rfl) : PS X (.Expr e pos) (zve te) := by
 intro pins s σ H D I h
 exact wpAny_Expr_any (thn (he pins s σ H _ I h) fun v s1 ⟨x, H1, I1, r1, q1⟩ => ⟨σ, H1, I1, q1⟩) I.quiet hs
def zwb (te : TE) : TS := fun D σ H => te σ H D.rt
theorem zar (he : PE X e te) : PS X (.Return (some e) pos) (zwb te) := by
 intro pins s σ H D I h
 exact wpAny_Return_some (thn (he pins s σ H _ I h) fun v s1 ⟨x, H1, I1, r1, q1⟩ => ⟨x, σ, H1, I1, r1, q1⟩)
def zv9 (c : TT) (t u : TS) : TS := fun D σ H => c σ H fun b H1 => if b = true then t D σ H1 else u D σ H1
theorem zbk {c : Expr} {a b : List Stmt} {tc : TT} (hc : PT X c tc) (ha : PSs X a t) (hb : PSs X b u) : PS X (.If c a b pos) (zv9 tc t u) := by
 intro pins s σ H D I h
 refine wpAny_If (thn (hc pins s σ H _ I h) fun d s1 ⟨H1, I1, q1⟩ => ?_)
 cases d with
 | true => exact ha pins s1 σ H1 D I1 q1
 | false => exact hb pins s1 σ H1 D I1 q1
def znl : TS := fun _ _ _ => False
theorem zrp : PS X st znl := fun _ _ _ _ _ _ h => h.elim
theorem zf3 {sts : List Stmt} : PSs X sts znl := fun _ _ _ _ _ _ h => h.elim
end
abbrev TG := V → St → Hp → (St → Hp → Prop) → Prop
abbrev TGs := List V → St → Hp → (St → Hp → Prop) → Prop
def PG (X : Cx) (target : Expr) (t : TG) : Prop :=
 ∀ (pins : List (Addr × Obj)) (s : Shared) (σ : St) (H : Hp) (v : V) (u : Value) (Q : St → Hp → Prop), Inv X pins σ H s → RelV v u → t v σ H Q →
  wpAny (model X.prog X.w) X.A (assign target X.env u) (fun _ s' => ∃ σ' H', Inv X pins σ' H' s' ∧ Q σ' H') X.xe s
def PGs (X : Cx) (ts : List Expr) (t : TGs) : Prop :=
 ∀ (pins : List (Addr × Obj)) (s : Shared) (σ : St) (H : Hp) (vs : List V) (us : List Value) (Q : St → Hp → Prop), Inv X pins σ H s → Vals vs us → t vs σ H Q →
  wpAny (model X.prog X.w) X.A (assignInOrder ((assignEach ts X.env).map (·.2)) us) (fun _ s' => ∃ σ' H', Inv X pins σ' H' s' ∧ Q σ' H') X.xe s
abbrev ztp := V → V → V → Hp → (Hp → Prop) → Prop
def zu8 (X : Cx) (t : ztp) : Prop :=
 ∀ (pins : List (Addr × Obj)) (s : Shared) (σ : St) (H : Hp) (o i v : V) (ov iv u : Value) (Q : Hp → Prop), Inv X pins σ H s → RelV o ov → RelV i iv → RelV v u → t o i v H Q →
  wpAny (model X.prog X.w) X.A (setItem ov iv u) (fun _ s' => ∃ H', Inv X pins σ H' s' ∧ Q H') X.xe s
section
variable {X : Cx} {pos : Pos}
def zn2 (i : Nat) : TG := fun v σ H Q => Q (σ.set i (some v)) H
theorem zaz {i : Nat} {x : Str} (hN : X.N.Nodup) (hi : X.N[i]? = some x) (hx : Loc X.env.scope x) (hf : X.fn x = true ∨ X.env.scope.names.lookup x = some .local := by first | exact .inl rfl | exact .inr rfl | assumption) : PG X (.Name x pos) (zn2 i) := by
 intro pins s σ H v u Q I r h
 exact wpAny_assign_Name (zl8 I hN hi hx r (fun s' I' => ⟨_, H, I', h⟩) hf)
def zwn : TGs := fun vs σ H Q => vs = [] ∧ Q σ H
def zvq (t : TG) (u : TGs) : TGs := fun vs σ H Q => ∃ v r, vs = v :: r ∧ t v σ H fun σ' H' => u r σ' H' Q
theorem zf7 : PGs X [] zwn := by
 intro pins s σ H vs us Q I r h
 obtain ⟨e, h⟩ := h
 subst e
 cases r
 exact assignInOrder_nil ⟨σ, H, I, h⟩
theorem zb8 {e : Expr} {es : List Expr} {t : TG} {u : TGs} (h1 : PG X e t) (h2 : PGs X es u)
  (hs : (assignEach (e :: es) X.env).map (·.2) = assign e X.env :: (assignEach es X.env).map (·.2) := by rfl) : PGs X (e :: es) (zvq t u) := by
 intro pins s σ H vs us Q I r h
 obtain ⟨v, vr, e1, h⟩ := h
 subst e1
 cases r with
 | cons r rr =>
  rw [hs]
  refine assignInOrder_cons (thn (h1 pins s σ H _ _ _ I r h) fun _ s1 ⟨σ1, H1, I1, q1⟩ => ?_)
  exact h2 pins s1 σ1 H1 _ _ Q I1 rr q1
def zvz (K : PySem.W.Frag) (n : Nat) (t : TGs) : TG := fun v σ H Q => ∃ a xs, v = .ref a ∧ SqT K H a xs ∧ xs.length = n ∧ t xs σ H Q
theorem zuv {es : List Expr} {k : Nat} {t : TGs} {n : Nat} (hc : X.calm = true) (h : PGs X es t)
  (hn : (assignEach es X.env).length = n := by rfl) (hst : (assignEach es X.env).findIdx? (·.1) = none := by rfl) : PG X (.Tuple es k pos) (zvz X.K n t) := by
 intro pins s σ H v u Q I r hw
 obtain ⟨a, xs, e1, hq, hl, hw⟩ := hw
 subst e1
 cases r
 obtain ⟨its, rv, ht, hz⟩ := I.tuple hq
 refine assign_Tuple_tuple (I.ok.hd hc) ht (by simp [hn, ← hl, rv.length]) hst fun h' hx => ?_
 have I1 : Inv X pins σ H { s with heap := h' } := I.kept (t' := s.toks) fun b o e => hx b o (Nat.ne_of_lt (Heap.lt_size e)) e
 exact h pins _ σ H xs _ Q I1 (by simpa using rv) hw
def zv8 (to ti : TE) (t : ztp) : TG := fun v σ H Q => to σ H fun o H1 => ti σ H1 fun i H2 => t o i v H2 fun H3 => Q σ H3
theorem ztn {o i : Expr} {to ti : TE} {t : ztp} (ho : PE X o to) (hi : PE X i ti) (hs : zu8 X t)
  (ha : ∀ v, assign (.Subscript o i pos) X.env v = (do
   let ov ← holding [v] (eval o X.env)
   let iv ← holding [v, ov] (eval i X.env)
   standAt pos
   holding [v, ov, iv] (setItem ov iv v)
   release [v, ov, iv] []) := by intro _; rfl) : PG X (.Subscript o i pos) (zv8 to ti t) := by
 intro pins s σ H v u Q I r h
 rw [ha]
 refine wpAny_bind (wpAny_holding (thn (ho pins s σ H _ I h) fun ov s1 ⟨x, H1, I1, r1, q1⟩ => ?_))
 refine wpAny_bind (wpAny_holding (thn (hi pins s1 σ H1 _ I1 q1) fun iv s2 ⟨y, H2, I2, r2, q2⟩ => ?_))
 refine wpAny_bind (wpAny_standAt (wpAny_bind (wpAny_holding (thn (hs pins s2 σ H2 x y v ov iv u _ I2 r1 r2 r q2) fun _ s3 ⟨H3, I3, q3⟩ => ?_))))
 exact wpAny_release ⟨σ, H3, I3, q3⟩
def zu0 (te : TE) (g : TG) : TS := fun D σ H => te σ H fun x H1 => g x σ H1 D.nx
theorem zt4 {tg e : Expr} {te : TE} {g : TG} (he : PE X e te) (hg : PG X tg g) (hs : swapsWithSole [tg] e pos.line X.env = pure false := by rfl) (hw : swappedStores [tg] e X.env = pure none := by rfl)
  (h1 : (assignEach [tg] X.env).map (·.2) = [assign tg X.env] := by rfl) : PS X (.Assign [tg] e pos) (zu0 te g) := by
 intro pins s σ H D I h
 refine wpAny_Assign_stores (thn (he pins s σ H _ I h) fun v s1 ⟨x, H1, I1, r1, q1⟩ => ?_) hs hw
 rw [h1]
 exact thn (hg pins s1 σ H1 x v _ I1 r1 q1) fun _ s2 q => q
theorem zau {i : Nat} {x : Str} {e : Expr} {te : TE} {pos' : Pos} (hN : X.N.Nodup) (hi : X.N[i]? = some x) (hx : Loc X.env.scope x) (he : PE X e te) (hs : swapsWith e (some (.Name x pos')) pos.line X.env = pure false := by rfl) (hf : X.fn x = true ∨ X.env.scope.names.lookup x = some .local := by first | exact .inl rfl | exact .inr rfl | assumption) :
  PS X (.Assign [.Name x pos'] e pos) (zu0 te (zn2 i)) := by
 intro pins s σ H D I h
 refine wpAny_Assign_Name (thn (he pins s σ H _ I h) fun v s1 ⟨y, H1, I1, r1, q1⟩ => ?_) hs
 exact zl8 I1 hN hi hx r1 (fun s2 I2 => ⟨_, H1, I2, q1⟩) hf
end
section
variable {X : Cx} {pos : Pos}
def zqx (c : TT) (tb : TS) : TS := fun D σ H => ∃ W : Nat → St → Hp → Prop, (∃ m, W m σ H) ∧ ∀ m σ H, W m σ H →
 c σ H fun b H1 => if b = true then ∃ N : St → Hp → Prop, (∀ σ' H', N σ' H' → ∃ m', m' < m ∧ W m' σ' H') ∧ tb { D with nx := N, ct := N, bk := D.nx } σ H1 else D.nx σ H1
theorem zqc {c : Expr} {body : List Stmt} {tc : TT} {tb : TS} (hp : PassesOwn (model X.prog X.w) X.A X.env X.xe) (hc : PT X c tc) (hb : PSs X body tb) : PS X (.While c body [] pos) (zqx tc tb) := by
 intro pins s σ H D I h
 obtain ⟨W, ⟨m0, w0⟩, turn⟩ := h
 refine wpAny_While (codeAny_whileLoop (fun n s' => ∃ σ' H', Inv X pins σ' H' s' ∧ W n σ' H') ?_ m0 ⟨σ, H, I, w0⟩)
 rintro n s1 ⟨σ1, H1, I1, w1⟩
 refine wpAny_passesOwn hp (thn (hc pins s1 σ1 H1 _ I1 (turn n σ1 H1 w1)) fun b s2 ⟨H2, I2, q2⟩ => ?_)
 cases b with
 | true =>
  obtain ⟨N, hN, q2⟩ := q2
  rw [if_pos rfl]
  refine wpAny_passesOwn hp (thn (hb pins s2 σ1 H2 _ I2 q2) fun f s3 q3 => ?_)
  cases f with
  | next =>
   obtain ⟨σ3, H3, I3, n3⟩ := q3
   obtain ⟨m', hm, w3⟩ := hN σ3 H3 n3
   exact ⟨m', hm, σ3, H3, I3, w3⟩
  | cont =>
   obtain ⟨σ3, H3, I3, n3⟩ := q3
   obtain ⟨m', hm, w3⟩ := hN σ3 H3 n3
   exact ⟨m', hm, σ3, H3, I3, w3⟩
  | brk => exact q3
  | ret v => exact q3
 | false =>
  rw [if_neg Bool.false_ne_true]
  exact wpAny_execs_nil ⟨σ1, H2, I2, q2⟩
end
structure It where
 go : Nat → Hp → Prop
 yld : Nat → Hp → V → Hp → Prop
 stop : Nat → Hp → Prop
def zgr (X : Cx) (pins : List (Addr × Obj)) (H : Hp) (b : Addr) : Prop :=
 H b = none ∧ b ≠ X.env.locals ∧ b ∉ X.fs ∧ (b ∈ X.ex ∨ X.s₀.heap.objs.size ≤ b) ∧ (∀ x c, X.env.cells.lookup x = some c → c ≠ b) ∧ ∀ p ∈ X.pn ++ pins, p.1 ≠ b
theorem Inv.fpOk {X : Cx} {pins : List (Addr × Obj)} {σ : St} {H H' : Hp} {s : Shared} {b : Addr} (I : Inv X pins σ H s) (hb : s.heap.objs.size ≤ b) (hn : H' b = none) : zgr X pins H' b := by
 refine ⟨hn, Nat.ne_of_gt (Nat.lt_of_lt_of_le I.lt hb), I.nofs hb, .inr (Nat.le_trans I.sz hb), fun x c e z => ?_, fun p hp z => ?_⟩
 ·obtain ⟨v, q⟩ := I.cell x c e
  exact absurd (Nat.lt_of_lt_of_le q.lt (by rw [z]; exact hb)) (Nat.lt_irrefl _)
 ·exact absurd (Nat.lt_of_lt_of_le (Heap.lt_size (I.pin p hp).1) (by rw [z]; exact hb)) (Nat.lt_irrefl _)
structure zq4 (P : Program) (w : World) (K : PySem.W.Frag) (tg : Expr) (J : It) (fp : List Addr) (it : Addr) (tn : Nat → Heap → Prop) : Prop where
 mem : it ∈ fp
 obj : ∀ i h, tn i h → ∀ b ∈ fp, ∃ o, h.get? b = some o ∧ ∀ v, o.data ≠ .cell v
 keep : ∀ i h h', tn i h → (∀ b ∈ fp, ∀ o, h.get? b = some o → h'.get? b = some o) → tn i h'
 item : ∀ (X : Cx), X.prog = P → X.w = w → X.K = K → X.calm = true → ∀ (i : Nat) (pins : List (Addr × Obj)) (s : Shared) (σ : St) (H : Hp) (E : Value → Shared → Prop), Inv X pins σ H s → (∀ b ∈ fp, zgr X pins H b) → tn i s.heap → J.go i H →
  wpAny (model P w) X.A (pyNext (.ref it)) (fun r s1 => ∃ u, r = some u ∧
   wpAny (model P w) X.A (letOwnedTupleGo tg (.ref it) u) (fun _ s2 => ∃ x H', Inv X pins σ H' s2 ∧ RelV x u ∧ J.yld i H x H' ∧ tn (i + 1) s2.heap ∧ ∀ b ∈ fp, H' b = none) E s1) E s
 done : ∀ (X : Cx), X.prog = P → X.w = w → X.K = K → X.calm = true → ∀ (i : Nat) (pins : List (Addr × Obj)) (s : Shared) (σ : St) (H : Hp) (E : Value → Shared → Prop), Inv X pins σ H s → (∀ b ∈ fp, zgr X pins H b) → tn i s.heap → J.stop i H →
  wpAny (model P w) X.A (pyNext (.ref it)) (fun r s1 => r = none ∧ Inv X pins σ H s1) E s
 self : ∀ (A : Around) (i : Nat) (s : Shared) (Q : Value → Shared → Prop) (E : Value → Shared → Prop), tn i s.heap → Q (.ref it) s → wpAny (model P w) A (pyIter (.ref it)) Q E s
abbrev TI := St → Hp → (It → Hp → Prop) → Prop
def PIE (X : Cx) (pins : List (Addr × Obj)) (σ : St) (tg : Expr) (R : It → Hp → Prop) (itv : Value) (s2 : Shared) : Prop :=
 ∃ (it : Addr) (fp : List Addr) (tn : Nat → Heap → Prop) (J : It) (H' : Hp), itv = .ref it ∧ Inv X pins σ H' s2 ∧ zq4 X.prog X.w X.K tg J fp it tn ∧ tn 0 s2.heap ∧ (∀ b ∈ fp, zgr X pins H' b) ∧ R J H'
def PI (X : Cx) (tg iter : Expr) (wi : TI) : Prop :=
 ∀ (pins : List (Addr × Obj)) (s : Shared) (σ : St) (H : Hp) (R : It → Hp → Prop), Inv X pins σ H s → wi σ H R →
  wpAny (model X.prog X.w) X.A (eval iter X.env) (fun v s1 => wpAny (model X.prog X.w) X.A (pyIter v) (PIE X pins σ tg R) X.xe s1) X.xe s
theorem zn8 {M : Model} {A : Around} {E : Value → Shared → Prop} {s : Shared} {tg : Expr} {it : Addr} {u : Value} {o : Obj} {n : String} {vs : Array Value} {Q : Unit → Shared → Prop} (ho : s.heap.get? it = some o) (hc : o.cls = .type n) (hd : o.data = .fields vs)
    (hn : ["enumerate", "zip", "dict_itemiterator", "dict_reverseitemiterator", "odict_iterator", "itertools.zip_longest", "itertools.pairwise"].contains n = false) (hQ : Q () s) : wpAny M A (letOwnedTupleGo tg (.ref it) u) Q E s := by
  unfold letOwnedTupleGo
  cases tg <;> first
    | exact wpAny_pure hQ
    | (cases u <;> first
        | exact wpAny_pure hQ
        | (refine wpAny_bind (wpAny_load ho ?_)
           rw [hc, hd]
           show wpAny M A (if (["enumerate", "zip", "dict_itemiterator", "dict_reverseitemiterator", "odict_iterator", "itertools.zip_longest", "itertools.pairwise"].contains n && vs[0]? == some (rawInt _)) = true then _ else _) Q E s
           rw [if_neg (by intro h; rw [hn, Bool.false_and] at h; cases h)]
           exact wpAny_pure hQ))
def Itl (K : PySem.W.Frag) (a : Addr) : It :=
 ⟨fun i H => ∃ xs x, SqL K H a xs ∧ xs[i]? = some x, fun i H x H' => H' = H ∧ ∀ xs, SqL K H a xs → xs[i]? = some x, fun i H => ∃ xs, SqL K H a xs ∧ xs.length ≤ i⟩
def Itt (K : PySem.W.Frag) (a : Addr) : It :=
 ⟨fun i H => ∃ xs x, SqT K H a xs ∧ xs[i]? = some x, fun i H x H' => H' = H ∧ ∀ xs, SqT K H a xs → xs[i]? = some x, fun i H => ∃ xs, SqT K H a xs ∧ xs.length ≤ i⟩
def Itr (lo : Int) (n : Nat) : It := ⟨fun i _ => i < n, fun i H x H' => H' = H ∧ x = .int (lo + i), fun i _ => n ≤ i⟩
theorem zpn {P : Program} {w : World} {K : PySem.W.Frag} {tg : Expr} (a it : Addr) : zq4 P w K tg (Itl K a) [it] it (fun i h => h.IsListIter it a i) where
 mem := by simp
 obj := fun i h st b hb => by
  have e : b = it := by simpa using hb
  subst e
  obtain ⟨o, e, c, d⟩ := st
  exact ⟨o, e, fun v z => by rw [d] at z; cases z⟩
 keep := fun i h h' st k => st.at fun o e => k it (by simp) o e
 item := by
  intro X hP hw hK hc i pins s σ H E I hf st hg
  subst hP hw hK
  obtain ⟨xs, x, hq, hx⟩ := hg
  obtain ⟨its, rv, p, hz⟩ := I.list hq
  obtain ⟨u, hu, ru⟩ := rv.get hx
  obtain ⟨f0, f1, f2, f3, f4, f5⟩ := hf it (by simp)
  refine wpAny_pyNext_list_item st p.isList (x := u) (by simpa using hu) fun h' st' sb => ?_
  have I1 : Inv X pins σ H { s with heap := h' } := I.turned (t' := s.toks) (fun b o hb e => (sb.2 b hb).trans e) f0 f1 f3 f4 f5
  obtain ⟨o, e, c, d⟩ := id st'
  exact ⟨u, rfl, zn8 (s := { s with heap := h' }) e c d (by decide) ⟨x, H, I1, ru, ⟨rfl, fun ys hy => by rw [I.list_inj hy hq]; exact hx⟩, st', fun b hb => (hf b hb).1⟩⟩
 done := by
  intro X hP hw hK hc i pins s σ H E I hf st hg
  subst hP hw hK
  obtain ⟨xs, hq, hx⟩ := hg
  obtain ⟨its, rv, p, hz⟩ := I.list hq
  obtain ⟨f0, f1, f2, f3, f4, f5⟩ := hf it (by simp)
  have hl := rv.length
  exact wpAny_pyNext_list_end (I.ok.hd hc) st p.isList (by simp; omega) fun h' eb => ⟨rfl, I.turned (t' := s.toks) (fun b o hb e => eb b o hb e) f0 f1 f3 f4 f5⟩
 self := fun _ _ _ _ _ st h => wpAny_pyIter_listiter st h
theorem znv {P : Program} {w : World} {K : PySem.W.Frag} {tg : Expr} (a it : Addr) : zq4 P w K tg (Itt K a) [it] it (fun i h => h.IsTupleIter it a i) where
 mem := by simp
 obj := fun i h st b hb => by
  have e : b = it := by simpa using hb
  subst e
  obtain ⟨o, e, c, d⟩ := st
  exact ⟨o, e, fun v z => by rw [d] at z; cases z⟩
 keep := fun i h h' st k => st.at fun o e => k it (by simp) o e
 item := by
  intro X hP hw hK hc i pins s σ H E I hf st hg
  subst hP hw hK
  obtain ⟨xs, x, hq, hx⟩ := hg
  obtain ⟨its, rv, p, hz⟩ := I.tuple hq
  obtain ⟨u, hu, ru⟩ := rv.get hx
  obtain ⟨f0, f1, f2, f3, f4, f5⟩ := hf it (by simp)
  refine wpAny_pyNext_tuple_item st (show s.heap.IsTuple a its.toArray from p) (x := u) (by simpa using hu) fun h' st' sb => ?_
  have I1 : Inv X pins σ H { s with heap := h' } := I.turned (t' := s.toks) (fun b o hb e => (sb.2 b hb).trans e) f0 f1 f3 f4 f5
  obtain ⟨o, e, c, d⟩ := id st'
  exact ⟨u, rfl, zn8 (s := { s with heap := h' }) e c d (by decide) ⟨x, H, I1, ru, ⟨rfl, fun ys hy => by rw [I.tuple_inj hy hq]; exact hx⟩, st', fun b hb => (hf b hb).1⟩⟩
 done := by
  intro X hP hw hK hc i pins s σ H E I hf st hg
  subst hP hw hK
  obtain ⟨xs, hq, hx⟩ := hg
  obtain ⟨its, rv, p, hz⟩ := I.tuple hq
  obtain ⟨f0, f1, f2, f3, f4, f5⟩ := hf it (by simp)
  have hl := rv.length
  exact wpAny_pyNext_tuple_end (I.ok.hd hc) st (show s.heap.IsTuple a its.toArray from p) (by simp; omega) fun h' eb => ⟨rfl, I.turned (t' := s.toks) (fun b o hb e => eb b o hb e) f0 f1 f3 f4 f5⟩
 self := fun _ _ _ _ _ st h => wpAny_pyIter_tupleiter st h
theorem znf {P : Program} {w : World} {K : PySem.W.Frag} {tg : Expr} (it : Addr) (lo : Int) (n : Nat) : zq4 P w K tg (Itr lo n) [it] it (fun i h => IsRangeIter h it (lo + (i : Nat) * 1) ((n : Int) - (i : Nat)) 1) where
 mem := by simp
 obj := fun i h st b hb => by
  have e : b = it := by simpa using hb
  subst e
  exact ⟨_, st, fun v z => by
   have z' : Data.fields _ = Data.cell v := z
   cases z'⟩
 keep := fun i h h' st k => k it (by simp) _ st
 item := by
  intro X hP hw hK hc i pins s σ H E I hf st hg
  subst hP hw hK
  obtain ⟨f0, f1, f2, f3, f4, f5⟩ := hf it (by simp)
  have W := Walks.range (prog := X.prog) (w := X.w) (I.ok.hd hc) it lo 1 n
  refine W.item i s _ _ hg st fun v h' tk hv st' kk => ?_
  obtain ⟨t, rfl⟩ := hv
  have I1 : Inv X pins σ H { s with heap := h', toks := tk } := I.turned (fun b o hb e => kk b o (by simpa using hb) e) f0 f1 f3 f4 f5
  refine ⟨_, rfl, zn8 (s := { s with heap := h', toks := tk }) (n := "range_iterator") st' rfl rfl (by decide) ⟨.int (lo + i), H, I1, ⟨t, ?_⟩, ⟨rfl, rfl⟩, st', fun b hb => (hf b hb).1⟩⟩
  rw [Int.mul_one]
 done := by
  intro X hP hw hK hc i pins s σ H E I hf st hg
  subst hP hw hK
  obtain ⟨f0, f1, f2, f3, f4, f5⟩ := hf it (by simp)
  exact wpAny_pyNext_range_end (I.ok.hd hc) st (by have : n ≤ i := hg; omega) fun h' eb => ⟨rfl, I.turned (t' := s.toks) (fun b o hb e => eb b o hb e) f0 f1 f3 f4 f5⟩
 self := fun _ _ _ _ _ st h => wpAny_pyIter_rangeiter st h
end L2
namespace L2
open PySem PySem.Spec PyProof.Rows
section
variable {X : Cx} {tg : Expr}
def ztk (K : PySem.W.Frag) (tl : TE) : TI := fun σ H R => tl σ H fun x H1 => ∃ a, x = .ref a ∧ (∃ xs, SqL K H1 a xs) ∧ R (Itl K a) H1
def zvc (K : PySem.W.Frag) (tl : TE) : TI := fun σ H R => tl σ H fun x H1 => ∃ a, x = .ref a ∧ (∃ xs, SqT K H1 a xs) ∧ R (Itt K a) H1
theorem zsk {l : Expr} {tl : TE} (hl : PE X l tl) : PI X tg l (ztk X.K tl) := by
 intro pins s σ H R I h
 refine thn (hl pins s σ H _ I h) fun v s1 ⟨x, H1, I1, r1, q1⟩ => ?_
 obtain ⟨a, e, ⟨xs, hq⟩, q⟩ := q1
 subst e
 cases r1
 obtain ⟨its, rv, p, hz⟩ := I1.list hq
 refine wpAny_pyIter_list p.isList ?_
 refine ⟨s1.heap.objs.size, [s1.heap.objs.size], _, _, H1, rfl, I1.kept (t' := s1.toks) fun b o e => Heap.get?_push_of_some _ e, zpn a _, ⟨_, Heap.get?_push_size _ rfl, rfl, rfl⟩, fun b hb => ?_, q⟩
 have e : b = s1.heap.objs.size := by simpa using hb
 subst e
 exact I1.fpOk (Nat.le_refl _) (I1.hok.fresh (Nat.le_refl _))
theorem zun {l : Expr} {tl : TE} (hl : PE X l tl) : PI X tg l (zvc X.K tl) := by
 intro pins s σ H R I h
 refine thn (hl pins s σ H _ I h) fun v s1 ⟨x, H1, I1, r1, q1⟩ => ?_
 obtain ⟨a, e, ⟨xs, hq⟩, q⟩ := q1
 subst e
 cases r1
 obtain ⟨its, rv, p, hz⟩ := I1.tuple hq
 refine wpAny_pyIter_tuple (show s1.heap.IsTuple a its.toArray from p) ?_
 refine ⟨s1.heap.objs.size, [s1.heap.objs.size], _, _, H1, rfl, I1.kept (t' := s1.toks) fun b o e => Heap.get?_push_of_some _ e, znv a _, ⟨_, Heap.get?_push_size _ rfl, rfl, rfl⟩, fun b hb => ?_, q⟩
 have e : b = s1.heap.objs.size := by simpa using hb
 subst e
 exact I1.fpOk (Nat.le_refl _) (I1.hok.fresh (Nat.le_refl _))
theorem zmz {pins : List (Addr × Obj)} {σ : St} {H : Hp} {s : Shared} {R : It → Hp → Prop} {E : Value → Shared → Prop} {lo hi : Int} {t u v : Tok} {tk : Nat} (I : Inv X pins σ H s) (h1 : -(2 ^ 62) ≤ lo) (h2 : lo < 2 ^ 62) (h3 : -(2 ^ 62) ≤ hi) (h4 : hi < 2 ^ 62)
  (q : R (Itr lo (hi - lo).toNat) H) : wpAny (model X.prog X.w) X.A (pyIter (.ref s.heap.objs.size)) (PIE X pins σ tg R) E { s with heap := s.heap.push { cls := .type "range", data := .fields #[.int lo t, .int hi u, .int 1 v] }, toks := tk } := by
 refine wpAny_pyIter_range (IsRange.new ..) (small_one h1 h2 h3 h4) ?_
 have I1 : Inv X pins σ H { s with heap := s.heap.push { cls := .type "range", data := .fields #[.int lo t, .int hi u, .int 1 v] }, toks := tk } := I.kept fun b o e => Heap.get?_push_of_some _ e
 refine ⟨(s.heap.push { cls := .type "range", data := .fields #[.int lo t, .int hi u, .int 1 v] }).objs.size, [(s.heap.push { cls := .type "range", data := .fields #[.int lo t, .int hi u, .int 1 v] }).objs.size], _, _, H, rfl,
  I1.kept (t' := tk) fun b o e => Heap.get?_push_of_some _ e, znf _ lo (hi - lo).toNat, ?_, fun b hb => ?_, q⟩
 ·have e1 : lo + ((0 : Nat) : Int) * 1 = lo := by simp
  have e2 : (((hi - lo).toNat : Nat) : Int) - ((0 : Nat) : Int) = Builtin.Range.rangeSize lo hi 1 := by rw [rangeSize_one]; split <;> omega
  show IsRangeIter _ _ (lo + ((0 : Nat) : Int) * 1) ((((hi - lo).toNat : Nat) : Int) - ((0 : Nat) : Int)) 1
  rw [e1, e2]
  exact Heap.get?_push_size _ rfl
 ·have e : b = (s.heap.push { cls := .type "range", data := .fields #[.int lo t, .int hi u, .int 1 v] }).objs.size := by simpa using hb
  subst e
  exact I1.fpOk (Nat.le_refl _) (I1.hok.fresh (Nat.le_refl _))
def zvo (ta : TA) : TI := fun σ H R => ta σ H fun vs H1 => ∃ j : Int, vs = [.int j] ∧ -(2 ^ 62) ≤ j ∧ j < 2 ^ 62 ∧ R (Itr 0 j.toNat) H1
def zvr (ta : TA) : TI := fun σ H R => ta σ H fun vs H1 => ∃ i j : Int, vs = [.int i, .int j] ∧ (-(2 ^ 62) ≤ i ∧ i < 2 ^ 62 ∧ -(2 ^ 62) ≤ j ∧ j < 2 ^ 62) ∧ R (Itr i (j - i).toNat) H1
theorem zdq {a : Expr} {ta : TA} {p pos : Pos} (hg : Gl X "range") (hm : X.mg "range" = none) (ha : PA X [a] ta) (hs : starEach [a] X.env = [(false, eval a X.env)] := by rfl) : PI X tg (.Call (.Name "range" p) [a] [] pos) (zvo ta) := by
 intro pins s σ H R I h
 refine Call_ (zhb I hg hm boot_range (PyProof.Rows.callWith_type1 (thn (ha pos pins s σ H _ I h) fun us s1 ⟨vs, H1, I1, r1, q1⟩ => ?_) hs rfl))
 obtain ⟨j, e, q1, q2, q⟩ := q1
 subst e
 cases r1 with
 | cons r rr =>
  cases rr
  obtain ⟨t, rfl⟩ := r
  exact call_range_1 (zmz I1 (by omega) (by omega) q1 q2 (by simpa using q))
theorem zo8 {a b : Expr} {ta : TA} {p pos : Pos} (hg : Gl X "range") (hm : X.mg "range" = none) (ha : PA X [a, b] ta) (hs : starEach [a, b] X.env = [(false, eval a X.env), (false, eval b X.env)] := by rfl) (hs2 : starEach [b] X.env = [(false, eval b X.env)] := by rfl) :
  PI X tg (.Call (.Name "range" p) [a, b] [] pos) (zvr ta) := by
 intro pins s σ H R I h
 refine Call_ (zhb I hg hm boot_range (PyProof.Rows.callWith_type1 (thn (ha pos pins s σ H _ I h) fun us s1 ⟨vs, H1, I1, r1, q1⟩ => ?_) (by rw [hs, hs2]) (by rw [hs2]; rfl)))
 obtain ⟨i, j, e, ⟨q1, q2, q3, q4⟩, q⟩ := q1
 subst e
 cases r1 with
 | cons r rr =>
  cases rr with
  | cons r' rr =>
   cases rr
   obtain ⟨t, rfl⟩ := r
   obtain ⟨t', rfl⟩ := r'
   exact call_range_2 (zmz I1 q1 q2 q3 q4 q)
def zwg (wi : TI) (g : TG) (tb : TS) : TS := fun D σ H => wi σ H fun J H1 => ∃ W : Nat → Nat → St → Hp → Prop, (∃ m, W 0 m σ H1) ∧ ∀ i m σ H, W i m σ H →
 (J.stop i H ∧ D.nx σ H) ∨ (J.go i H ∧ ∃ N : St → Hp → Prop, (∀ σ' H', N σ' H' → ∃ m', m' < m ∧ W (i + 1) m' σ' H') ∧ ∀ x H', J.yld i H x H' → g x σ H' fun σ2 H2 => tb { D with nx := N, ct := N, bk := D.nx } σ2 H2)
def zfr (fp : List Addr) (h : Heap) : List (Addr × Obj) := fp.filterMap fun b => (h.get? b).map fun o => (b, o)
theorem zdn {fp : List Addr} {h : Heap} {b : Addr} {o : Obj} (hb : b ∈ fp) (e : h.get? b = some o) : (b, o) ∈ zfr fp h := List.mem_filterMap.mpr ⟨b, hb, by rw [e]; rfl⟩
theorem zos {fp : List Addr} {h : Heap} {p : Addr × Obj} (hp : p ∈ zfr fp h) : p.1 ∈ fp ∧ h.get? p.1 = some p.2 := by
 obtain ⟨b, hb, e⟩ := List.mem_filterMap.mp hp
 cases q : h.get? b with
 | none => rw [q] at e; cases e
 | some o =>
  rw [q] at e
  have e' : (b, o) = p := Option.some.inj e
  subst e'
  exact ⟨hb, q⟩
theorem Inv.pinned {pins : List (Addr × Obj)} {σ : St} {H : Hp} {s : Shared} {fp : List Addr} (I : Inv X pins σ H s) (hf : ∀ b ∈ fp, zgr X pins H b) (ho : ∀ b ∈ fp, ∃ o, s.heap.get? b = some o ∧ ∀ v, o.data ≠ .cell v) : Inv X (pins ++ zfr fp s.heap) σ H s :=
 I.pins_of fun p hp => (List.mem_append.mp hp).elim (fun z => I.pin p (List.mem_append_right _ z)) fun z => by
  obtain ⟨hb, e⟩ := zos z
  obtain ⟨f0, f1, f2, _⟩ := hf p.1 hb
  obtain ⟨o, e', d⟩ := ho p.1 hb
  rw [e] at e'; cases e'
  exact ⟨e, f0, f1, f2, d⟩
theorem Inv.unpinned {pins pl : List (Addr × Obj)} {σ : St} {H : Hp} {s : Shared} (I : Inv X (pins ++ pl) σ H s) : Inv X pins σ H s := I.pins_of fun p hp => I.pin p (List.mem_append_right _ (List.mem_append_left _ hp))
theorem ze4 {iter : Expr} {body : List Stmt} {wi : TI} {g : TG} {tb : TS} {pos : Pos} (hp : PassesOwn (model X.prog X.w) X.A X.env X.xe) (hc : X.calm = true) (hi : PI X tg iter wi) (hg : PG X tg g) (hb : PSs X body tb)
  (hs : ∀ x, foldedSetIterable iter X.env x = pure x := by intro _; rfl) : PS X (.For tg iter body [] pos) (zwg wi g tb) := by
 intro pins s σ H D I h
 refine wpAny_For (thn (hi pins s σ H _ I h) fun v s1 h1 => thn h1 fun itv s2 h2 => ?_) hs
 obtain ⟨it, fp, tn, J, H2, e, I2, T, st2, f2, W, ⟨m0, w0⟩, turn⟩ := h2
 subst e
 have stat : ∀ {H' : Hp}, (∀ b ∈ fp, H' b = none) → ∀ b ∈ fp, zgr X pins H' b := fun hn b hb => ⟨hn b hb, (f2 b hb).2⟩
 refine codeAny_forLoop_any (fun n s' => ∃ i σ' H', Inv X pins σ' H' s' ∧ tn i s'.heap ∧ (∀ b ∈ fp, H' b = none) ∧ W i n σ' H') ?_ m0 ⟨0, σ, H2, I2, st2, fun b hb => (f2 b hb).1, w0⟩
 rintro n s3 ⟨i, σ3, H3, I3, st3, fr3, w3⟩
 rcases turn i n σ3 H3 w3 with ⟨stop, qn⟩ | ⟨go, N, hN, step⟩
 ·refine wpAny_passesOwn hp (thn (T.done X rfl rfl rfl hc i pins s3 σ3 H3 X.xe I3 (stat fr3) st3 stop) fun r s4 ⟨hr, I4⟩ => ?_)
  subst hr
  exact wpAny_execs_nil ⟨σ3, H3, I4, qn⟩
 ·refine wpAny_passesOwn hp (thn (T.item X rfl rfl rfl hc i pins s3 σ3 H3 X.xe I3 (stat fr3) st3 go) fun r s4 ⟨u, hr, h4⟩ => ?_)
  subst hr
  refine wpAny_passesOwn hp (thn h4 fun _ s5 ⟨x, H5, I5, r5, y5, st5, fr5⟩ => ?_)
  have I5' := I5.pinned (stat fr5) (T.obj _ _ st5)
  refine wpAny_passesOwn hp (thn (hg _ s5 σ3 H5 x u _ I5' r5 (step x H5 y5)) fun _ s6 ⟨σ6, H6, I6, q6⟩ => ?_)
  refine wpAny_passesOwn hp (thn (hb _ s6 σ6 H6 _ I6 q6) fun f s7 q7 => ?_)
  have again : ∀ {σ7 : St} {H7 : Hp}, Inv X (pins ++ zfr fp s5.heap) σ7 H7 s7 → N σ7 H7 → ∃ m, m < n ∧ ∃ i σ' H', Inv X pins σ' H' s7 ∧ tn i s7.heap ∧ (∀ b ∈ fp, H' b = none) ∧ W i m σ' H' := fun {σ7 H7} I7 n7 => by
   obtain ⟨m', hm, w7⟩ := hN σ7 H7 n7
   refine ⟨m', hm, i + 1, σ7, H7, I7.unpinned, T.keep _ _ _ st5 fun b hb o e => (I7.pin (b, o) (List.mem_append_right _ (List.mem_append_right _ (zdn hb e)))).1, fun b hb => ?_, w7⟩
   obtain ⟨o, e, d⟩ := T.obj _ _ st5 b hb
   exact (I7.pin (b, o) (List.mem_append_right _ (List.mem_append_right _ (zdn hb e)))).2.1
  cases f with
  | next => obtain ⟨σ7, H7, I7, n7⟩ := q7; exact again I7 n7
  | cont => obtain ⟨σ7, H7, I7, n7⟩ := q7; exact again I7 n7
  | brk => obtain ⟨σ7, H7, I7, q7⟩ := q7; exact ⟨σ7, H7, I7.unpinned, q7⟩
  | ret v => obtain ⟨x7, σ7, H7, I7, r7, q7⟩ := q7; exact ⟨x7, σ7, H7, I7.unpinned, r7, q7⟩
end
theorem zi3 {K : PySem.W.Frag} {a : Addr} {xs : List V} {g : TG} {tb : TS} {D : zis} {σ : St} {H : Hp} (Pv : Nat → St → Hp → Prop) (h0 : Pv 0 σ H) (hl : ∀ i σ H, i ≤ xs.length → Pv i σ H → SqL K H a xs)
  (hs : ∀ i x σ H, xs[i]? = some x → Pv i σ H → g x σ H fun σ2 H2 => tb { D with nx := Pv (i + 1), ct := Pv (i + 1), bk := D.nx } σ2 H2) (hd : ∀ σ H, Pv xs.length σ H → D.nx σ H) :
  ∃ W : Nat → Nat → St → Hp → Prop, (∃ m, W 0 m σ H) ∧ ∀ i m σ H, W i m σ H →
   ((Itl K a).stop i H ∧ D.nx σ H) ∨ ((Itl K a).go i H ∧ ∃ N : St → Hp → Prop, (∀ σ' H', N σ' H' → ∃ m', m' < m ∧ W (i + 1) m' σ' H') ∧ ∀ x H', (Itl K a).yld i H x H' → g x σ H' fun σ2 H2 => tb { D with nx := N, ct := N, bk := D.nx } σ2 H2) := by
 refine ⟨fun i m σ H => m = xs.length - i ∧ i ≤ xs.length ∧ Pv i σ H, ⟨xs.length, by simp, Nat.zero_le _, h0⟩, ?_⟩
 rintro i m σ H ⟨rfl, hi, p⟩
 have q := hl i σ H hi p
 by_cases hlt : i < xs.length
 ·refine .inr ⟨⟨xs, xs[i], q, by simp [hlt]⟩, Pv (i + 1), fun σ' H' p' => ⟨xs.length - (i + 1), by omega, rfl, hlt, p'⟩, fun x H' y => ?_⟩
  obtain ⟨e, y⟩ := y
  subst e
  exact hs i x σ _ (y xs q) p
 ·have e : i = xs.length := by omega
  subst e
  exact .inl ⟨⟨xs, q, Nat.le_refl _⟩, hd σ H p⟩
theorem zks {K : PySem.W.Frag} {a : Addr} {xs : List V} {g : TG} {tb : TS} {D : zis} {σ : St} {H : Hp} (Pv : Nat → St → Hp → Prop) (h0 : Pv 0 σ H) (hl : ∀ i σ H, i ≤ xs.length → Pv i σ H → SqT K H a xs)
  (hs : ∀ i x σ H, xs[i]? = some x → Pv i σ H → g x σ H fun σ2 H2 => tb { D with nx := Pv (i + 1), ct := Pv (i + 1), bk := D.nx } σ2 H2) (hd : ∀ σ H, Pv xs.length σ H → D.nx σ H) :
  ∃ W : Nat → Nat → St → Hp → Prop, (∃ m, W 0 m σ H) ∧ ∀ i m σ H, W i m σ H →
   ((Itt K a).stop i H ∧ D.nx σ H) ∨ ((Itt K a).go i H ∧ ∃ N : St → Hp → Prop, (∀ σ' H', N σ' H' → ∃ m', m' < m ∧ W (i + 1) m' σ' H') ∧ ∀ x H', (Itt K a).yld i H x H' → g x σ H' fun σ2 H2 => tb { D with nx := N, ct := N, bk := D.nx } σ2 H2) := by
 refine ⟨fun i m σ H => m = xs.length - i ∧ i ≤ xs.length ∧ Pv i σ H, ⟨xs.length, by simp, Nat.zero_le _, h0⟩, ?_⟩
 rintro i m σ H ⟨rfl, hi, p⟩
 have q := hl i σ H hi p
 by_cases hlt : i < xs.length
 ·refine .inr ⟨⟨xs, xs[i], q, by simp [hlt]⟩, Pv (i + 1), fun σ' H' p' => ⟨xs.length - (i + 1), by omega, rfl, hlt, p'⟩, fun x H' y => ?_⟩
  obtain ⟨e, y⟩ := y
  subst e
  exact hs i x σ _ (y xs q) p
 ·have e : i = xs.length := by omega
  subst e
  exact .inl ⟨⟨xs, q, Nat.le_refl _⟩, hd σ H p⟩
theorem zj6 {lo : Int} {n : Nat} {g : TG} {tb : TS} {D : zis} {σ : St} {H : Hp} (Pv : Nat → St → Hp → Prop) (h0 : Pv 0 σ H)
  (hs : ∀ i σ H, i < n → Pv i σ H → g (.int (lo + i)) σ H fun σ2 H2 => tb { D with nx := Pv (i + 1), ct := Pv (i + 1), bk := D.nx } σ2 H2) (hd : ∀ σ H, Pv n σ H → D.nx σ H) :
  ∃ W : Nat → Nat → St → Hp → Prop, (∃ m, W 0 m σ H) ∧ ∀ i m σ H, W i m σ H →
   ((Itr lo n).stop i H ∧ D.nx σ H) ∨ ((Itr lo n).go i H ∧ ∃ N : St → Hp → Prop, (∀ σ' H', N σ' H' → ∃ m', m' < m ∧ W (i + 1) m' σ' H') ∧ ∀ x H', (Itr lo n).yld i H x H' → g x σ H' fun σ2 H2 => tb { D with nx := N, ct := N, bk := D.nx } σ2 H2) := by
 refine ⟨fun i m σ H => m = n - i ∧ i ≤ n ∧ Pv i σ H, ⟨n, by simp, Nat.zero_le _, h0⟩, ?_⟩
 rintro i m σ H ⟨rfl, hi, p⟩
 by_cases hlt : i < n
 ·refine .inr ⟨hlt, Pv (i + 1), fun σ' H' p' => ⟨n - (i + 1), by omega, rfl, hlt, p'⟩, fun x H' y => ?_⟩
  obtain ⟨e, y⟩ := y
  subst e y
  exact hs i σ _ hlt p
 ·have e : i = n := by omega
  subst e
  exact .inl ⟨Nat.le_refl _, hd σ H p⟩
theorem zq7 {c : TT} {tb : TS} {D : zis} {σ : St} {H : Hp} (Pv : St → Hp → Prop) (μ : St → Hp → Nat) (h0 : Pv σ H)
  (hs : ∀ σ H, Pv σ H → c σ H fun b H1 => if b = true then tb { D with nx := fun σ' H' => Pv σ' H' ∧ μ σ' H' < μ σ H, ct := fun σ' H' => Pv σ' H' ∧ μ σ' H' < μ σ H, bk := D.nx } σ H1 else D.nx σ H1)
  (mono : ∀ σ H Q Q', (∀ b H1, Q b H1 → Q' b H1) → c σ H Q → c σ H Q') : zqx c tb D σ H := by
 refine ⟨fun m σ H => m = μ σ H ∧ Pv σ H, ⟨_, rfl, h0⟩, ?_⟩
 rintro m σ H ⟨rfl, p⟩
 refine mono σ H _ _ (fun b H1 q => ?_) (hs σ H p)
 cases b with
 | true => exact ⟨_, fun σ' H' ⟨p', l⟩ => ⟨_, l, rfl, p'⟩, q⟩
 | false => exact q
end L2
namespace L2
open PySem PySem.Spec PyProof.Rows
abbrev R2 := V → V → Hp → VK → Prop
def OpR (X : Cx) (f : Value → Value → Sem Value) (r : R2) : Prop :=
 ∀ (pins : List (Addr × Obj)) (s : Shared) (σ : St) (H : Hp) (x y : V) (v u : Value) (Q : VK), Inv X pins σ H s → RelV x v → RelV y u → r x y H Q →
  wpAny (model X.prog X.w) X.A (f v u) (EP X pins σ Q) X.xe s
def zdh (X : Cx) (f : Value) (r : List V → Hp → VK → Prop) : Prop :=
 ∀ (pins : List (Addr × Obj)) (s : Shared) (σ : St) (H : Hp) (xs : List V) (us : List Value) (Q : VK), Inv X pins σ H s → Vals xs us → r xs H Q →
  wpAny (model X.prog X.w) X.A (call f us) (EP X pins σ Q) X.xe s
def tOp (r : R2) (ta tb : TE) : TE := fun σ H Q => ta σ H fun x H1 => tb σ H1 fun y H2 => r x y H2 Q
def rI (C : Int → Int → Prop) (g : Int → Int → V) : R2 := fun x y H Q => ∃ i j, x = .int i ∧ y = .int j ∧ C i j ∧ Q (g i j) H
def rI0 (g : Int → Int → V) : R2 := fun x y H Q => ∃ i j, x = .int i ∧ y = .int j ∧ Q (g i j) H
section
variable {X : Cx} {a b c : Expr} {ta tb tc : TE} {pos : Pos}
theorem zt8 (ha : PE X a ta) (hb : PE X b tb) {pins : List (Addr × Obj)} {s : Shared} {σ : St} {H : Hp} {R : V → V → Hp → Prop} (I : Inv X pins σ H s)
  (h : ta σ H fun x H1 => tb σ H1 fun y H2 => R x y H2) {Q : Value → Shared → Prop} {f : Value → Value → Sem Value}
  (hf : ∀ v u s2 x y H2, Inv X pins σ H2 s2 → RelV x v → RelV y u → R x y H2 → wpAny (model X.prog X.w) X.A (f v u) Q X.xe s2) :
  wpAny (model X.prog X.w) X.A (eval a X.env) (fun v s₁ => wpAny (model X.prog X.w) X.A (eval b X.env) (fun u s₂ => wpAny (model X.prog X.w) X.A (f v u) Q X.xe s₂) X.xe s₁) X.xe s := by
 refine thn (ha pins s σ H _ I h) fun v s1 ⟨x, H1, I1, r1, q1⟩ => ?_
 refine thn (hb pins s1 σ H1 _ I1 q1) fun u s2 ⟨y, H2, I2, r2, q2⟩ => ?_
 exact hf v u s2 x y H2 I2 r1 r2 q2
theorem za7 {op : Operator} {r : R2} (ho : OpR X (binaryOp op) r) (ha : PE X a ta) (hb : PE X b tb) : PE X (.BinOp a op b pos) (tOp r ta tb) := by
 intro pins s σ H Q I h
 exact wpAny_BinOp (zt8 ha hb I h fun v u s2 x y H2 I2 rx ry q => ho pins s2 σ H2 x y v u Q I2 rx ry q)
theorem opI {f : Value → Value → Sem Value} {C : Int → Int → Prop} {g : Int → Int → Int}
  (rule : ∀ (i j : Int) (t u : Tok) (s : Shared) (Q : Value → Shared → Prop) (E : Value → Shared → Prop), C i j → Q (.int (g i j) s.toks) { s with toks := s.toks + 1 } → wpAny (model X.prog X.w) X.A (f (.int i t) (.int j u)) Q E s) :
  OpR X f (rI C fun i j => .int (g i j)) := by
 intro pins s σ H x y v u Q I rx ry h
 obtain ⟨i, j, rfl, rfl, hc, q⟩ := h
 obtain ⟨t, rfl⟩ := rx
 obtain ⟨t', rfl⟩ := ry
 exact rule i j t t' s _ _ hc ⟨.int (g i j), H, I.tok _, ⟨_, rfl⟩, q⟩
theorem zsc {f : Value → Value → Sem Value} {g : Int → Int → Int}
  (rule : ∀ (i j : Int) (t u : Tok) (s : Shared) (Q : Value → Shared → Prop) (E : Value → Shared → Prop), Q (.int (g i j) s.toks) { s with toks := s.toks + 1 } → wpAny (model X.prog X.w) X.A (f (.int i t) (.int j u)) Q E s) :
  OpR X f (rI0 fun i j => .int (g i j)) := by
 intro pins s σ H x y v u Q I rx ry h
 obtain ⟨i, j, rfl, rfl, q⟩ := h
 obtain ⟨t, rfl⟩ := rx
 obtain ⟨t', rfl⟩ := ry
 exact rule i j t t' s _ _ ⟨.int (g i j), H, I.tok _, ⟨_, rfl⟩, q⟩
theorem zs8 {f : Value → Value → Sem Value} {g : Int → Int → Bool}
  (rule : ∀ (i j : Int) (t u : Tok) (s : Shared) (Q : Value → Shared → Prop) (E : Value → Shared → Prop), Q (.bool (g i j)) s → wpAny (model X.prog X.w) X.A (f (.int i t) (.int j u)) Q E s) :
  OpR X f (rI0 fun i j => .bl (g i j)) := by
 intro pins s σ H x y v u Q I rx ry h
 obtain ⟨i, j, rfl, rfl, q⟩ := h
 obtain ⟨t, rfl⟩ := rx
 obtain ⟨t', rfl⟩ := ry
 exact rule i j t t' s _ _ ⟨.bl (g i j), H, I, rfl, q⟩
def zuj (i j : Int) : Prop := 0 < j ∧ j < 1073741824
def zvx (i j : Int) : Prop := 0 ≤ j ∧ j ≤ 1000000 ∧ i.natAbs < 2 ^ 64
def CMul (i j : Int) : Prop := (-(2 ^ 64) < i ∧ i < 2 ^ 64) ∨ (-(2 ^ 64) < j ∧ j < 2 ^ 64)
theorem CMul.ok {i j : Int} (h : CMul i j) : IntMulOk i j := by
 rcases h with ⟨h1, h2⟩ | ⟨h1, h2⟩
 ·exact .of_left (intBits_le_64 h1 h2)
 ·exact .of_right (intBits_le_64 h1 h2)
theorem two_pow_nn (k : Nat) : (0 : Int) ≤ 2 ^ k := by
 rw [two_pow_cast]
 exact Int.natCast_nonneg _
theorem zc9 : OpR X (binaryOp .Add) (rI0 fun i j => .int (i + j)) := zsc fun _ _ _ _ _ _ _ q => add_int q
theorem zhg : OpR X (binaryOp .Sub) (rI0 fun i j => .int (i - j)) := zsc fun _ _ _ _ _ _ _ q => sub_int q
theorem zfn : OpR X (binaryOp .Mult) (rI CMul fun i j => .int (i * j)) := opI fun _ _ _ _ _ _ _ hc q => mul_int q hc.ok
theorem zsz : OpR X (binaryOp .FloorDiv) (rI zuj fun i j => .int (i / j)) := opI fun i j _ _ _ _ _ hc q => by
 have h1 : (0 : Int) < j := hc.1
 have h2 : j < 1073741824 := hc.2
 exact floordiv_int (by omega) (by rw [Int.fdiv_eq_ediv_of_nonneg i (by omega)]; exact q) (.inl (PyProof.noPylong_small (by omega)))
theorem zgn : OpR X (binaryOp .Mod) (rI (fun _ j => 0 < j) fun i j => .int (i % j)) := opI fun i j _ _ _ _ _ hc q => by
 have h1 : (0 : Int) < j := hc
 exact mod_int' (by omega) (by rw [Int.fmod_eq_emod_of_nonneg i (by omega)]; exact q)
theorem zto : OpR X (binaryOp .Pow) (rI zvx fun i j => .int (i ^ j.toNat)) := opI fun _ _ _ _ _ _ _ hc q => pow_int_small hc.1 hc.2.1 hc.2.2 q
theorem znu : OpR X (binaryOp .LShift) (rI zvx fun i j => .int (i * 2 ^ j.toNat)) := opI fun _ _ _ _ _ _ _ hc q => lshift_int_small hc.1 hc.2.1 hc.2.2 q
theorem zuf : OpR X (binaryOp .RShift) (rI (fun _ j => 0 ≤ j) fun i j => .int (i / 2 ^ j.toNat)) := opI fun i j _ _ _ _ _ hc q =>
 rshift_int hc (by rw [Int.fdiv_eq_ediv_of_nonneg i (two_pow_nn _)]; exact q)
theorem zul : OpR X (binaryOp .BitAnd) (rI0 fun i j => .int (Builtin.bitAnd i j)) := zsc fun _ _ _ _ _ _ _ q => and_int q
theorem zth : OpR X (binaryOp .BitOr) (rI0 fun i j => .int (Builtin.bitOr i j)) := zsc fun _ _ _ _ _ _ _ q => or_int q
end
def zvw : V → V → Bool
 | .non, .non => true | .non, .int _ => true | .int _, .non => true | .non, .bl _ => true | .bl _, .non => true | .non, .str _ => true | .str _, .non => true
 | .int _, .int _ => true | .bl _, .bl _ => true | .str _, .str _ => true | .byt _, .byt _ => true
 | .int _, .str _ => true | .str _, .int _ => true | .bl _, .str _ => true | .str _, .bl _ => true
 | _, _ => false
def rEq : R2 := fun x y H Q => zvw x y = true ∧ Q (.bl (decide (x = y))) H
def rNe : R2 := fun x y H Q => zvw x y = true ∧ Q (.bl (!decide (x = y))) H
theorem zgv {i j : Int} : decide (V.int i = V.int j) = (i == j) := by
 rw [Bool.eq_iff_iff]
 simp
theorem zqw {i j : Bool} : decide (V.bl i = V.bl j) = (i == j) := by
 rw [Bool.eq_iff_iff]
 simp
theorem zol {i j : Str} : decide (V.str i = V.str j) = (i == j) := by
 rw [Bool.eq_iff_iff]
 simp
theorem zoj {i j : Array UInt8} : decide (V.byt i = V.byt j) = (i.toList == j.toList) := by
 rw [Bool.eq_iff_iff]
 cases i
 cases j
 simp
section
variable {X : Cx} {a b c : Expr} {ta tb tc : TE} {pos : Pos}
theorem zbf {pins : List (Addr × Obj)} {σ : St} {H : Hp} {s : Shared} {Q : VK} {k k' : Bool} (I : Inv X pins σ H s) (q : Q (.bl k) H) (e : k = k') : EP X pins σ Q (.bool k') s := by
 subst e
 exact ⟨.bl k, H, I, rfl, q⟩
theorem zb6 : OpR X (compareOp .Eq) rEq := by
 intro pins s σ H x y v u Q I rx ry h
 obtain ⟨hs, q⟩ := h
 cases x with
 | non =>
  cases rx
  cases y with
  | non => cases ry; exact PySem.EqNone.eq_none_none (zbf I q (by simp))
  | bl j => cases ry; exact PySem.EqNone.eq_none_bool (zbf I q (by simp))
  | int j => obtain ⟨t', rfl⟩ := ry; exact PySem.EqNone.eq_none_int (zbf I q (by simp))
  | str j => obtain ⟨t', rfl⟩ := ry; exact PySem.EqNone.eq_none_str (zbf I q (by simp))
  | _ => exact absurd (show false = true from hs) Bool.false_ne_true
 | bl i =>
  cases rx
  cases y with
  | non => cases ry; exact PySem.EqNone.eq_bool_none (zbf I q (by simp))
  | bl j => cases ry; exact eq_bool (zbf I q zqw)
  | str j => obtain ⟨t', rfl⟩ := ry; exact PySem.EqMixed.eq_bool_str (zbf I q (by simp))
  | _ => exact absurd (show false = true from hs) Bool.false_ne_true
 | int i =>
  obtain ⟨t, rfl⟩ := rx
  cases y with
  | non => cases ry; exact PySem.EqNone.eq_int_none (zbf I q (by simp))
  | int j => obtain ⟨t', rfl⟩ := ry; exact eq_int (zbf I q zgv)
  | str j => obtain ⟨t', rfl⟩ := ry; exact PySem.EqMixed.eq_int_str (zbf I q (by simp))
  | _ => exact absurd (show false = true from hs) Bool.false_ne_true
 | str i =>
  obtain ⟨t, rfl⟩ := rx
  cases y with
  | non => cases ry; exact PySem.EqNone.eq_str_none (zbf I q (by simp))
  | bl j => cases ry; exact PySem.EqMixed.eq_str_bool (zbf I q (by simp))
  | int j => obtain ⟨t', rfl⟩ := ry; exact PySem.EqMixed.eq_str_int (zbf I q (by simp))
  | str j => obtain ⟨t', rfl⟩ := ry; exact eq_str (zbf I q zol)
  | _ => exact absurd (show false = true from hs) Bool.false_ne_true
 | byt i =>
  obtain ⟨t, rfl⟩ := rx
  cases y with
  | byt j => obtain ⟨t', rfl⟩ := ry; exact PySem.W.eq_bytes (zbf I q zoj)
  | _ => exact absurd (show false = true from hs) Bool.false_ne_true
 | _ => cases y <;> exact absurd (show false = true from hs) Bool.false_ne_true
theorem zvf : OpR X (compareOp .NotEq) rNe := by
 intro pins s σ H x y v u Q I rx ry h
 obtain ⟨hs, q⟩ := h
 cases x with
 | non =>
  cases rx
  cases y with
  | non => cases ry; exact PySem.EqNone.ne_none_none (zbf I q (by simp))
  | bl j => cases ry; exact PySem.EqNone.ne_none_bool (zbf I q (by simp))
  | int j => obtain ⟨t', rfl⟩ := ry; exact PySem.EqNone.ne_none_int (zbf I q (by simp))
  | str j => obtain ⟨t', rfl⟩ := ry; exact PySem.EqNone.ne_none_str (zbf I q (by simp))
  | _ => exact absurd (show false = true from hs) Bool.false_ne_true
 | bl i =>
  cases rx
  cases y with
  | non => cases ry; exact PySem.EqNone.ne_bool_none (zbf I q (by simp))
  | bl j => cases ry; exact ne_bool (zbf I q (congrArg not zqw))
  | str j => obtain ⟨t', rfl⟩ := ry; exact PySem.EqMixed.ne_bool_str (zbf I q (by simp))
  | _ => exact absurd (show false = true from hs) Bool.false_ne_true
 | int i =>
  obtain ⟨t, rfl⟩ := rx
  cases y with
  | non => cases ry; exact PySem.EqNone.ne_int_none (zbf I q (by simp))
  | int j => obtain ⟨t', rfl⟩ := ry; exact ne_int (zbf I q (congrArg not zgv))
  | str j => obtain ⟨t', rfl⟩ := ry; exact PySem.EqMixed.ne_int_str (zbf I q (by simp))
  | _ => exact absurd (show false = true from hs) Bool.false_ne_true
 | str i =>
  obtain ⟨t, rfl⟩ := rx
  cases y with
  | non => cases ry; exact PySem.EqNone.ne_str_none (zbf I q (by simp))
  | bl j => cases ry; exact PySem.EqMixed.ne_str_bool (zbf I q (by simp))
  | int j => obtain ⟨t', rfl⟩ := ry; exact PySem.EqMixed.ne_str_int (zbf I q (by simp))
  | str j => obtain ⟨t', rfl⟩ := ry; exact ne_str (zbf I q (congrArg not zol))
  | _ => exact absurd (show false = true from hs) Bool.false_ne_true
 | byt i =>
  obtain ⟨t, rfl⟩ := rx
  cases y with
  | byt j => obtain ⟨t', rfl⟩ := ry; exact PySem.W.ne_bytes (zbf I q (congrArg not zoj))
  | _ => exact absurd (show false = true from hs) Bool.false_ne_true
 | _ => cases y <;> exact absurd (show false = true from hs) Bool.false_ne_true
theorem zon : OpR X (compareOp .Lt) (rI0 fun i j => .bl (decide (i < j))) := zs8 fun _ _ _ _ _ _ _ q => lt_int q
theorem zl7 : OpR X (compareOp .LtE) (rI0 fun i j => .bl (decide (i ≤ j))) := zs8 fun _ _ _ _ _ _ _ q => le_int q
theorem zhi : OpR X (compareOp .Gt) (rI0 fun i j => .bl (decide (j < i))) := zs8 fun _ _ _ _ _ _ _ q => gt_int q
theorem zvn : OpR X (compareOp .GtE) (rI0 fun i j => .bl (decide (j ≤ i))) := zs8 fun _ _ _ _ _ _ _ q => ge_int q
theorem zrv : OpR X (compareOp .Is) (fun x y H Q => y = .non ∧ Q (.bl (decide (x = .non))) H) := by
 intro pins s σ H x y v u Q I rx ry h
 obtain ⟨rfl, q⟩ := h
 cases ry
 refine is_none_gen (zbf I q ?_)
 cases x <;> first
  | (cases rx; rfl)
  | (obtain ⟨t, rfl⟩ := rx; rfl)
theorem zn5 : OpR X (compareOp .IsNot) (fun x y H Q => y = .non ∧ Q (.bl (!decide (x = .non))) H) := by
 intro pins s σ H x y v u Q I rx ry h
 obtain ⟨rfl, q⟩ := h
 cases ry
 refine isnot_none_gen (zbf I q ?_)
 cases x <;> first
  | (cases rx; rfl)
  | (obtain ⟨t, rfl⟩ := rx; rfl)
theorem zax (b : Expr) {op : CmpOp} (h : op ≠ .In := by decide) (h2 : op ≠ .NotIn := by decide) : behindInMarks op b = false := by
 have e1 : (op == CmpOp.In) = false := by cases op <;> first | rfl | exact absurd rfl h
 have e2 : (op == CmpOp.NotIn) = false := by cases op <;> first | rfl | exact absurd rfl h2
 cases b <;> simp [behindInMarks, e1, e2]
theorem zcz {op : CmpOp} {r : R2} (ho : OpR X (compareOp op) r) (ha : PE X a ta) (hb : PE X b tb) (hm : behindInMarks op b = false) : PE X (.Compare a [op] [b] pos) (tOp r ta tb) := by
 intro pins s σ H Q I h
 exact wpAny_Compare1 (zt8 ha hb I h fun v u s2 x y H2 I2 rx ry q => ho pins s2 σ H2 x y v u Q I2 rx ry q) hm
def zvl (t : TE) : TT := fun σ H Q => t σ H fun x H' => ∃ k, x = .bl k ∧ Q k H'
theorem zat {op : CmpOp} {r : R2} (ho : OpR X (compareOp op) r) (ha : PE X a ta) (hb : PE X b tb) (hm : behindInMarks op b = false) : PT X (.Compare a [op] [b] pos) (zvl (tOp r ta tb)) := by
 intro pins s σ H Q I h
 refine wpAny_isTrue_Compare1 (thn (ha pins s σ H _ I h) fun v s1 ⟨x, H1, I1, r1, q1⟩ => thn (hb pins s1 σ H1 _ I1 q1) fun u s2 ⟨y, H2, I2, r2, q2⟩ =>
  thn (ho pins s2 σ H2 x y v u _ I2 r1 r2 q2) fun c s3 ⟨z, H3, I3, r3, k, e, q3⟩ => ?_) hm
 subst e
 cases r3
 exact wpAny_truthy_bool ⟨H3, I3, q3⟩
def ztz (r r' : R2) (ta tb tc : TE) : TE := fun σ H Q => ta σ H fun x H1 => tb σ H1 fun y H2 => r x y H2 fun z H3 => ∃ k, z = .bl k ∧
 (if k = true then tc σ H3 fun w' H4 => r' y w' H4 Q else Q (.bl false) H3)
theorem zqq {op op' : CmpOp} {r r' : R2} (ho : OpR X (compareOp op) r) (ho' : OpR X (compareOp op') r') (ha : PE X a ta) (hb : PE X b tb) (hc : PE X c tc)
  (hm : lastMarks [op, op'] [b, c] = false := by with_unfolding_all rfl) : PE X (.Compare a [op, op'] [b, c] pos) (ztz r r' ta tb tc) := by
 intro pins s σ H Q I h
 refine Compare_chain (thn (ha pins s σ H _ I h) fun v s1 ⟨x, H1, I1, r1, q1⟩ => chain_link (thn (hb pins s1 σ H1 _ I1 q1) fun u s2 ⟨y, H2, I2, r2, q2⟩ =>
  thn (ho pins s2 σ H2 x y v u _ I2 r1 r2 q2) fun d s3 ⟨z, H3, I3, r3, k, e, q3⟩ => ?_)) hm
 subst e
 cases r3
 refine wpAny_truthy_bool ?_
 cases k with
 | false => exact ite_ff ⟨.bl false, H3, I3, rfl, q3⟩
 | true => exact ite_tt (chain_last (thn (hc pins s3 σ H3 _ I3 q3) fun w' s4 ⟨z', H4, I4, r4, q4⟩ => ho' pins s4 σ H4 y z' u w' Q I4 r2 r4 q4))
theorem zhd : (sizeLine : Nat) < 2 ^ 63 := by rw [sizeLine_eq]; decide
theorem zen {x : V} {us : List Value} (r : Vals [x] us) : ∃ u, us = [u] ∧ RelV x u := by
 cases r with
 | cons r1 r2 => cases r2; exact ⟨_, rfl, r1⟩
theorem zva {x y : V} {us : List Value} (r : Vals [x, y] us) : ∃ u w', us = [u, w'] ∧ RelV x u ∧ RelV y w' := by
 cases r with
 | cons r1 r2 =>
  cases r2 with
  | cons r3 r4 => cases r4; exact ⟨_, _, rfl, r1, r3⟩
theorem zkc : zdh X (.type "int") (fun xs H Q => (∃ i, xs = [.int i] ∧ Q (.int i) H) ∨ ∃ k, xs = [.bl k] ∧ Q (.int (if k then 1 else 0)) H) := by
 intro pins s σ H xs us Q I r h
 rcases h with ⟨i, rfl, q⟩ | ⟨k, rfl, q⟩
 ·obtain ⟨u, rfl, t, rfl⟩ := zen r
  exact call_int_int ⟨.int i, H, I, ⟨_, rfl⟩, q⟩
 ·obtain ⟨u, rfl, r1⟩ := zen r
  cases r1
  exact call_int_bool ⟨.int (if k then 1 else 0), H, I.tok _, ⟨_, rfl⟩, q⟩
end
end L2
namespace L2
open PySem PySem.Spec PyProof.Rows
structure ObjM (h : Heap) (x dx C : Addr) (mA : Str → Option Value) : Prop where
 obj : h.get? x = some (PySem.W.instObj C dx)
 ns : h.Ns1 dx mA
 ne : dx ≠ x
theorem zpa {h : Heap} {dx : Addr} {mA : Str → Option Value} (n : h.Ns1 dx mA) : ∃ od, h.get? dx = some od ∧ ∀ name, PySem.W.lookIn name od = some (mA name) := by
 obtain ⟨o, es, ep, ho, hd, hk, _, hm⟩ := n
 refine ⟨o, ho, fun name => ?_⟩
 have e := hm name
 unfold nsFind findBy at e
 rw [← Array.find?_toList] at e
 unfold PySem.W.lookIn
 rw [hd]
 dsimp only
 split
 ·rename_i y q
  rw [q] at e
  exact congrArg some e
 ·rename_i q
  rw [q] at e
  have a : es.toList.any (·.refKey) = false := by
   rw [List.any_eq_false]
   intro y hy
   obtain ⟨z, t, hkey⟩ := hk y (Array.mem_toList_iff.mp hy)
   simp [DictEntry.refKey, hkey]
  have a' : ¬ es.toList.any (·.refKey) = true := by rw [a]; exact Bool.false_ne_true
  rw [if_neg a']
  exact congrArg some e
theorem ObjM.look {h : Heap} {x dx C : Addr} {mA : Str → Option Value} (I : ObjM h x dx C mA) : ∃ od, PySem.W.InstAt h x (PySem.W.instObj C dx) C (some od) ∧ ∀ name, PySem.W.lookIn name od = some (mA name) :=
 let ⟨od, ho, hl⟩ := zpa I.ns
 ⟨od, ⟨I.obj, rfl, rfl, ho⟩, hl⟩
section
variable {prog : Program} {w : World} {A : Around} {E : Value → Shared → Prop} {s : Shared} {K : PySem.W.Frag} {x dx C f : Addr} {mA : Str → Option Value} {name : Str} {v : Value}
end
section
variable {P : Program} {w : World} {H H' : Hp} {h h' : Heap} {a C dx : Addr} {fs fs' : List (Str × V)}
theorem zsr (hok : HOk P w H h) (e : H a = some (.ins C dx fs)) : ∃ mA, ObjM h a dx C mA ∧ (∀ f, zug (fs.lookup f) (mA f)) ∧ PySem.Within mA (fs.map (·.1)) ∧ fs.length ≤ 1000 ∧ H dx = some (.own a) := by
 obtain ⟨d, z, ne, ob, mA, n, r, q⟩ := (show ObjOk P w H h a (.ins C dx fs) from hok a _ e)
 exact ⟨mA, ⟨ob, n, ne⟩, r, q, z, d⟩
end
structure Cls (K : PySem.W.Frag) (C : Addr) : Prop where
 pg : PySem.W.plainGet K C Str.empty = true
 hd : PySem.W.hasDictIn K C = true
 po : PySem.W.plainOver K C = true
 sa : PySem.W.findIn K (.ref C) "__setattr__" = some (some (.builtin "object.__setattr__"))
theorem Cls.get {K : PySem.W.Frag} {C : Addr} (c : Cls K C) (f : Str) : PySem.W.plainGet K C f = true := c.pg
section
variable {X : Cx} {pins : List (Addr × Obj)} {σ : St} {H : Hp} {s : Shared} {a C dx : Addr} {fs : List (Str × V)} {f : Str} {v : V} {A : Around} {E : Value → Shared → Prop}
end
section
variable {X : Cx} {o e value : Expr} {f : Str} {pos pos' tpos : Pos} {ta tv : TE}
end
section
variable {X : Cx} {pins : List (Addr × Obj)} {σ : St} {H : Hp} {s : Shared} {A : Around} {E : Value → Shared → Prop} {Q : Value → Shared → Prop} {c : Value} {b : Bool}
inductive TyOf (K : PySem.W.Frag) (H : Hp) : V → Value → Prop where
 | non : TyOf K H .non (.type "NoneType")
 | bl (x : Bool) : TyOf K H (.bl x) (.type "bool")
 | int (i : Int) : TyOf K H (.int i) (.type "int")
 | str (x : Str) : TyOf K H (.str x) (.type "str")
 | flt (x : UInt64) : TyOf K H (.flt x) (.type "float")
 | lst {a : Addr} {xs : List V} (e : H a = some (.lst xs)) : TyOf K H (.ref a) (.type "list")
 | frz {a : Addr} {o : Obj} {xs : List V} (e : H a = some (.frz o (.lst xs))) : TyOf K H (.ref a) (.type "list")
 | tup {a : Addr} {xs : List V} (e : H a = some (.tup xs)) : TyOf K H (.ref a) (.type "tuple")
 | dK {a : Addr} {kvs : List (Key × V)} (e : H a = some (.dK kvs)) : TyOf K H (.ref a) (.type "dict")
 | dT {a : Addr} {kvs : List (List Key × V)} (e : H a = some (.dT kvs)) : TyOf K H (.ref a) (.type "dict")
 | ins {a C dx : Addr} {fs : List (Str × V)} (e : H a = some (.ins C dx fs)) (cl : Cls K C) (ha : PySem.W.findIn K (.ref C) "__class__" = some (some (.builtin "object.__class__")))
   (hn : PySem.W.specialIn K (.builtin "object.__class__") "__get__" = some (some (.builtin "getset_descriptor.__get__"))) (htk : PySem.W.takesIn K (.builtin "object.__class__") = some true)
   (hm : PySem.W.mroIn K C (.type "object") = some true) : TyOf K H (.ref a) (.ref C)
theorem zpc {x : V} {u t : Value} (I : Inv X pins σ H s) (rx : RelV x u) (ty : TyOf X.K H x t) (e : PySem.W.kitOne X.K t c = some b) (h : ∀ tk, Q (.bool b) { s with toks := tk }) :
  wpAny (model X.prog X.w) A (call (.builtin "isinstance") [u, c]) Q E s := by
 cases ty with
 | non => cases (show u = Value.none from rx); exact PySem.W.kia_one PySem.W.kitx_none I.kIn True.intro e (fun z => nomatch z) h
 | bl y => cases (show u = Value.bool y from rx); exact PySem.W.kia_one PySem.W.kitx_bool I.kIn True.intro e (fun z => nomatch z) h
 | int i => obtain ⟨t, q⟩ := (show ∃ t, u = Value.int i t from rx); cases q; exact PySem.W.kia_one PySem.W.kitx_int I.kIn True.intro e (fun z => nomatch z) h
 | str y => obtain ⟨t, q⟩ := (show ∃ t, u = Value.str y t from rx); cases q; exact PySem.W.kia_one PySem.W.kitx_str I.kIn True.intro e (fun z => nomatch z) h
 | flt y => obtain ⟨t, q⟩ := (show ∃ t, u = Value.float y t from rx); cases q; exact PySem.W.kia_one PySem.W.kitx_float I.kIn True.intro e (fun z => nomatch z) h
 | @lst a xs ea =>
  cases (show u = Value.ref a from rx)
  obtain ⟨_, _, n, _, h1⟩ := (show ObjOk X.prog X.w H s.heap a (.lst xs) from I.hok a _ ea)
  exact PySem.W.kia_one PySem.W.kitx_list I.kIn ⟨_, h1, rfl⟩ e (fun z => nomatch z) h
 | @frz a ob xs ea =>
  cases (show u = Value.ref a from rx)
  obtain ⟨_, _, _, n, _, h1⟩ := (show ObjOk X.prog X.w H s.heap a (.frz ob (.lst xs)) from I.hok a _ ea)
  exact PySem.W.kia_one PySem.W.kitx_list I.kIn ⟨_, h1, rfl⟩ e (fun z => nomatch z) h
 | @tup a xs ea =>
  cases (show u = Value.ref a from rx)
  obtain ⟨_, _, _, p⟩ := (show ObjOk X.prog X.w H s.heap a (.tup xs) from I.hok a _ ea)
  obtain ⟨o, h1, h2, _⟩ := p
  exact PySem.W.kia_one PySem.W.kitx_tuple I.kIn ⟨o, h1, h2⟩ e (fun z => nomatch z) h
 | @dK a kvs ea =>
  cases (show u = Value.ref a from rx)
  obtain ⟨_, _, vs, _, p⟩ := (show ObjOk X.prog X.w H s.heap a (.dK kvs) from I.hok a _ ea)
  obtain ⟨o, es, ep, h1, h2, _⟩ := p
  exact PySem.W.kia_one PySem.W.kitx_dict I.kIn ⟨o, h1, h2.1⟩ e (fun z => nomatch z) h
 | @dT a kvs ea =>
  cases (show u = Value.ref a from rx)
  obtain ⟨_, _, xs, _, o, es, ep, h1, h2, _⟩ := (show ObjOk X.prog X.w H s.heap a (.dT kvs) from I.hok a _ ea)
  exact PySem.W.kia_one PySem.W.kitx_dict I.kIn ⟨o, h1, h2.1⟩ e (fun z => nomatch z) h
 | @ins a C dx fs ea cl ha hn htk hm =>
  cases (show u = Value.ref a from rx)
  obtain ⟨mA, O, _⟩ := zsr I.hok ea
  obtain ⟨od, J, _⟩ := O.look
  exact PySem.W.kia_one (PySem.W.kitx_own (cl.get _) cl.hd ha hn htk hm) I.kIn J e (fun z => nomatch z) h
end
end L2
namespace L2
open PySem PySem.Spec PyProof.Rows
structure Room (k : Nat) (A : Around) : Prop where
 hd : A.handled = none
 dp : A.depth + 3 * k + 5 < recursionLimit
 un : A.units + 16 * k + 200 < cLine
theorem Room.mono {j k : Nat} {A : Around} (r : Room k A) (h : j ≤ k) : Room j A := ⟨r.hd, by have := r.dp; omega, by have := r.un; omega⟩
theorem Room.deeper {k : Nat} {A : Around} (r : Room (k + 1) A) (env : Env) : Room k (A.deeper env) :=
 ⟨r.hd, by have := r.dp; show A.depth + 1 + 3 * k + 5 < _; omega, by have := r.un; show A.units + 3 + 16 * k + 200 < _; omega⟩
theorem Room.depth {k : Nat} {A : Around} (r : Room k A) : A.depth < recursionLimit := by have := r.dp; omega
theorem Room.units {k : Nat} {A : Around} (r : Room k A) : A.units + 64 < cLine := by have := r.un; omega
def zvd : TA := fun _ H Q => Q [] H
def zre (ta : TE) (tr : TA) : TA := fun σ H Q => ta σ H fun x H1 => tr σ H1 fun xs H2 => Q (x :: xs) H2
section
variable {X : Cx} {e : Expr} {es : List Expr} {te : TE} {t : TA} {pos : Pos}
theorem zac : PA X [] zvd := fun _ _ _ _ H Q I h => Calls.spliced_nil ⟨[], H, I, .nil, h⟩
theorem zaa (ha : PE X e te) (hr : PA X es t) (hs : starEach (e :: es) X.env = (false, eval e X.env) :: starEach es X.env := by rfl) : PA X (e :: es) (zre te t) := by
 intro pos pins s σ H Q I h
 rw [hs]
 show wpAny _ _ (spliced ((false, eval e X.env) :: backTo pos (starEach es X.env))) _ _ s
 refine Calls.spliced_cons (thn (ha pins s σ H _ I h) fun u s1 ⟨x, H1, I1, r1, q1⟩ => ?_)
 exact thn (hr pos pins s1 σ H1 _ I1 q1) fun us s2 ⟨xs, H2, I2, r2, q2⟩ => ⟨x :: xs, H2, I2, .cons r1 r2, q2⟩
def zwj (t : TA) : TE := fun σ H Q => t σ H fun xs H1 => xs.length ≤ sizeLine ∧ ∀ p, H1 p = none → Q (.ref p) (upd H1 p (.tup xs))
def zwm (t : TA) : TE := fun σ H Q => t σ H fun xs H1 => xs.length ≤ sizeLine ∧ ∀ p, H1 p = none → Q (.ref p) (upd H1 p (.lst xs))
theorem zb7 {x1} (h : PA X es t) : PE X (.Tuple es x1 pos) (zwj t) := by
 intro pins s σ H Q I hq
 refine wpAny_Tuple_spliced (thn (h pos pins s σ H _ I hq) fun us s1 ⟨xs, H1, I1, r, z, q⟩ => ⟨by rw [← r.length]; exact z, ?_⟩)
 have hf : H1 s1.heap.objs.size = none := I1.hok.fresh (Nat.le_refl _)
 refine ⟨.ref s1.heap.objs.size, upd H1 s1.heap.objs.size (.tup xs), I1.laid (t' := s1.toks) (fun b u e => Heap.get?_push_of_some _ e) (Nat.le_refl _) ?_, rfl, q _ hf⟩
 exact ⟨z, us, r, ⟨_, Heap.get?_push_size _ rfl, rfl, _, rfl⟩⟩
theorem zc4 (h : PA X es t) : PE X (.List es pos) (zwm t) := by
 intro pins s σ H Q I hq
 refine wpAny_List_spliced (thn (h pos pins s σ H _ I hq) fun us s1 ⟨xs, H1, I1, r, z, q⟩ => ⟨by rw [← r.length]; exact z, ?_⟩)
 have hf : H1 s1.heap.objs.size = none := I1.hok.fresh (Nat.le_refl _)
 refine ⟨.ref s1.heap.objs.size, upd H1 s1.heap.objs.size (.lst xs), I1.laid (t' := s1.toks) (fun b u e => Heap.get?_push_of_some _ e) (Nat.le_refl _) ?_, rfl, q _ hf⟩
 exact ⟨z, us, 0, r, Heap.get?_push_size _ rfl⟩
end
abbrev Sp := List V → Hp → VK → XK → Prop
abbrev CXT := List Env → Hp → Shared → XK → Value → Shared → Prop
structure zri (P : Program) (w : World) (K : PySem.W.Frag) (mg : Str → Option Value) (base : Heap) (A : Around) (outer : List Env) (s : Shared) (H : Hp) : Prop where
 frames : A.frames = some outer
 mod : Mod K mg base
 bs : ∀ b o, base.get? b = some o → s.heap.get? b = some o ∧ H b = none
 bsz : base.objs.size ≤ s.heap.objs.size
 funs : s.heap.FunFrames base outer
 frf : ∀ b ∈ frs outer, H b = none
 hok : HOk P w H s.heap
 bare : AllBare s.gens
def CE (outer : List Env) (P : Program) (w : World) (H : Hp) (s : Shared) (Q : VK) (u : Value) (s' : Shared) : Prop :=
 ∃ v H', s'.os = s.os ∧ AllBare s'.gens ∧ Un (frs outer) [] H H' s.heap s'.heap ∧ HOk P w H' s'.heap ∧ RelV v u ∧ Q v H'
def CR (CX : CXT) (outer : List Env) (P : Program) (w : World) (H : Hp) (s : Shared) (Q : VK) (E : XK) (r : Result) (s' : Shared) : Prop :=
 match r with
 | .ok (.ret u) => CE outer P w H s Q u s'
 | .ok _ => False
 | .error e => CX outer H s E e s'
structure zbi (P : Program) (w : World) (K : PySem.W.Frag) (mg : Str → Option Value) (base : Heap) (CX : CXT) (k : Nat) (f : Addr) (fd : FuncData) (ps : List Str) (sp : Sp) : Prop where
 len : ∀ vs H Q E, sp vs H Q E → vs.length = ps.length
 run : ∀ (A : Around) (outer : List Env) (s : Shared) (H : Hp) (args : Args) (us : List Value) (vs : List V) (Q : VK) (E : XK), Room k A → zri P w K mg base A outer s H → BindsTo s fd args (ps.zip us) → Vals vs us → sp vs H Q E →
  codeAny (model P w) A (.call (.ref f) args) (CR CX outer P w H s Q E) s
section
variable {X : Cx} {pins : List (Addr × Obj)} {σ : St} {H : Hp} {s s' : Shared}
theorem Inv.env0 (I : Inv X pins σ H s) : zri X.prog X.w X.K X.mg X.base X.A X.stack s H :=
 ⟨I.ok.frames, I.ok.mod, I.bs, Nat.le_trans I.ok.bsz I.sz, I.stack, I.stkFree, I.hok, I.bare⟩
theorem Inv.after {Q : VK} {u : Value} (I : Inv X pins σ H s) (h : CE X.stack X.prog X.w H s Q u s') : EP X pins σ Q u s' := by
 obtain ⟨v, H', os, bare, un, hok, r, q⟩ := h
 obtain ⟨hh, g, d, t, os'⟩ := s'
 obtain rfl : os' = s.os := os
 exact ⟨v, H', I.call (h' := hh) (g' := g) (d' := d) (t' := t) (ch := []) un hok bare (fun b z => absurd z (by simp)), r, q⟩
end
def ztb (sp : Sp) (dvs : List V) (E : XK) (t : TA) : TE := fun σ H Q => t σ H fun vs H1 => sp (vs ++ dvs) H1 Q E
def Binds (K : PySem.W.Frag) (fd : FuncData) (ps : List Str) (ds : List Value) : Prop :=
 ∀ (s : Shared) (us : List Value), K.In s.heap → (us ++ ds).length = ps.length → BindsTo s fd ⟨us, []⟩ (ps.zip (us ++ ds))
theorem Binds.all {K : PySem.W.Frag} {fd : FuncData} {ps : List Str} (h : ∀ us : List Value, us.length = ps.length → bindArgs fd ⟨us, []⟩ = pure (ps.zip us)) : Binds K fd ps [] := fun s us _ hl => by
 rw [List.append_nil] at hl ⊢
 exact .of_eq (h us hl)
def zk2 (CX : CXT) (X : Cx) (E : XK) : Prop := ∀ (pins : List (Addr × Obj)) (σ : St) (H : Hp) (s : Shared) (e : Value) (s' : Shared), Inv X pins σ H s → CX X.stack H s E e s' → X.xe e s'
section
variable {X : Cx} {CX : CXT} {k : Nat} {f C : Addr} {fd : FuncData} {ps : List Str} {sp : Sp} {dvs : List V} {ds : List Value} {E : XK} {x m : Str} {p pos apos : Pos} {e o : Expr} {es : List Expr} {ta : TE} {t : TA}
theorem zqa {pins : List (Addr × Obj)} {σ : St} {H : Hp} {s : Shared} {Q : VK} {us : List Value} {vs : List V} (F : zbi X.prog X.w X.K X.mg X.base CX k f fd ps sp) (hr : Room k X.A) (hb : Binds X.K fd ps ds) (hd : Vals dvs ds) (hx : zk2 CX X E)
  (I : Inv X pins σ H s) (r : Vals vs us) (h : sp (vs ++ dvs) H Q E) : wpAny (model X.prog X.w) X.A (call (.ref f) us) (EP X pins σ Q) X.xe s := by
 have r2 : Vals (vs ++ dvs) (us ++ ds) := r.append hd
 have hl : (us ++ ds).length = ps.length := by rw [← r2.length]; exact F.len _ _ _ _ h
 refine wpAny_call (codeAny_mono (F.run X.A X.stack s H ⟨us, []⟩ (us ++ ds) (vs ++ dvs) Q E hr I.env0 (hb s us I.kIn hl) r2 h) fun r s' hq => ?_)
 cases r with
 | error e => exact hx pins σ H s e s' I hq
 | ok fl =>
  cases fl with
  | ret u => exact I.after hq
  | next => exact False.elim hq
  | brk => exact False.elim hq
  | cont => exact False.elim hq
theorem zah (F : zbi X.prog X.w X.K X.mg X.base CX k f fd ps sp) (hr : Room k X.A) (hg : Gl X x) (hm : X.mg x = some (.ref f)) (hk : PySem.W.keepIn X.K (.ref f) = true) (hb : Binds X.K fd ps ds) (hd : Vals dvs ds) (hx : zk2 CX X E)
  (ha : PA X (e :: es) t) (hdb : (x == ("__debug__" : Str)) = false := by decide) (he : starEach (e :: es) X.env = (false, eval e X.env) :: starEach es X.env := by rfl) (hpl : (backTo pos (starEach es X.env)).any (·.1) = false := by rfl) :
  PE X (.Call (.Name x p) (e :: es) [] pos) (ztb sp dvs E t) := by
 intro pins s σ H Q I h
 refine wpAny_Call_Name_kw (zhy I hg hm ?_ hdb)
 refine PySem.W.callWith_K (h₀ := X.base) I.ok.mod.kin hk (thn (ha pos pins s σ H _ I h) fun us s1 ⟨vs, H1, I1, r, q⟩ => ⟨I1.kIn, ?_⟩) he hpl
 exact zqa F hr hb hd hx I1 r q
end
section
variable {X : Cx} {CX : CXT} {k : Nat} {f C : Addr} {fd : FuncData} {ps ks : List Str} {sp : Sp} {E : XK} {x m : Str} {p pos apos kpos : Pos} {e o : Expr} {es : List Expr} {kws : List Keyword} {te ta : TE} {t tk : TA} {nm : Option Str}
variable {g : List Value → List Value → List Value} {gV : List V → List V → List V}
end
structure zay (N P : List Str) (sc : Scope) : Prop where
 kind : sc.kind = .function
 co : sc.isCoroutine = false
 gen : sc.isGenerator = false
 nd : N.Nodup
 pre : N.take P.length = P
 par : ∀ x ∈ P, sc.names.lookup x = some .local ∨ sc.names.lookup x = some .cell
 nofree : ∀ y ∈ sc.names, y.2 ≠ .free
theorem zka {kindOf : Str → Option NameKind} {x : Str} : ∀ {binds : List (Str × Value)} {m : Str → Option Value}, (∀ v, (x, v) ∉ binds) → bindL kindOf binds m x = m x
 | [], _, _ => rfl
 | (n, v) :: r, m, h => by
  unfold bindL
  rw [zka fun w hw => h w (List.mem_cons_of_mem _ hw)]
  split
  ·have : x ≠ n := by rintro rfl; exact h v List.mem_cons_self
   simp [this]
  ·rfl
theorem zjt {kindOf : Str → Option NameKind} {x : Str} : ∀ {binds : List (Str × Value)} {m : Str → Option Value}, (∀ v, (x, v) ∉ binds) → bindC kindOf binds m x = m x
 | [], _, _ => rfl
 | (n, v) :: r, m, h => by
  unfold bindC
  rw [zjt fun w hw => h w (List.mem_cons_of_mem _ hw)]
  split
  ·rfl
  ·have : x ≠ n := by rintro rfl; exact h v List.mem_cons_self
   simp [this]
theorem zjw {kindOf : Str → Option NameKind} {x : Str} {v : Value} : ∀ {P : List Str} {vs : List Value} {i : Nat} {m : Str → Option Value}, P.Nodup → P[i]? = some x → vs[i]? = some v → kindOf x = some .local →
  bindL kindOf (P.zip vs) m x = some v
 | [], _, _, _, _, h, _, _ => by simp at h
 | _ :: _, [], _, _, _, _, h, _ => by simp at h
 | p :: P, w :: vs, 0, m, nd, h1, h2, hk => by
  simp at h1 h2; subst h1; subst h2
  show bindL kindOf ((p, w) :: P.zip vs) m p = _
  unfold bindL
  rw [zka fun v hv => (List.nodup_cons.mp nd).1 (List.of_mem_zip hv).1, if_pos hk]
  simp
 | p :: P, w :: vs, i + 1, m, nd, h1, h2, hk => by
  show bindL kindOf ((p, w) :: P.zip vs) m x = _
  unfold bindL
  exact zjw (i := i) (List.nodup_cons.mp nd).2 (by simpa using h1) (by simpa using h2) hk
theorem zj7 {kindOf : Str → Option NameKind} {x : Str} {v : Value} : ∀ {P : List Str} {vs : List Value} {i : Nat} {m : Str → Option Value}, P.Nodup → P[i]? = some x → vs[i]? = some v → kindOf x ≠ some .local →
  bindC kindOf (P.zip vs) m x = some v
 | [], _, _, _, _, h, _, _ => by simp at h
 | _ :: _, [], _, _, _, _, h, _ => by simp at h
 | p :: P, w :: vs, 0, m, nd, h1, h2, hk => by
  simp at h1 h2; subst h1; subst h2
  show bindC kindOf ((p, w) :: P.zip vs) m p = _
  unfold bindC
  rw [zjt fun v hv => (List.nodup_cons.mp nd).1 (List.of_mem_zip hv).1, if_neg hk]
  simp
 | p :: P, w :: vs, i + 1, m, nd, h1, h2, hk => by
  show bindC kindOf ((p, w) :: P.zip vs) m x = _
  unfold bindC
  exact zj7 (i := i) (List.nodup_cons.mp nd).2 (by simpa using h1) (by simpa using h2) hk
def zgf (N : List Str) (vs : List V) : St := vs.map some ++ List.replicate (N.length - vs.length) none
def zd5 (CX : CXT) (P : Program) (w : World) (K : PySem.W.Frag) (mg : Str → Option Value) (base : Heap) (N : List Str) (qual : Str) (scope : Scope) (f : Addr) (cd : Value) (A : Around) (outer : List Env) (s : Shared) (H : Hp) (E : XK) : Cx where
 prog := P
 w := w
 K := K
 mg := mg
 base := base
 A := A.deeper (envOfC qual scope s.heap.objs.size f cd)
 N := N
 s₀ := s
 H₀ := H
 env := envOfC qual scope s.heap.objs.size f cd
 outer := outer
 stack := envOfC qual scope s.heap.objs.size f cd :: outer
 ex := []
 calm := true
 fn := fun _ => true
 pn := []
 xe := fun e s' => wpAny (model P w) (A.deeper (envOfC qual scope s.heap.objs.size f cd)) (leaving (envOfC qual scope s.heap.objs.size f cd) e) (fun _ s'' => CX outer H s E e s'') (fun e' s'' => CX outer H s E e' s'') s'
theorem zm1 {sc : Scope} {n : Nat} {x : Str} (h : sc.names.lookup x = some .cell) : ∃ c, (cellsFrom n sc.names []).lookup x = some c := by
 have q := PySem.W.cellsFrom_some sc.names n [] (.inl h)
 exact Option.isSome_iff_exists.mp q
theorem zpd {CX : CXT} {P : Program} {w : World} {K : PySem.W.Frag} {mg : Str → Option Value} {base : Heap} {N ps : List Str} {qual : Str} {scope : Scope} {f : Addr} {cd : Value} {A : Around} {outer : List Env} {s s1 : Shared} {H : Hp} {E : XK} {us : List Value} {vs : List V}
  (S : zay N ps scope) (hd : A.handled = none) (e0 : zri P w K mg base A outer s H) (hl : vs.length = ps.length) (r : Vals vs us)
  (x : InCallC s s.heap.objs.size (bindL (envOfC qual scope s.heap.objs.size f cd).kindOf (ps.zip us) fun _ => none) (cellsFrom (s.heap.objs.size + 1) scope.names []) (bindC (envOfC qual scope s.heap.objs.size f cd).kindOf (ps.zip us) fun _ => none) s1) :
  Inv (zd5 CX P w K mg base N qual scope f cd A outer s H E) [] (zgf N vs) H s1 := by
 have hpl : ps.length ≤ N.length := by have := congrArg List.length S.pre; rw [List.length_take] at this; omega
 obtain ⟨h1, tk, rfl, hk⟩ := x.done
 have noA : ∀ b : Addr, b ∉ (zd5 CX P w K mg base N qual scope f cd A outer s H E).ex := fun b z => absurd (show b ∈ ([] : List Addr) from z) (by simp)
 refine ⟨⟨e0.mod, S.kind, rfl, rfl, Nat.le_refl _, fun y z c h1 h2 => ?_, fun y hy => ?_, fun y c _ h => ?_, fun _ => hd, Around.frames_deeper e0.frames, .inr ⟨rfl, rfl⟩, fun b z => absurd z (noA b), e0.bs, e0.bsz, fun b _ _ => noA b, fun b z => absurd z (noA b), e0.funs, e0.frf⟩,
  rfl, e0.bare, Un.kept hk, ⟨_, x.toInCall.ns, fun i y v h1 h2 h3 => ?_⟩, fun y c h => ⟨_, x.cell y c h⟩, e0.hok.fresh (Nat.le_refl _), fun y c h => ?_, fun p hp => absurd (show p ∈ ([] : List (Addr × Obj)) from hp) (by simp), e0.hok.kept hk, ?_⟩
 ·exact name_of_addr x.apart (PySem.mem_of_lookup h1) (PySem.mem_of_lookup h2)
 ·have hy : scope.names.lookup y = some .cell ∨ scope.names.lookup y = some .free := hy
  rcases hy with hy | hy
  ·exact zm1 hy
  ·exact absurd rfl (S.nofree _ (PySem.mem_of_lookup hy))
 ·exact Nat.le_of_lt (x.above y c (PySem.mem_of_lookup h))
 ·have hi : i < vs.length := by
   unfold zgf at h2
   by_cases hi : i < vs.length
   ·exact hi
   ·rw [List.getElem?_append_right (by simpa using hi)] at h2
    rw [List.getElem?_replicate] at h2
    split at h2 <;> cases h2
  have ha : vs[i]? = some v := by
   unfold zgf at h2
   rw [List.getElem?_append_left (by simpa using hi), List.getElem?_map] at h2
   cases e : vs[i]? with
   | none => rw [e] at h2; cases h2
   | some a => rw [e] at h2; cases h2; rfl
  obtain ⟨u, hu, rv⟩ := r.get ha
  have hp : ps[i]? = some y := by
   rw [← S.pre, List.getElem?_take_of_lt (by omega)]; exact h1
  have ndP : ps.Nodup := by rw [← S.pre]; exact S.nd.sublist (List.take_sublist _ _)
  refine ⟨u, rv, ?_⟩
  rcases S.par y (List.mem_of_getElem? hp) with k | k
  ·exact .inl ⟨k, zjw ndP hp hu k⟩
  ·obtain ⟨c, e⟩ := zm1 (n := s.heap.objs.size + 1) k
   refine .inr ⟨.inl k, c, e, ?_⟩
   have q := x.cell y c e
   rw [zj7 ndP hp hu (by show scope.names.lookup y ≠ _; rw [k]; decide)] at q
   exact q
 ·exact e0.hok.fresh (Nat.le_of_lt (x.above y c (PySem.mem_of_lookup h)))
 ·unfold zgf
  show _ = N.length
  rw [List.length_append, List.length_map, List.length_replicate]
  omega
theorem zrd {CX : CXT} {P : Program} {w : World} {K : PySem.W.Frag} {mg : Str → Option Value} {base : Heap} {k : Nat} {f : Addr} {name qual : Str} {params : Arguments} {body : List Stmt} {scope : Scope} {dV kV doc pm cdv ct oc : Value} {an od : Option Addr}
  {osl : Array (Option Value)} {N ps : List Str} {sp : Sp} (lk : K.lookup f = some ⟨oc, od, .func (PySem.W.fnOf name qual params body scope dV kV doc pm an cdv ct), osl⟩) (hcd : PySem.W.codeIn K cdv qual = true) (S : zay N ps scope)
  (len : ∀ vs H Q E, sp vs H Q E → vs.length = ps.length)
  (hbody : ∀ (A : Around) (outer : List Env) (s : Shared) (H : Hp) (vs : List V) (Q : VK) (E : XK), Room k (A.deeper (envOfC qual scope s.heap.objs.size f cdv)) → sp vs H Q E →
   ∃ t, PSs (zd5 CX P w K mg base N qual scope f cdv A outer s H E) body t ∧ t { nx := fun _ H' => Q .non H', rt := Q } (zgf N vs) H) :
  zbi P w K mg base CX (k + 1) f (PySem.W.fnOf name qual params body scope dV kV doc pm an cdv ct) ps sp := by
 refine ⟨len, fun A outer s H args us vs Q E hr e0 hb r hsp => ?_⟩
 have hl := len _ _ _ _ hsp
 have KX : K.In s.heap := e0.mod.kin.keeps fun b o e => (e0.bs b o e).1
 have lim : s.heap.NoLimit := e0.mod.nolimit.keeps fun b o e => (e0.bs b o e).1
 have hkind : ∀ y ∈ ps.zip us, scope.names.lookup y.1 = some .local ∨ (scope.names.lookup y.1 = some .cell ∧ ((cellsFrom (s.heap.objs.size + 1) scope.names []).lookup y.1).isSome = true) := fun ⟨n, v⟩ hy => by
  rcases S.par n (List.of_mem_zip hy).1 with q | q
  ·exact .inl q
  ·exact .inr ⟨q, PySem.W.cellsFrom_some _ _ _ (.inl q)⟩
 refine codeAny_call_function hr.depth (KX _ _ lk) rfl S.co S.gen rfl (PySem.W.codeRec_of KX hcd) (hb _ _ _ _ ?_)
 refine wpAny_newFunctionEnv_cells S.kind hkind fun env he s1 x => ?_
 subst he
 refine ⟨lim.keeps x.toInCall.keep, codeAny_func ?_⟩
 obtain ⟨t, ht, hq⟩ := hbody A outer s H vs Q E (hr.deeper _) hsp
 have I : Inv (zd5 CX P w K mg base N qual scope f cdv A outer s H E) [] (zgf N vs) H s1 := zpd S hr.hd e0 hl r x
 refine wpAny_mono (ht [] s1 (zgf N vs) H _ I hq) (fun fl s' hs => ?_) fun e s' hs => hs
 have fin : ∀ {σ' : St} {H' : Hp} {v : V} {u : Value}, Inv (zd5 CX P w K mg base N qual scope f cdv A outer s H E) [] σ' H' s' → RelV v u → Q v H' → CE outer P w H s Q u s' :=
  fun {σ' H' v u} J rv q => ⟨v, H', J.os, J.bare, J.base, J.hok, rv, q⟩
 cases fl with
 | ret u =>
  obtain ⟨v, σ', H', J, rv, q⟩ := hs
  exact fin J rv q
 | next =>
  obtain ⟨σ', H', J, q⟩ := hs
  exact fin (v := V.non) (u := Value.none) J rfl q
 | brk =>
  obtain ⟨_, _, _, q⟩ := hs
  exact False.elim q
 | cont =>
  obtain ⟨_, _, _, q⟩ := hs
  exact False.elim q
end L2
namespace L2
open PySem PySem.Spec PyProof.Rows
section
variable {X : Cx} {x : Str} {p pos : Pos} {e : Expr} {es : List Expr} {t : TA} {id T : String} {r : List V → Hp → VK → Prop}
def tCB (r : List V → Hp → VK → Prop) (t : TA) : TE := fun σ H Q => t σ H fun vs H1 => r vs H1 Q
theorem zaw (hc : zdh X (.builtin id) r) (hg : Gl X x) (hm : X.mg x = none) (hv : bootBuiltins x = some (.builtin id)) (ha : PA X (e :: es) t) (hn : x ≠ "__name__" := by decide) (hdb : (x == ("__debug__" : Str)) = false := by decide)
  (he : starEach (e :: es) X.env = (false, eval e X.env) :: starEach es X.env := by rfl) (hpl : (backTo pos (starEach es X.env)).any (·.1) = false := by rfl) : PE X (.Call (.Name x p) (e :: es) [] pos) (tCB r t) := by
 intro pins s σ H Q I h
 refine wpAny_Call_Name_kw (zhb I hg hm hv ?_ hn hdb)
 exact PyProof.Rows.callWith_builtin1 (thn (ha pos pins s σ H _ I h) fun us s1 ⟨vs, H1, I1, r1, q1⟩ => hc pins s1 σ H1 vs us Q I1 r1 q1) he hpl
theorem zbd (hc : zdh X (.type T) r) (hg : Gl X x) (hm : X.mg x = none) (hv : bootBuiltins x = some (.type T)) (ha : PA X (e :: es) t) (hn : x ≠ "__name__" := by decide) (hdb : (x == ("__debug__" : Str)) = false := by decide)
  (he : starEach (e :: es) X.env = (false, eval e X.env) :: starEach es X.env := by rfl) (hpl : (backTo pos (starEach es X.env)).any (·.1) = false := by rfl) : PE X (.Call (.Name x p) (e :: es) [] pos) (tCB r t) := by
 intro pins s σ H Q I h
 refine wpAny_Call_Name_kw (zhb I hg hm hv ?_ hn hdb)
 exact PyProof.Rows.callWith_type1 (thn (ha pos pins s σ H _ I h) fun us s1 ⟨vs, H1, I1, r1, q1⟩ => hc pins s1 σ H1 vs us Q I1 r1 q1) he hpl
end
end L2
namespace HT
open PySem PyProof.Rows
section
open PySem.SeqAt
open PySem.AutoSeq1 (wpAny_loadPart')
open PySem.MeetsSeq PySem.MeetsSeq2 PySem.MeetsSeq3
end
section
variable {prog : Program} {w : World} {A : Around} {E : Value → Shared → Prop} {s : Shared}
theorem cat_tup {t b : Addr} {vs ws : List Value} {Q : Value → Shared → Prop} (ht : IsTup s.heap t vs.toArray) (hb : IsTup s.heap b ws.toArray) (hv : vs ≠ [])
  (h1 : ws = [] → Q (.ref t) s) (h2 : ws ≠ [] → Q (.ref s.heap.objs.size) { s with heap := s.heap.push { cls := .type "tuple", data := .seq (vs ++ ws).toArray } })
  (hsz : vs.length + ws.length ≤ sizeLine) : wpAny (model prog w) A (binaryOp .Add (.ref t) (.ref b)) Q E s := by
 obtain ⟨⟨cls, dd, data, sl⟩, ho, hc, n, hd⟩ := id ht
 obtain ⟨⟨cls2, dd2, data2, sl2⟩, ho2, hc2, n2, hd2⟩ := id hb
 simp only at hc hd hc2 hd2
 subst hc hd hc2 hd2
 have e : vs.toArray ++ ws.toArray = (vs ++ ws).toArray := by simp
 by_cases hw : ws = []
 ·exact concat_meets ⟨_, ho, rfl⟩ ⟨_, ho2, rfl⟩ noFill_tuple_add seq_tuple_add PySem.F.slot_tuple_add PySem.F.entry_tuple_add (PySem.F.args_tuple_add_2 _ _)
   (tuple_addW1 t b vs.toArray ws.toArray n n2 dd dd2 sl sl2 (by simpa using hv) (by simp [hw])) ⟨ho, ho2, h1 hw⟩
 ·refine concat_meets ⟨_, ho, rfl⟩ ⟨_, ho2, rfl⟩ noFill_tuple_add seq_tuple_add PySem.F.slot_tuple_add PySem.F.entry_tuple_add (PySem.F.args_tuple_add_2 _ _)
   (tuple_addW2 t b vs.toArray ws.toArray n n2 dd dd2 sl sl2 (by simpa using hv) (by simpa using hw) (by rw [List.size_toArray, List.size_toArray]; exact hsz)) ⟨ho, ho2, ?_⟩
  rw [e]
  exact h2 hw
def sIx (n d : Nat) : Option Int → Nat
 | none => d
 | some v => if v < 0 then (v + (n : Int)).toNat else min v.toNat n
theorem sIx_none (n d : Nat) : sIx n d none = d := rfl
theorem sIx_nat (n d k : Nat) : sIx n d (some (k : Int)) = min k n := by
 show (if (k : Int) < 0 then ((k : Int) + (n : Int)).toNat else min (k : Int).toNat n) = min k n
 rw [if_neg (by omega), Int.toNat_natCast]
theorem zt7 (n d : Nat) (hd : d ≤ n) (o : Option Int) : sIx n d o ≤ n := by
 cases o with
 | none => exact hd
 | some v =>
  show (if v < 0 then (v + (n : Int)).toNat else min v.toNat n) ≤ n
  by_cases hv : v < 0
  ·rw [if_pos hv]; omega
  ·rw [if_neg hv]; exact Nat.min_le_right _ _
theorem zog (v : Int) (n d : Nat) : (if v < 0 then max (v + (n : Int)) 0 else min v (n : Int)) = ((sIx n d (some v) : Nat) : Int) := by
 show (if v < 0 then max (v + (n : Int)) 0 else min v (n : Int)) = (((if v < 0 then (v + (n : Int)).toNat else min v.toNat n) : Nat) : Int)
 by_cases hv : v < 0
 ·simp only [if_pos hv]; omega
 ·simp only [if_neg hv]; omega
theorem znz (lo hi : Option Int) (n : Nat) : Builtin.Slice.sliceAdjust lo hi 1 (n : Int) = (((sIx n 0 lo : Nat) : Int), ((sIx n n hi : Nat) : Int)) := by
 have h1 : ¬ ((1 : Int) < 0) := by omega
 unfold Builtin.Slice.sliceAdjust
 simp only [h1, if_false]
 refine Prod.ext ?_ ?_
 ·cases lo with
  | none => rfl
  | some v => exact zog v n 0
 ·cases hi with
  | none => rfl
  | some v => exact zog v n n
theorem znr (i j : Nat) : Builtin.Slice.slicePlaces (i : Int) (j : Int) 1 = j - i := by
 unfold Builtin.Slice.slicePlaces
 have h1 : (1 : Int) > 0 := by omega
 simp only [h1, if_true, Int.ediv_one]
 split <;> omega
theorem zh3 {v : Value} {o : Option Int} {Q : Option Int → Shared → Prop} (p : IsPart v o) (h : Q o s) : wpAny (model prog w) A (Builtin.Slice.slicePartIndex v) Q E s := by
 cases p with
 | none => exact slicePart_none h
 | int i t => exact slicePart_int h
theorem zev {sl : Addr} {vl vu : Value} {lo hi : Option Int} {n : Nat} {Q : Int × Int × Nat → Shared → Prop} (hs : s.heap.IsSliceOf sl vl vu .none) (pl : IsPart vl lo) (pu : IsPart vu hi)
  (h : Q (((sIx n 0 lo : Nat) : Int), 1, sIx n n hi - sIx n 0 lo) s) : wpAny (model prog w) A (Builtin.Slice.sliceApplied (.ref sl) (pure (n : Int))) Q E s := by
 obtain ⟨os, hos, hcs, hds⟩ := id hs
 unfold Builtin.Slice.sliceApplied Builtin.Slice.sliceFields
 refine wpAny_bind (wpAny_bind (wpAny_field hos hds (x := vl) rfl (wpAny_bind (wpAny_field hos hds (x := vu) rfl (wpAny_bind (wpAny_field hos hds (x := .none) rfl (wpAny_pure ?_)))))))
 refine wpAny_bind (slicePart_none ?_)
 show wpAny _ _ (if ((1 : Int) == 0) = true then _ else _) _ _ s
 rw [if_neg (by decide)]
 refine wpAny_bind (zh3 pl (wpAny_bind (zh3 pu (wpAny_bind (wpAny_pure ?_)))))
 show wpAny _ _ (match Builtin.Slice.sliceAdjust lo hi 1 (n : Int) with | (lo, hi) => pure (lo, (1 : Int), Builtin.Slice.slicePlaces lo hi 1)) _ _ s
 rw [znz lo hi n]
 show wpAny _ _ (pure (((sIx n 0 lo : Nat) : Int), (1 : Int), Builtin.Slice.slicePlaces ((sIx n 0 lo : Nat) : Int) ((sIx n n hi : Nat) : Int) 1)) _ _ s
 rw [znr]
 exact wpAny_pure h
theorem zqo (xs : Array Value) (i k : Nat) : ((List.range k).filterMap fun (m : Nat) => xs[((i : Int) + (m : Int) * 1).toNat]?).toArray = ((xs.toList.drop i).take k).toArray := by
 have e : (fun (m : Nat) => xs[((i : Int) + (m : Int) * 1).toNat]?) = fun m => xs[i + m]? := by
  funext m
  have : ((i : Int) + (m : Int) * 1).toNat = i + m := by omega
  rw [this]
 rw [e]
 have := pick_run xs i k
 rw [List.filterMap_map] at this
 have e2 : ((fun x => xs[x]?) ∘ fun x => i + x) = fun m => xs[i + m]? := rfl
 rw [e2] at this
 rw [this]
theorem getItem_tuple_cut {t sl : Addr} {items : Array Value} {vl vu : Value} {lo hi : Option Int} {Q : Value → Shared → Prop} (ht : IsTup s.heap t items) (hs : s.heap.IsSliceOf sl vl vu .none) (pl : IsPart vl lo) (pu : IsPart vu hi)
  (hw : ¬ (sIx items.size 0 lo = 0 ∧ sIx items.size items.size hi = items.size))
  (h : Q (.ref s.heap.objs.size) { s with heap := s.heap.push { cls := .type "tuple", data := .seq ((items.toList.drop (sIx items.size 0 lo)).take (sIx items.size items.size hi - sIx items.size 0 lo)).toArray } })
  (hsz : items.size ≤ sizeLine) : wpAny (model prog w) A (getItem (.ref t) (.ref sl)) Q E s := by
 have htake : sizeOk (.seq ((items.toList.drop (sIx items.size 0 lo)).take (sIx items.size items.size hi - sIx items.size 0 lo)).toArray) := by
  show ((items.toList.drop (sIx items.size 0 lo)).take (sIx items.size items.size hi - sIx items.size 0 lo)).toArray.size ≤ sizeLine
  rw [List.size_toArray, List.length_take, List.length_drop, Array.length_toList]
  omega
 have hj : sIx items.size items.size hi ≤ items.size := zt7 _ _ (Nat.le_refl _) hi
 obtain ⟨os, hos, hcs, hds⟩ := id hs
 have hTs : s.TypeIs (.ref sl) "slice" := ⟨os, hos, hcs⟩
 unfold getItem
 try with_reducible refine wpAny_holding ?_
 first | refine wpAny_bind (wpAny_pure ?_) | skip
 refine wpAny_bind (wpAny_sequenceKey ht.typeIs (by decide) ?_)
 refine wpAny_bind (wpAny_callSpecial?_slot (name := Str.ofString "__getitem__") ht.typeIs PyProof.Rows.slot_tuple_getitem
  (wpAny_call_entry PyProof.Rows.slot_tuple_getitem ht.typeIs entry_tuple_getitem ?_ (args_tuple_getitem _ _)))
 show wpAny _ _ (Builtin.Tuple.tupleItemsOf (.ref t) >>= _) _ _ s
 refine wpAny_bind (tupleItemsOf_ ht ?_)
 refine wpAny_bind (wpAny_typeOf hTs ?_)
 rw [if_pos (by decide)]
 refine wpAny_bind (zev hs pl pu ?_)
 have hno : ¬ ((((sIx items.size 0 lo : Nat) : Int) == 0 && (1 : Int) == 1 && (sIx items.size items.size hi - sIx items.size 0 lo) == items.size) = true) := by
  intro q
  rw [Bool.and_eq_true, Bool.and_eq_true] at q
  have q1 : ((sIx items.size 0 lo : Nat) : Int) = 0 := eq_of_beq q.1.1
  have q2 : sIx items.size items.size hi - sIx items.size 0 lo = items.size := eq_of_beq q.2
  exact hw ⟨by omega, by omega⟩
 show wpAny _ _ (if (((sIx items.size 0 lo : Nat) : Int) == 0 && (1 : Int) == 1 && (sIx items.size items.size hi - sIx items.size 0 lo) == items.size) = true then _ else _) _ _ s
 rw [if_neg hno, zqo]
 first
  | exact wpAny_bind (m := Builtin.Tuple.tupleExact _) (wpAny_newObj_type (wpAny_pure ⟨_, rfl, wpAny_pure h⟩) htake)
  | exact wpAny_bind (m := Builtin.Tuple.tupleExact _) (wpAny_newObj_type (wpAny_bind (wpAny_pure (wpAny_pure ⟨_, rfl, wpAny_pure h⟩))) htake)
  | exact wpAny_bind (wpAny_bind (m := Builtin.Tuple.tupleExact _) (wpAny_newObj_type (wpAny_pure (wpAny_pure ⟨_, rfl, wpAny_pure h⟩)) htake))
  | exact wpAny_bind (wpAny_bind (m := Builtin.Tuple.tupleExact _) (wpAny_newObj_type (wpAny_pure ⟨_, rfl, wpAny_pure h⟩) htake))
end
end HT
namespace L2
open PySem PySem.Spec PyProof.Rows
abbrev TO := St → Hp → (Option Int → Hp → Prop) → Prop
def PO (X : Cx) (e : Option Expr) (t : TO) : Prop :=
 ∀ (pins : List (Addr × Obj)) (s : Shared) (σ : St) (H : Hp) (Q : Option Int → Hp → Prop), Inv X pins σ H s → t σ H Q →
  wpAny (model X.prog X.w) X.A (evalPart e X.env) (fun u s' => ∃ o H', Inv X pins σ H' s' ∧ IsPart u o ∧ Q o H') X.xe s
def zsd : TO := fun _ H Q => Q none H
def zvk (t : TE) : TO := fun σ H Q => t σ H fun x H1 => ∃ i, x = .int i ∧ Q (some i) H1
theorem ze3 {ns : List Int} : ∀ {us : List Value}, Vals (ns.map V.int) us → IntsAre us ns := by
 induction ns with
 | nil => intro us r; rw [List.map_nil] at r; cases r; exact .nil
 | cons n ns ih =>
  intro us r
  rw [List.map_cons] at r
  cases r with
  | cons r1 r2 =>
   obtain ⟨t, e⟩ := r1
   subst e
   exact .cons n t (ih r2)
section
variable {X : Cx} {e : Expr} {te : TE} {lo hi : Option Expr} {tl th : TO} {pos p2 : Pos}
theorem zoq : PO X none zsd := by
 intro pins s σ H Q I h
 rw [evalPart_none]
 exact wpAny_pure ⟨none, H, I, .none, h⟩
theorem zoa (h : PE X e te) : PO X (some e) (zvk te) := by
 intro pins s σ H Q I hw
 rw [evalPart_some]
 refine thn (h pins s σ H _ I hw) fun u s1 ⟨x, H1, I1, r1, q1⟩ => ?_
 obtain ⟨i, rfl, q⟩ := q1
 obtain ⟨t, rfl⟩ := r1
 exact ⟨some i, H1, I1, .int i t, q⟩
def SlR (X : Cx) (r : V → Option Int → Option Int → Hp → VK → Prop) : Prop :=
 ∀ (pins : List (Addr × Obj)) (s : Shared) (σ : St) (H : Hp) (x : V) (v vl vu : Value) (lo hi : Option Int) (sl : Addr) (Q : VK), Inv X pins σ H s → RelV x v → s.heap.IsSliceOf sl vl vu .none → IsPart vl lo → IsPart vu hi → r x lo hi H Q →
  ∃ T id, typeLookup (.type T) "__getitem__" = pure (some (.builtin id)) ∧ s.TypeIs v T ∧ wpAny (model X.prog X.w) X.A (getItem v (.ref sl)) (EP X pins σ Q) X.xe s
def tSl (r : V → Option Int → Option Int → Hp → VK → Prop) (te : TE) (tl th : TO) : TE := fun σ H Q => te σ H fun x H1 => tl σ H1 fun l H2 => th σ H2 fun u H3 => r x l u H3 Q
theorem zm3 {r : V → Option Int → Option Int → Hp → VK → Prop} (hr : SlR X r) (he : PE X e te) (hl : PO X lo tl) (hu : PO X hi th) : PE X (.Subscript e (.Slice lo hi none p2) pos) (tSl r te tl th) := by
 intro pins s σ H Q I h
 refine Subscript_ (thn (he pins s σ H _ I h) fun v s1 ⟨x, H1, I1, r1, q1⟩ => ?_)
 refine wpAny_Slice (thn (hl pins s1 σ H1 _ I1 q1) fun vl s2 ⟨l, H2, I2, pl, q2⟩ => thn (hu pins s2 σ H2 _ I2 q2) fun vu s3 ⟨u, H3, I3, pu, q3⟩ => ?_)
 rw [evalPart_none]
 refine wpAny_pure ?_
 have I4 : Inv X pins σ H3 { s3 with heap := s3.heap.push { cls := .type "slice", data := .fields #[vl, vu, .none] } } := I3.kept (t' := s3.toks) fun b ob q => Heap.get?_push_of_some _ q
 obtain ⟨T, id, hT, ht, hg⟩ := hr pins { s3 with heap := s3.heap.push { cls := .type "slice", data := .fields #[vl, vu, .none] } } σ H3 x v vl vu l u s3.heap.objs.size Q I4 r1 (Heap.IsSliceOf.new ..) pl pu q3
 show wpAny (model X.prog X.w) X.A (subscriptTail e (.Slice lo hi none p2) v (.ref s3.heap.objs.size)) (EP X pins σ Q) X.xe { s3 with heap := s3.heap.push { cls := .type "slice", data := .fields #[vl, vu, .none] } }
 exact tail_any (ops := [.ref s3.heap.objs.size, v]) ht hT hg (by with_unfolding_all rfl)
def zji (xs : List V) (lo hi : Option Int) : List V := (xs.drop (HT.sIx xs.length 0 lo)).take (HT.sIx xs.length xs.length hi - HT.sIx xs.length 0 lo)
theorem zlq (xs : List V) (lo hi : Option Int) : (zji xs lo hi).length ≤ xs.length := by
 unfold zji
 rw [List.length_take, List.length_drop]
 omega
def zwk (K : PySem.W.Frag) : V → Option Int → Option Int → Hp → VK → Prop := fun x lo hi H Q => ∃ a xs, x = .ref a ∧ SqT K H a xs ∧
 ¬ (HT.sIx xs.length 0 lo = 0 ∧ HT.sIx xs.length xs.length hi = xs.length) ∧ ∀ p, H p = none → Q (.ref p) (upd H p (.tup (zji xs lo hi)))
theorem ztx : SlR X (zwk X.K) := by
 intro pins s σ H x v vl vu lo hi sl Q I rx hs pl pu h
 obtain ⟨a, xs, rfl, hx, hw, q⟩ := h
 cases rx
 obtain ⟨its, r, ht, hz⟩ := I.tuple hx
 have hlen : its.toArray.size = xs.length := by rw [List.size_toArray]; exact r.length.symm
 refine ⟨"tuple", _, PyProof.Rows.slot_tuple_getitem.lookup, ht.typeIs, ?_⟩
 refine HT.getItem_tuple_cut ht hs pl pu (by rw [hlen]; exact hw) ?_ (by rw [hlen]; exact hz)
 rw [hlen]
 refine ⟨.ref s.heap.objs.size, _, I.laid (t' := s.toks) (o := .tup (zji xs lo hi)) (fun b ob q => Heap.get?_push_of_some _ q) (Nat.le_refl _) ?_, rfl, q _ (I.hok.fresh (Nat.le_refl _))⟩
 exact ⟨Nat.le_trans (zlq xs lo hi) hz, _, (r.drop (HT.sIx xs.length 0 lo)).take (HT.sIx xs.length xs.length hi - HT.sIx xs.length 0 lo), IsTup.new _ _⟩
def zvg (K : PySem.W.Frag) : R2 := fun x y H Q => ∃ a b xs ys, x = .ref a ∧ y = .ref b ∧ SqT K H a xs ∧ SqT K H b ys ∧ xs ≠ [] ∧ xs.length + ys.length ≤ sizeLine ∧
 (ys = [] → Q (.ref a) H) ∧ (ys ≠ [] → ∀ p, H p = none → Q (.ref p) (upd H p (.tup (xs ++ ys))))
theorem Vals.nil_iff {xs : List V} {us : List Value} (r : Vals xs us) : us = [] ↔ xs = [] := by
 cases r with
 | nil => simp
 | cons _ _ => simp
theorem zso : OpR X (binaryOp .Add) (zvg X.K) := by
 intro pins s σ H x y v u Q I rx ry h
 obtain ⟨a, b, xs, ys, rfl, rfl, ha, hb, hx, hz, q1, q2⟩ := h
 cases rx
 cases ry
 obtain ⟨its, r1, p1, _⟩ := I.tuple ha
 obtain ⟨its2, r2, p2, _⟩ := I.tuple hb
 refine HT.cat_tup p1 p2 (fun z => hx (r1.nil_iff.mp z)) (fun z => ⟨.ref a, H, I, rfl, q1 (r2.nil_iff.mp z)⟩) (fun z => ?_) (by rw [← r1.length, ← r2.length]; exact hz)
 refine ⟨.ref s.heap.objs.size, _, I.laid (t' := s.toks) (o := .tup (xs ++ ys)) (fun b ob q => Heap.get?_push_of_some _ q) (Nat.le_refl _) ?_, rfl, q2 (fun w => z (r2.nil_iff.mpr w)) _ (I.hok.fresh (Nat.le_refl _))⟩
 exact ⟨by rw [List.length_append]; exact hz, _, r1.append r2, IsTup.new _ _⟩
end
end L2
namespace L2
open PySem PySem.Spec PyProof.Rows
def ixN (n : Nat) (i : Int) : Option Nat := if 0 ≤ i then (if i < n then some i.toNat else none) else if -(n : Int) ≤ i then some (i + n).toNat else none
def atI {α : Type} (xs : List α) (i : Int) : Option α := (ixN xs.length i).bind fun j => xs[j]?
theorem zn0 {n : Nat} {i : Int} {j : Nat} (h : ixN n i = some j) : seqIndex? i n = some j ∧ j < n ∧ -(n : Int) ≤ i ∧ i < n := by
 unfold ixN at h
 by_cases h0 : 0 ≤ i
 ·rw [if_pos h0] at h
  by_cases h1 : i < n
  ·rw [if_pos h1] at h
   have e : i.toNat = j := Option.some.inj h
   exact ⟨by rw [seqIndex_of h0 h1, e], by omega, by omega, h1⟩
  ·rw [if_neg h1] at h; cases h
 ·rw [if_neg h0] at h
  by_cases h1 : -(n : Int) ≤ i
  ·rw [if_pos h1] at h
   have e : (i + n).toNat = j := Option.some.inj h
   exact ⟨by rw [seqIndex_neg (by omega) h1, e], by omega, h1, by omega⟩
  ·rw [if_neg h1] at h; cases h
theorem zn3 {α : Type} {xs : List α} {i : Int} {v : α} (h : atI xs i = some v) : ∃ j, seqIndex? i xs.length = some j ∧ xs[j]? = some v ∧ j < xs.length ∧ -(xs.length : Int) ≤ i ∧ i < xs.length := by
 unfold atI at h
 cases e : ixN xs.length i with
 | none => rw [e] at h; cases h
 | some j =>
  rw [e] at h
  obtain ⟨h1, h2, h3, h4⟩ := zn0 e
  exact ⟨j, h1, h, h2, h3, h4⟩
theorem zc8 {α : Type} {xs : List α} {j : Nat} {v : α} (h : xs[j]? = some v) : atI xs (j : Int) = some v := by
 have hj : j < xs.length := (List.getElem?_eq_some_iff.mp h).1
 have e : ixN xs.length (j : Int) = some j := by
  unfold ixN
  rw [if_pos (by omega), if_pos (by omega)]; simp
 unfold atI; rw [e]; exact h
def zr9 (b : Expr) : Prop := ∀ o i, subscripted b false o i = operate [o, i] (getItem o i)
def IxR (X : Cx) (r : R2) : Prop :=
 ∀ (value slice : Expr) (pins : List (Addr × Obj)) (s : Shared) (σ : St) (H : Hp) (x y : V) (v u : Value) (Q : VK), Inv X pins σ H s → RelV x v → RelV y u → r x y H Q →
  subscripted slice false v u = operate [v, u] (getItem v u) → wpAny (model X.prog X.w) X.A (subscriptTail value slice v u) (EP X pins σ Q) X.xe s
def MtR (X : Cx) (id : String) (r : V → List V → Hp → VK → Prop) : Prop :=
 ∀ (pins : List (Addr × Obj)) (s : Shared) (σ : St) (H : Hp) (x : V) (xs : List V) (v : Value) (us : List Value) (Q : VK), Inv X pins σ H s → RelV x v → Vals xs us → r x xs H Q →
  wpAny (model X.prog X.w) X.A (call (.builtin id) (v :: us)) (EP X pins σ Q) X.xe s
section
variable {X : Cx} {a b : Expr} {ta tb : TE} {pos : Pos}
theorem zao {r : R2} (hr : IxR X r) (ha : PE X a ta) (hb : PE X b tb) (hs : zr9 b) : PE X (.Subscript a b pos) (tOp r ta tb) := by
 intro pins s σ H Q I h
 exact Subscript_ (zt8 ha hb I h fun v u s2 x y H2 I2 rx ry q => hr a b pins s2 σ H2 x y v u Q I2 rx ry q (hs _ _))
def zvt (K : PySem.W.Frag) : R2 := fun x y H Q => ∃ p xs i v, x = .ref p ∧ y = .int i ∧ SqL K H p xs ∧ atI xs i = some v ∧ Q v H
def zvp (K : PySem.W.Frag) : R2 := fun x y H Q => ∃ p xs i v, x = .ref p ∧ y = .int i ∧ SqT K H p xs ∧ atI xs i = some v ∧ Q v H
theorem zsj : IxR X (zvt X.K) := by
 intro value slice pins s σ H x y v u Q I rx ry h hs
 obtain ⟨p, xs, i, z, rfl, rfl, hq, he, q⟩ := h
 cases rx
 obtain ⟨t, rfl⟩ := ry
 obtain ⟨its, r, pl, hz⟩ := I.list hq
 obtain ⟨j, h1, h2, h3, h4, h5⟩ := zn3 he
 obtain ⟨w, ew, rw'⟩ := r.get h2
 have hl := r.length
 have hn := zhd
 have fin : EP X pins σ Q w s := ⟨z, H, I, rw', q⟩
 by_cases h0 : 0 ≤ i
 ·have hj : i.toNat = j := by
   rw [seqIndex_of h0 h5] at h1
   exact Option.some.inj h1
  exact item_listR pl.isList h0 (by omega) (by rw [hj]; simpa using ew) fin hs
 ·have hj : (i + (its.toArray.size : Int)).toNat = j := by
   rw [seqIndex_neg (by omega) h4] at h1
   rw [List.size_toArray, ← hl]
   exact Option.some.inj h1
  exact subscriptTail_builtinR (x := w) pl.isList.typeIs slot_list_getitem.lookup
   (wpAny_getItem_list_neg (Q := fun r s' => r = w ∧ EP X pins σ Q r s') pl.isList (by omega) (by rw [List.size_toArray] <;> omega) (by omega) (by rw [hj]; simpa using ew) ⟨rfl, fin⟩) hs
theorem zkv : IxR X (zvp X.K) := by
 intro value slice pins s σ H x y v u Q I rx ry h hs
 obtain ⟨p, xs, i, z, rfl, rfl, hq, he, q⟩ := h
 cases rx
 obtain ⟨t, rfl⟩ := ry
 obtain ⟨its, r, pl, hz⟩ := I.tuple hq
 obtain ⟨j, h1, h2, h3, h4, h5⟩ := zn3 he
 obtain ⟨w, ew, rw'⟩ := r.get h2
 have hl := r.length
 have hn := zhd
 have fin : EP X pins σ Q w s := ⟨z, H, I, rw', q⟩
 exact subscriptTail_builtinR (x := w) pl.typeIs slot_tuple_getitem.lookup
  (getItem_tuple (j := j) (Q := fun r s' => r = w ∧ EP X pins σ Q r s') pl (by omega) (by omega) (by rw [List.size_toArray, ← hl]; exact h1) (by simpa using ew) ⟨rfl, fin⟩) hs
theorem zno (its : List Value) (n j : Nat) (u : Value) : Obj.mapSeq (·.setIfInBounds j u) { cls := .type "list", data := .seq its.toArray n } = { cls := .type "list", data := .seq (its.set j u).toArray n } := by
 simp [Obj.mapSeq]
theorem Inv.lst {pins : List (Addr × Obj)} {σ : St} {H : Hp} {s : Shared} {p : Addr} {xs : List V} (I : Inv X pins σ H s) (h : H p = some (.lst xs)) :
  ∃ (its : List Value) (n : Nat), Vals xs its ∧ s.heap.get? p = some { cls := .type "list", data := .seq its.toArray n } ∧ xs.length ≤ sizeLine := by
 obtain ⟨z, its, n, r, e⟩ := I.hok p _ h
 exact ⟨its, n, r, e, z⟩
theorem Inv.lstUpd {pins : List (Addr × Obj)} {σ : St} {H : Hp} {s : Shared} {p : Addr} {xs ys : List V} {its its' : List Value} {n n' : Nat} {f : Obj → Obj} (I : Inv X pins σ H s) (h : H p = some (.lst xs))
  (ho : s.heap.get? p = some { cls := .type "list", data := .seq its.toArray n }) (hf : f { cls := .type "list", data := .seq its.toArray n } = { cls := .type "list", data := .seq its'.toArray n' }) (r : Vals ys its') (hz : ys.length ≤ sizeLine) (t : Nat) :
  Inv X pins σ (upd H p (.lst ys)) { s with heap := s.heap.update p f, toks := t } := by
 have e : (s.heap.update p f).get? p = some { cls := .type "list", data := .seq its'.toArray n' } := by
  rw [Heap.get?_update_self f ho (by rw [hf] <;> rfl), hf]
 refine I.write (x := p) (e := p) (by rw [h]; trivial) (.inl rfl) (fun b u hb q => (Heap.get?_update_other _ _ (Ne.symm hb)).trans q) ⟨_, e⟩ ?_
 exact ⟨hz, its', n', r, e⟩
def zu2 : V → V → V → Hp → (Hp → Prop) → Prop := fun o i v H Q => ∃ p xs k j, o = .ref p ∧ i = .int k ∧ H p = some (.lst xs) ∧ ixN xs.length k = some j ∧ Q (upd H p (.lst (xs.set j v)))
theorem zq1 : zu8 X zu2 := by
 intro pins s σ H o i v ov iv u Q I ro ri rv h
 obtain ⟨p, xs, k, j, rfl, rfl, hp, hj, q⟩ := h
 cases ro
 obtain ⟨t, rfl⟩ := ri
 obtain ⟨its, n, r, ho, hz⟩ := I.lst hp
 obtain ⟨h1, h2, h3, h4⟩ := zn0 hj
 have hl := r.length
 have hn := zhd
 have I' : Inv X pins σ (upd H p (.lst (xs.set j v))) { s with heap := s.heap.update p (Obj.mapSeq (·.setIfInBounds j u)) } :=
  I.lstUpd hp ho (zno its n j u) (r.set rv j) (by rw [List.length_set]; exact hz) s.toks
 by_cases h0 : 0 ≤ k
 ·have hk : k.toNat = j := by
   rw [seqIndex_of h0 h4] at h1
   exact Option.some.inj h1
  exact PySem.W.ki_setAt ho h0 (by omega) (by rw [List.size_toArray, ← hl]; exact h4) (by rw [hk]; exact ⟨_, I', q⟩)
 ·have hk : (k + (its.toArray.size : Int)).toNat = j := by
   rw [seqIndex_neg (by omega) h3] at h1
   rw [List.size_toArray, ← hl]
   exact Option.some.inj h1
  exact PySem.W.ki_setBack ho (by omega) (by rw [List.size_toArray, ← hl]; exact h3) (by omega) (by rw [hk]; exact ⟨_, I', q⟩)
def zfg : V → Bool
 | .non => true
 | .bl _ => true
 | .int _ => true
 | .str _ => true
 | _ => false
def eqV : V → V → Bool
 | .non, .non => true
 | .bl a, .bl b => a == b
 | .bl a, .int b => (if a then 1 else 0) == b
 | .int a, .bl b => a == (if b then 1 else 0)
 | .int a, .int b => a == b
 | .str a, .str b => a == b
 | _, _ => false
theorem zt9 {A : Around} {s : Shared} {y x : V} {u v : Value} (ry : RelV y u) (rx : RelV x v) (fy : zfg y = true) (fx : zfg x = true) : SeqAt.EqAt A s u v (eqV y x) := by
 cases y with
 | non =>
  cases ry
  cases x with
  | non => cases rx; exact SeqAt.EqAt.same _
  | bl b => cases rx; exact SeqAt.EqAt.none_bool b
  | int b => obtain ⟨t, rfl⟩ := rx; exact SeqAt.EqAt.none_int b t
  | str b => obtain ⟨t, rfl⟩ := rx; exact SeqAt.EqAt.none_str b t
  | _ => exact absurd (show false = true from fx) Bool.false_ne_true
 | bl a =>
  cases ry
  cases x with
  | non => cases rx; exact SeqAt.EqAt.bool_none a
  | bl b => cases rx; exact SeqAt.EqAt.bool_bool a b
  | int b => obtain ⟨t, rfl⟩ := rx; exact SeqAt.EqAt.bool_int a b t
  | str b => obtain ⟨t, rfl⟩ := rx; exact SeqAt.EqAt.bool_str a b t
  | _ => exact absurd (show false = true from fx) Bool.false_ne_true
 | int a =>
  obtain ⟨t', rfl⟩ := ry
  cases x with
  | non => cases rx; exact SeqAt.EqAt.int_none a t'
  | bl b => cases rx; exact SeqAt.EqAt.int_bool a t' b
  | int b => obtain ⟨t, rfl⟩ := rx; exact SeqAt.EqAt.int_int a t' b t
  | str b => obtain ⟨t, rfl⟩ := rx; exact SeqAt.EqAt.int_str a t' b t
  | _ => exact absurd (show false = true from fx) Bool.false_ne_true
 | str a =>
  obtain ⟨t', rfl⟩ := ry
  cases x with
  | non => cases rx; exact SeqAt.EqAt.str_none a t'
  | bl b => cases rx; exact SeqAt.EqAt.str_bool a t' b
  | int b => obtain ⟨t, rfl⟩ := rx; exact SeqAt.EqAt.str_int a t' b t
  | str b => obtain ⟨t, rfl⟩ := rx; exact SeqAt.EqAt.str_str a t' b t
  | _ => exact absurd (show false = true from fx) Bool.false_ne_true
 | _ => exact absurd (show false = true from fy) Bool.false_ne_true
def eqU (x : V) (u : Value) : Bool := match u with
 | .none => eqV .non x
 | .bool b => eqV (.bl b) x
 | .int i _ => eqV (.int i) x
 | .str z _ => eqV (.str z) x
 | _ => false
theorem znw {x y : V} {u : Value} (r : RelV y u) (f : zfg y = true) : eqU x u = eqV y x := by
 cases y with
 | non => cases r; rfl
 | bl b => cases r; rfl
 | int i => obtain ⟨t, rfl⟩ := r; rfl
 | str z => obtain ⟨t, rfl⟩ := r; rfl
 | _ => exact absurd (show false = true from f) Bool.false_ne_true
theorem zkr {x : V} : ∀ {xs : List V} {us : List Value}, Vals xs us → xs.all zfg = true → us.any (eqU x) = xs.any fun y => eqV y x
 | _, _, .nil, _ => rfl
 | y :: xs, u :: us, .cons r t, f => by
  rw [List.all_cons, Bool.and_eq_true] at f
  rw [List.any_cons, List.any_cons, znw r f.1, zkr t f.2]
theorem zgs {A : Around} {s : Shared} {x : V} {v : Value} (rx : RelV x v) (fx : zfg x = true) : ∀ {xs : List V} {us : List Value}, Vals xs us → xs.all zfg = true → ∀ u ∈ us, SeqAt.EqAt A s u v (eqU x u)
 | _, _, .nil, _ => fun u hu => by cases hu
 | y :: xs, u :: us, .cons r t, f => fun u' hu => by
  rw [List.all_cons, Bool.and_eq_true] at f
  rcases List.mem_cons.mp hu with rfl | hu
  ·rw [znw r f.1]; exact zt9 r rx f.1 fx
  ·exact zgs rx fx t f.2 u' hu
def inV (x : V) (xs : List V) : Bool := xs.any fun y => eqV y x
def rIn (K : PySem.W.Frag) (neg : Bool) : R2 := fun x y H Q => ∃ p xs, y = .ref p ∧ (SqL K H p xs ∨ SqT K H p xs) ∧ zfg x = true ∧ xs.all zfg = true ∧ Q (.bl (if neg then !inV x xs else inV x xs)) H
theorem zpy : OpR X (compareOp .In) (rIn X.K false) := by
 intro pins s σ H x y v u Q I rx ry h
 obtain ⟨p, xs, rfl, hq, fx, fs, q⟩ := h
 cases ry
 rcases hq with hq | hq
 ·obtain ⟨its, r, pl, hz⟩ := I.list hq
  refine SeqAt.in_listAt (eqU x) pl.isList (fun w hw => zgs rx fx r fs w (by simpa using hw)) ⟨.bl _, H, I, rfl, ?_⟩
  rw [show its.toArray.any (eqU x) = its.any (eqU x) by simp, zkr r fs]
  exact q
 ·obtain ⟨its, r, pl, hz⟩ := I.tuple hq
  refine SeqAt.in_tupleAt (eqU x) pl (fun w hw => zgs rx fx r fs w (by simpa using hw)) ⟨.bl _, H, I, rfl, ?_⟩
  rw [show its.toArray.any (eqU x) = its.any (eqU x) by simp, zkr r fs]
  exact q
theorem zki : zdh X (.builtin "len") (fun xs H Q => ∃ p ys, xs = [.ref p] ∧ (SqL X.K H p ys ∨ SqT X.K H p ys) ∧ Q (.int ys.length) H) := by
 intro pins s σ H xs us Q I r h
 obtain ⟨p, ys, rfl, hq, q⟩ := h
 obtain ⟨u, rfl, rx⟩ := zen r
 cases rx
 have hn := zhd
 rcases hq with hq | hq
 ·obtain ⟨its, r', pl, hz⟩ := I.list hq
  have hlen := r'.length
  exact Calls.call_len_list pl.isList (by simp only [List.size_toArray] <;> omega) ⟨.int ys.length, H, I.tok _, ⟨s.toks + 1, by rw [List.size_toArray, hlen]⟩, q⟩
 ·obtain ⟨its, r', pl, hz⟩ := I.tuple hq
  have hlen := r'.length
  exact len_tuple pl (by simp only [List.size_toArray] <;> omega) ⟨.int ys.length, H, I.tok _, ⟨s.toks + 1, by rw [List.size_toArray, hlen]⟩, q⟩
theorem zdk : zdh X (.type "list") (fun xs H Q => ∃ p ys, xs = [.ref p] ∧ (SqL X.K H p ys ∨ SqT X.K H p ys) ∧ ∀ l, H l = none → Q (.ref l) (upd H l (.lst ys))) := by
 intro pins s σ H xs us Q I r h
 obtain ⟨p, ys, rfl, hq, q⟩ := h
 obtain ⟨u, rfl, rx⟩ := zen r
 cases rx
 have fin : ∀ (its : List Value), Vals ys its → ys.length ≤ sizeLine → ∀ (h' : Heap) (c' : Nat), (∀ b o', s.heap.get? b = some o' → h'.get? b = some o') →
   h'.get? s.heap.objs.size = some { cls := .type "list", dict := none, data := .seq its.toArray c', slots := #[] } → EP X pins σ Q (.ref s.heap.objs.size) { s with heap := h' } := fun its r' hz h' c' kp e =>
  ⟨.ref s.heap.objs.size, _, I.laid (t' := s.toks) kp (Nat.le_refl _) (show ObjOk X.prog X.w _ h' _ (.lst ys) from ⟨hz, its, c', r', e⟩), rfl, q _ (I.hok.fresh (Nat.le_refl _))⟩
 rcases hq with hq | hq
 ·obtain ⟨its, r', pl, hz⟩ := I.list hq
  have hlen := r'.length
  obtain ⟨o, ho, hc, n, hd⟩ := pl.isList
  exact call_list_seq p (.inl rfl) ho hc hd (fun h' c' kp e => fin its r' hz h' c' kp e) (by simp only [List.size_toArray] <;> omega)
 ·obtain ⟨its, r', pl, hz⟩ := I.tuple hq
  have hlen := r'.length
  obtain ⟨o, ho, hc, n, hd⟩ := pl
  exact call_list_seq p (.inr rfl) ho hc hd (fun h' c' kp e => fin its r' hz h' c' kp e) (by simp only [List.size_toArray] <;> omega)
theorem zb1 : zdh X (.type "tuple") (fun xs H Q => ∃ p ys, xs = [.ref p] ∧ ((SqL X.K H p ys ∧ ∀ l, H l = none → Q (.ref l) (upd H l (.tup ys))) ∨ (SqT X.K H p ys ∧ Q (.ref p) H))) := by
 intro pins s σ H xs us Q I r h
 obtain ⟨p, ys, rfl, h⟩ := h
 obtain ⟨u, rfl, rx⟩ := zen r
 cases rx
 rcases h with ⟨hq, q⟩ | ⟨hq, q⟩
 ·obtain ⟨its, r', pl, hz⟩ := I.list hq
  have hlen := r'.length
  refine call_tuple_list pl.isList (fun h' kp => ?_) (by simp only [List.size_toArray] <;> omega)
  have I1 : Inv X pins σ H { s with heap := h' } := I.kept (t' := s.toks) kp
  have I2 : Inv X pins σ (upd H h'.objs.size (.tup ys)) { s with heap := h'.push { cls := .type "tuple", data := .seq its.toArray } } :=
   I1.laid (t' := s.toks) (fun b o e => Heap.get?_push_of_some _ e) (Nat.le_refl _) (show ObjOk X.prog X.w _ _ _ (.tup ys) from ⟨hz, its, r', IsTup.new _ _⟩)
  exact ⟨.ref h'.objs.size, _, I2, rfl, q _ (I1.hok.fresh (Nat.le_refl _))⟩
 ·obtain ⟨its, r', pl, hz⟩ := I.tuple hq
  exact call_tuple_same pl ⟨.ref p, H, I, rfl, q⟩
def tyV (K : PySem.W.Frag) (T : String) (x : V) (H : Hp) : Prop := match x with
 | .str _ => T = "str"
 | .int _ => T = "int"
 | .ref p => (T = "list" ∧ ∃ xs, SqL K H p xs) ∨ (T = "tuple" ∧ ∃ o, K.lookup p = some o ∧ o.cls = .type "tuple" ∧ o.dict = none) ∨
   (T = "dict" ∧ ((∃ kvs, H p = some (.dK kvs)) ∨ ∃ kvs, H p = some (.dT kvs))) ∨ (T = "set" ∧ ∃ S n, H p = some (.set S n))
 | _ => False
theorem zuo {pins : List (Addr × Obj)} {σ : St} {H : Hp} {s : Shared} {T : String} {x : V} {v : Value} (I : Inv X pins σ H s) (r : RelV x v) (ty : tyV X.K T x H) :
  s.TypeIs v T ∧ ∀ a, v = .ref a → ∃ ob, s.heap.get? a = some ob ∧ ob.dict = none := by
 cases x with
 | str z =>
  obtain ⟨t, rfl⟩ := r
  cases (show T = "str" from ty)
  exact ⟨typeIs_str s z t, fun _ e => nomatch e⟩
 | int i =>
  obtain ⟨t, rfl⟩ := r
  cases (show T = "int" from ty)
  exact ⟨typeIs_int s i t, fun _ e => nomatch e⟩
 | ref p =>
  cases r
  rcases ty with ⟨rfl, xs, hq⟩ | ⟨rfl, o, hk, hc, hd⟩ | ⟨rfl, hk⟩ | ⟨rfl, S, n, hk⟩
  ·obtain ⟨its, _, pl, _⟩ := I.list hq
   refine ⟨pl.isList.typeIs, fun a e => ?_⟩
   cases e
   obtain ⟨o, n, e, c, hd, _⟩ := pl
   exact ⟨o, e, hd⟩
  ·refine ⟨⟨o, I.kIn p o hk, hc⟩, fun a e => ?_⟩
   cases e
   exact ⟨o, I.kIn _ o hk, hd⟩
  ·have z : ∃ o, s.heap.get? p = some o ∧ o.ExactDict := by
    rcases hk with ⟨kvs, hk⟩ | ⟨kvs, hk⟩
    ·obtain ⟨_, _, _, _, o, _, _, e, ex, _⟩ := I.hok p _ hk
     exact ⟨o, e, ex⟩
    ·obtain ⟨_, _, _, _, o, _, _, e, ex, _⟩ := I.hok p _ hk
     exact ⟨o, e, ex⟩
   obtain ⟨o, e, ex⟩ := z
   refine ⟨⟨o, e, ex.1⟩, fun a e2 => ?_⟩
   cases e2
   exact ⟨o, e, ex.2.1⟩
  ·obtain ⟨o, _, _, _, e, ex, _⟩ := I.hok p _ hk
   refine ⟨⟨o, e, ex.1⟩, fun a e2 => ?_⟩
   cases e2
   exact ⟨o, e, ex.2.1⟩
 | _ => exact False.elim ty
def tBM (K : PySem.W.Frag) (T : String) (r : V → List V → Hp → VK → Prop) (to : TE) (t : TA) : TE := fun σ H Q => to σ H fun x H1 => tyV K T x H1 ∧ t σ H1 fun xs H2 => r x xs H2 Q
variable {o e : Expr} {es : List Expr} {to : TE} {t : TA} {name : Str} {apos cpos : Pos} {T id : String} {r : V → List V → Hp → VK → Prop}
theorem zv0 (pa : PlainAttrs T) (slot : Slot T name id) (hty : typeOf (.builtin id) = pure (.type "method_descriptor")) (hm : MtR X id r) (ho : PE X o to) (ha : PA X (e :: es) t)
  (hbase : attributeBase o name X.env (eval o X.env) = eval o X.env := by rfl)
  (hfew : ((backTo cpos (starEach (e :: es) X.env)).all (fun x => !x.1) && (backToKw cpos (keywordEach [] X.env)).all (fun x => x.1.isSome)
   && decide ((e :: es).length + ([] : List Keyword).length + (if ([] : List Keyword).isEmpty then 0 else 1) < 30)) = true := by rfl)
  (hline : (apos.endLine == cpos.line) = true := by rfl) (hs : starEach (e :: es) X.env = (false, eval e X.env) :: starEach es X.env := by rfl) (hplain : (backTo cpos (starEach es X.env)).any (·.1) = false := by rfl) :
  PE X (.Call (.Attribute o name apos) (e :: es) [] cpos) (tBM X.K T r to t) := by
 intro pins s σ H Q I h
 refine wpAny_Call_method_late hbase hfew hline rfl (thn (ho pins s σ H _ I h) fun v s1 ⟨x, H1, I1, r1, ty, q1⟩ => ?_)
 obtain ⟨h1, h2⟩ := zuo I1 r1 ty
 refine ⟨T, id, pa, slot, hty, h1, h2, ?_⟩
 have hA := ha cpos pins s1 σ H1 _ I1 q1
 rw [hs] at hA ⊢
 refine Calls.callWith_builtin (by show (false || (backTo cpos (starEach es X.env)).any (·.1)) = false; rw [hplain] <;> rfl) (Calls.evalArgs_plain ?_)
 exact thn hA fun us s2 ⟨vs, H2, I2, r2, q2⟩ => hm pins s2 σ H2 x vs v us Q I2 r1 r2 q2
end
end L2
namespace L2
open PySem PySem.Spec PyProof.Rows
def MtM (X : Cx) (id : String) (r : V → List V → Hp → VK → Prop) : Prop :=
 ∀ (pins : List (Addr × Obj)) (s : Shared) (σ : St) (H : Hp) (x : V) (xs : List V) (v : Value) (us : List Value) (Q : VK), Inv X pins σ H s → RelV x v → Vals xs us → r x xs H Q →
  wpAny (model X.prog X.w) X.A (call (.builtin id) (v :: us)) (EP X pins σ Q) X.xe s
theorem Vals.one : ∀ {x : V} {us : List Value}, Vals [x] us → ∃ u, us = [u] ∧ RelV x u
 | _, _, .cons r .nil => ⟨_, rfl, r⟩
section
variable {X : Cx} {pins : List (Addr × Obj)} {σ : St} {H : Hp} {s : Shared} {l b : Addr} {xs ys zs : List V}
theorem Inv.lset {its its' : List Value} {n : Nat} {f : Array Value → Array Value} {t' : Nat} (I : Inv X pins σ H s) (hH : H l = some (.lst xs))
  (e : s.heap.get? l = some { cls := .type "list", data := .seq its.toArray n }) (hf : f its.toArray = its'.toArray) (hv : Vals ys its') (hz : ys.length ≤ sizeLine) :
  Inv X pins σ (upd H l (.lst ys)) { s with heap := s.heap.update l (Obj.mapSeq f), toks := t' } := by
 have q := PySem.IsL.update e f
 rw [hf] at q
 refine I.write (x := l) (e := l) (by rw [hH]; exact trivial) (.inl rfl) (fun b' u hb hu => (Heap.get?_update_other s.heap (Obj.mapSeq f) (Ne.symm hb)).trans hu) ⟨_, q⟩ ?_
 exact ⟨hz, its', _, hv, q⟩
theorem Inv.lnew {its : List Value} {t' : Nat} (I : Inv X pins σ H s) (hv : Vals ys its) (hz : ys.length ≤ sizeLine) :
  Inv X pins σ (upd H s.heap.objs.size (.lst ys)) { s with heap := s.heap.push { cls := .type "list", data := .seq its.toArray }, toks := t' } :=
 I.laid (fun _ _ q => Heap.get?_push_of_some _ q) (Nat.le_refl _) ⟨hz, its, 0, hv, Heap.get?_push_size _ rfl⟩
theorem Inv.fresh (I : Inv X pins σ H s) : H s.heap.objs.size = none := I.hok.fresh (Nat.le_refl _)
theorem Inv.lstM (I : Inv X pins σ H s) (hH : H l = some (.lst xs)) : xs.length ≤ sizeLine ∧ ∃ (its : List Value) (n : Nat), Vals xs its ∧ xs.length = its.length ∧ s.heap.get? l = some { cls := .type "list", data := .seq its.toArray n } := by
 obtain ⟨z, its, n, r, e⟩ := I.hok l _ hH
 exact ⟨z, its, n, r, r.length, e⟩
end
section
variable {X : Cx}
def zss : V → List V → Hp → VK → Prop := fun x vs H Q => ∃ l xs y, x = .ref l ∧ vs = [y] ∧ H l = some (.lst xs) ∧ xs.length < sizeLine ∧ Q .non (upd H l (.lst (xs ++ [y])))
theorem zcy : MtM X "list.append" zss := by
 intro pins s σ H x vs v us Q I rx rv h
 obtain ⟨l, xs, y, rfl, rfl, hH, hz, q⟩ := h
 cases rx
 obtain ⟨u, rfl, ru⟩ := rv.one
 obtain ⟨z, its, n, r, hl, e⟩ := I.lstM hH
 refine call_meets F.slot_list_append ⟨_, e, rfl⟩ F.entry_list_append (F.args_list_append_2 _ _) (PySem.list_append l its.toArray n u (by rw [List.size_toArray]; omega)) ⟨e, ?_⟩
 refine ⟨.non, _, I.lset (its' := its ++ [u]) hH e (by simp) (r.append (.cons ru .nil)) ?_, rfl, q⟩
 rw [List.length_append, List.length_singleton]
 omega
def zwd : R2 := fun x y H Q => ∃ l b xs zs, x = .ref l ∧ y = .ref b ∧ H l = some (.lst xs) ∧ H b = some (.lst zs) ∧ xs.length + zs.length ≤ sizeLine ∧ ∀ p, H p = none → Q (.ref p) (upd H p (.lst (xs ++ zs)))
theorem zkk : OpR X (binaryOp .Add) zwd := by
 intro pins s σ H x y v u Q I rx ry h
 obtain ⟨l, b, xs, zs, rfl, rfl, hH, hB, hz, q⟩ := h
 cases rx
 cases ry
 obtain ⟨z, its, n, r, hl, e⟩ := I.lstM hH
 obtain ⟨z2, its2, n2, r2, hl2, e2⟩ := I.lstM hB
 refine PySem.P.add_list e e2 ?_ (by rw [List.size_toArray, List.size_toArray]; omega)
 have ea : its.toArray ++ its2.toArray = (its ++ its2).toArray := by simp
 rw [ea]
 exact ⟨.ref _, _, I.lnew (t' := s.toks) (r.append r2) (by rw [List.length_append]; omega), rfl, q _ I.fresh⟩
end
section
variable {prog : Program} {w : World} {A : Around} {E : Value → Shared → Prop} {s : Shared}
set_option maxRecDepth 100000 in
end
section
variable {X : Cx}
end
end L2
namespace Att
open PySem PySem.W PySem.Calls PyProof.Rows
theorem zhu {P : Params} {h : Heap} : ∀ (ns : List Int) (vs : List Value), WellAll P h vs (ns.map WData.int) → IntsAre vs ns := by
 intro ns
 induction ns with
 | nil =>
  intro vs w
  rw [List.map_nil] at w
  cases w
  exact .nil
 | cons n ns ih =>
  intro vs w
  rw [List.map_cons] at w
  cases w with
  | cons a b =>
   cases a
   exact .cons _ _ (ih _ b)
theorem zp3 {l : OpenLaw} {n : Nat} (hn : l.most = some n) {P : Params} {h : Heap} {args : List WData} {vals : List Value}
  (hpre : l.row.toRowW.claim.pre args = true) (hwl : WellAll P h vals args) :
  ∃ a vs ns, vals = [Value.ref a] ∧ args = [WData.list (ns.map WData.int)] ∧ h.get? a = some { cls := .type "list", data := .seq vs.toArray } ∧ IntsAre vs ns ∧ ns.length ≤ n := by
 have hsh : WShape.hasAll [] args [.list .int] = true := (pre_splitW hpre).1
 have hc : l.pre.holds [] { args := args } = true := (pre_splitW hpre).2
 obtain ⟨d, r, rfl, h1, h2⟩ := hasAllW_cons hsh
 obtain rfl := hasAllW_nil h2
 obtain ⟨xs, rfl, h3⟩ := hasW_list h1
 obtain ⟨ns, rfl⟩ := items_int h3
 have hlen : ns.length ≤ n := by
  unfold OpenLaw.pre at hc
  have h4 : (WTm.not (.lt (.lit (.int (n : Int))) (.len (.arg 0)))).holds [] { args := [.list (ns.map .int)] } = true := by
   have h4 := (holds_andW hc).1
   rw [hn] at h4
   exact h4
  have h5 := condW_of h4 (w_not (w_lt w_lit (w_len_list (w_arg rfl))))
  rw [List.length_map] at h5
  refine Nat.le_of_not_lt fun q => ?_
  have q' : (n : Int) < ((ns.length : Nat) : Int) := by omega
  first
   | (rw [decide_eq_true q'] at h5; exact absurd h5 (by decide))
   | (simp at h5; omega)
 cases hwl with
 | cons w1 w2 =>
  cases w2
  cases w1 with
  | list ho hall => exact ⟨_, _, ns, rfl, rfl, ho, zhu ns _ hall, hlen⟩
theorem zps (l : OpenLaw) (args : List WData) : l.row.toRowW.claim.post args (.bool true) args = true :=
 postW_of (r := l.row.toRowW) (X := (true == true))
  (show WShape.has [] (.bool true) .bool = true by first | rfl | decide | simp [WShape.has, WShape.arms, WShape.armsAll])
  (show (WTm.eq .res (.lit (.bool true))).value [] { args := args, res := some (.bool true), after := args } = some (.bool (true == true)) from w_eq_bool (w_res rfl) w_lit) rfl
theorem attach_call {l : OpenLaw} {n : Nat} {q : Program} {loose : List Str} {XP : (Str → Option Value) → Heap → Prop} {YP : World → Heap → Prop} {d : DefRec}
  (hn : l.most = some n) (hdf : d.params.defaults = [])
  (call : ∀ (w : World) (s₀ s₁ : Shared) (mg mb : Str → Option Value) (fa : Addr) (o : Obj) (pm cd doc : Value) (a : Addr) (vs : List Value) (ns : List Int),
   Ground q loose [] XP w s₀ mg mb s₁.heap → YP w s₁.heap →
   s₁.heap.get? fa = some o → o.data = .func (docDef d.name d.params d.body d.scope pm cd doc) → s₁.heap.CodeRec cd d.name → mg d.name = some (.ref fa) →
   s₁.heap.get? a = some { cls := .type "list", data := .seq vs.toArray } → IntsAre vs ns → ns.length ≤ n → s₁.gens = #[] →
   codeAny (model l.prog w) callerA (.call (.ref fa) ⟨[.ref a], []⟩) (fun r s' => r = .ok (.ret (.bool true)) ∧ OldK s₁.heap s'.heap ∧ s'.os = s₁.os ∧ AllBare s'.gens) s₁) :
  WalkO q loose XP YP l.row.toRowW d [] (fun f vs => PySem.call f vs) := by
 intro w s₀ s₁ mg mb G Y fa o pm cd doc dV kV ho hd hcd hD hmg hg args vals as hpre hlay hrd hwl hlo
 obtain rfl : dV = .none := Dflts.none hD hdf
 obtain rfl : kV = .none := Dflts.noKw hD
 obtain ⟨a, vs, ns, rfl, rfl, hobj, hints, hlen⟩ := zp3 hn hpre hwl
 refine enter_call (codeAny_mono (call w s₀ s₁ mg mb fa o pm cd doc a vs ns G Y ho (fd_plain hd) hcd hmg hobj hints hlen hg) fun r s' hq => ?_)
 obtain ⟨rfl, h2, h3, h4⟩ := hq
 exact ⟨.inl ⟨.bool true, .bool true, [], rfl, fun _ => rfl, .bool true, zps l _, fun _ => ⟨List.Pairwise.nil, fun _ hm => (nomatch hm)⟩⟩, h2, h3, h4⟩
section
variable {prog : Program} {w : World} {A : Around} {E : Value → Shared → Prop} {s : Shared} {K : Frag}
end
end Att
namespace L2
open PySem PySem.Spec PyProof.Rows
theorem zha : ∀ {vs : List Value} {ns : List Int}, IntsAre vs ns → Vals (ns.map V.int) vs
 | _, _, .nil => .nil
 | _, _, .cons n t h => .cons ⟨t, rfl⟩ (zha h)
end L2
namespace L2
open PySem PySem.Spec PyProof.Rows
end L2
namespace L2
open PySem PySem.Spec PyProof.Rows
def zal (s : Stmt) : Arguments := match s with
 | .FunctionDef _ a _ _ _ _ _ _ _ _ => a
 | _ => { posonlyargs := [], args := [], vararg := none, kwonlyargs := [], kw_defaults := [], kwarg := none, defaults := [] }
def zai (s : Stmt) : List Stmt := match s with
 | .FunctionDef _ _ b _ _ _ _ _ _ _ => b
 | _ => []
def zab (s : Stmt) : Scope := match s with
 | .FunctionDef _ _ _ _ _ _ sc _ _ _ => sc
 | _ => { kind := .function, names := [], isGenerator := false, isCoroutine := false }
abbrev CX0 : CXT := fun _ _ _ _ _ _ => False
abbrev E0 : XK := fun _ _ _ => False
theorem zan {X : Cx} : zk2 CX0 X E0 := fun _ _ _ _ _ _ _ h => h.elim
structure Fun (K : PySem.W.Frag) (x qual : Str) (st : Stmt) (f : Addr) (fd : FuncData) : Prop where
 ex : ∃ (oc : Value) (od : Option Addr) (kV doc pm : Value) (an : Option Addr) (cdv ct : Value) (osl : Array (Option Value)),
  fd = PySem.W.fnOf x qual (zal st) (zai st) (zab st) .none kV doc pm an cdv ct ∧ K.lookup f = some ⟨oc, od, .func fd, osl⟩ ∧ PySem.W.codeIn K cdv qual = true
 kp : PySem.W.keepIn K (.ref f) = true
section
variable {P : Program} {w : World} {K : PySem.W.Frag} {mg : Str → Option Value} {base : Heap}
theorem Fun.ok {x qual : Str} {st : Stmt} {f : Addr} {fd : FuncData} {N ps : List Str} {k : Nat} {sp : Sp} (F : Fun K x qual st f fd) (S : zay N ps (zab st)) (len : ∀ vs H Q E, sp vs H Q E → vs.length = ps.length)
  (hbody : ∀ (cdv : Value) (A : Around) (outer : List Env) (s : Shared) (H : Hp) (vs : List V) (Q : VK) (E : XK), Room k (A.deeper (envOfC qual (zab st) s.heap.objs.size f cdv)) → sp vs H Q E →
   ∃ t, PSs (zd5 CX0 P w K mg base N qual (zab st) f cdv A outer s H E).nox (zai st) t ∧ t { nx := fun _ H' => Q .non H', rt := Q } (zgf N vs) H) : zbi P w K mg base CX0 (k + 1) f fd ps sp := by
 obtain ⟨oc, od, kV, doc, pm, an, cdv, ct, osl, rfl, lk, hcd⟩ := F.ex
 refine zrd lk hcd S len fun A outer s H vs Q E hr hsp => ?_
 obtain ⟨t, h, q⟩ := hbody cdv A outer s H vs Q E hr hsp
 exact ⟨t, h.nox, q⟩
theorem Fun.binds {x qual : Str} {st : Stmt} {f : Addr} {fd : FuncData} {ps : List Str} (F : Fun K x qual st f fd)
  (h : ∀ (kV doc pm : Value) (an : Option Addr) (cdv ct : Value) (us : List Value), us.length = ps.length → bindArgs (PySem.W.fnOf x qual (zal st) (zai st) (zab st) .none kV doc pm an cdv ct) ⟨us, []⟩ = pure (ps.zip us)) : Binds K fd ps [] := by
 obtain ⟨oc, od, kV, doc, pm, an, cdv, ct, osl, rfl, lk, hcd⟩ := F.ex
 exact .all (h kV doc pm an cdv ct)
theorem za4 {x qual : Str} {st : Stmt} {f : Addr} {oc : Value} {od an : Option Addr} {osl : Array (Option Value)} {kV doc pm cdv ct : Value} (l : K.lookup f = some ⟨oc, od, .func (PySem.W.fnOf x qual (zal st) (zai st) (zab st) .none kV doc pm an cdv ct), osl⟩)
  (c : PySem.W.codeIn K cdv qual = true) (k : PySem.W.keepIn K (.ref f) = true) : Fun K x qual st f (PySem.W.fnOf x qual (zal st) (zai st) (zab st) .none kV doc pm an cdv ct) := ⟨⟨oc, od, kV, doc, pm, an, cdv, ct, osl, rfl, l, c⟩, k⟩
end
theorem zcg {n : Nat} (h : n ≤ 1000) : n < sizeLine := Nat.lt_of_le_of_lt h (by decide)
section
variable {X : Cx}
theorem pv (i : Nat) {x : Str} {pos : Pos} (hN : X.N[i]? = some x := by rfl) (hv : Vis X.env.scope x := by first | exact Or.inl rfl | exact Or.inr (Or.inl rfl) | exact Or.inr (Or.inr rfl)) (hd : (x == ("__debug__" : Str)) = false := by decide)
  (hcd : (x == ("__classdict__" : Str)) = false := by decide) : PE X (.Name x pos) (zs3 i) := zqv hN hv hd hcd
end
theorem zf8 {A B : Prop} (h : B) : if false = true then A else B := by
 rw [if_neg Bool.false_ne_true]
 exact h
theorem zo0 {A B : Prop} (h : A) : if true = true then A else B := by
 rw [if_pos rfl]
 exact h
theorem zc0 {c A B : Prop} [Decidable c] (h1 : c → A) (h2 : ¬ c → B) : if c then A else B := by
 by_cases h : c
 ·rw [if_pos h]
  exact h1 h
 ·rw [if_neg h]
  exact h2 h
theorem zti {c A B : Prop} [Decidable c] (hc : c) (h : B) : if (!decide c) = true then A else B := by
 rw [decide_eq_true hc]
 exact zf8 h
end L2
set_option maxRecDepth 100000
set_option maxHeartbeats 4000000
namespace L2
open PySem PySem.Spec PyProof.Rows
def zge (c : Addr) : Heap → Prop := fun h => ∃ (o : Obj) (vs : Array Value) (q : Str) (t : Nat), h.get? c = some o ∧ o.data = .fields vs ∧ vs[1]? = some (.str q t)
def zeh (H : Hp) (P : Addr) : Prop := ∃ ps : Array Value, H P = some (.tbl ps) ∧ TriplesOk ps.toList ∧ ∀ pos : Pos, codeAmong pos ps.toList = none ∨ ∃ c : Addr, codeAmong pos ps.toList = some (.ref c) ∧ H c = some (.ext (zge c))
def Kp (H H' : Hp) (b : Addr) : HO → Prop
 | .tbl _ => (∃ ps, H' b = some (.tbl ps)) ∧ (zeh H b → zeh H' b)
 | o => H' b = some o
def Same (H H' : Hp) : Prop := ∀ b o, H b = some o → Kp H H' b o
theorem Kp.of {H H' : Hp} {b : Addr} {o : HO} (h : H b = some o) (e : H' b = some o) (hc : ∀ c, H c = some (.ext (zge c)) → H' c = some (.ext (zge c))) : Kp H H' b o := by
 cases o
 case tbl ps =>
  refine ⟨⟨ps, e⟩, fun ⟨qs, hq, tr, hp⟩ => ?_⟩
  rw [h] at hq
  cases hq
  exact ⟨_, e, tr, fun pos => (hp pos).imp id fun ⟨c, z1, z2⟩ => ⟨c, z1, hc c z2⟩⟩
 all_goals exact e
theorem zg0 {H H' : Hp} (h : ∀ b o, H b = some o → H' b = some o) : Same H H' := fun b o e => Kp.of e (h b o e) fun c z => h c _ z
theorem Same.refl (H : Hp) : Same H H := zg0 fun _ _ h => h
theorem Same.trans {H H1 H2 : Hp} (a : Same H H1) (b : Same H1 H2) : Same H H2 := fun c o h => by
 have z := a c o h
 cases o
 case tbl ps =>
  obtain ⟨⟨qs, hq⟩, k⟩ := z
  obtain ⟨q2, k2⟩ := b c _ hq
  exact ⟨q2, fun t => k2 (k t)⟩
 all_goals exact b c _ z
theorem Kp.some {H H' : Hp} {b : Addr} {o : HO} (k : Kp H H' b o) : ∃ u, H' b = some u := by
 cases o
 case tbl ps => exact ⟨_, k.1.choose_spec⟩
 all_goals exact ⟨_, k⟩
theorem Same.free {H H' : Hp} (e : Same H H') {l : Addr} (h : H' l = Option.none) : H l = Option.none := by
 cases q : H l with
 | none => rfl
 | some o =>
  obtain ⟨u, z⟩ := (e l o q).some
  rw [z] at h
  cases h
theorem Same.tab {H H' : Hp} {P : Addr} (e : Same H H') (t : zeh H P) : zeh H' P := by
 obtain ⟨ps, h, _⟩ := id t
 exact (e _ _ h).2 t
theorem zit {pos pos' : Pos} {c : Value} (l : List Value) (h : TriplesOk l) : codeAmong pos (l ++ [rawInt pos'.line, rawInt pos'.col, c]) = codeAmong pos l ∨ codeAmong pos (l ++ [rawInt pos'.line, rawInt pos'.col, c]) = some c := by
 fun_induction TriplesOk l with
 | case1 =>
  by_cases hc : ((pos'.line : Int) == (pos.line : Int) && (pos'.col : Int) == (pos.col : Int)) = true
  ·exact .inr (by simp only [List.nil_append, codeAmong, rawInt]; rw [if_pos hc])
  ·exact .inl (by simp only [List.nil_append, codeAmong, rawInt]; rw [if_neg hc])
 | case2 a t b u x rest ih =>
  simp only [List.cons_append, codeAmong]
  split
  ·exact .inl rfl
  ·exact ih h
 | case3 => exact h.elim
end L2
set_option maxRecDepth 100000
set_option maxHeartbeats 4000000
namespace L2
open PySem PySem.Spec PyProof.Rows
theorem zkf {α β : Type} (g : α → β → β) {f : α → β → Sem (ForInStep β)} : ∀ (l : List α) (b : β), (∀ x ∈ l, ∀ c, f x c = pure (ForInStep.yield (g x c))) →
  forIn l b f = (pure (l.foldl (fun c x => g x c) b) : Sem β)
 | [], b, _ => by simp only [List.forIn_nil, List.foldl_nil]
 | x :: r, b, h => by
  rw [List.forIn_cons, h x List.mem_cons_self b, pure_bind]
  exact zkf g r (g x b) fun y hy c => h y (List.mem_cons_of_mem _ hy) c
def zej (sc : Scope) (env : Env) : List (Str × Addr) :=
 sc.names.foldl (fun cs y => if (y.2 == NameKind.free) = true then (y.1, (env.cells.lookup y.1).getD 0) :: cs else cs) []
theorem zlk {sc : Scope} {env : Env} (h : ∀ y ∈ sc.names, y.2 = .free → ∃ c, env.cells.lookup y.1 = some c) : closureFor sc env = pure (zej sc env) := by
 simp only [closureFor]
 rw [zkf (fun (y : Str × NameKind) (cs : List (Str × Addr)) => if (y.2 == NameKind.free) = true then (y.1, (env.cells.lookup y.1).getD 0) :: cs else cs) sc.names [] (fun y hy c => by
  obtain ⟨n, k⟩ := y
  by_cases hk : k = .free
  ·obtain ⟨a, ha⟩ := h _ hy hk
   subst hk
   simp only [cellOf, ha, beq_self_eq_true, if_true, pure_bind, Option.getD_some]
  ·have z : (k == NameKind.free) = false := by simpa using hk
   simp only [z, Bool.false_eq_true, if_false])]
 rfl
theorem zju {α β : Type} {P : β → Prop} {g : α → List β → List β} : ∀ (l : List α) (b : List β), (∀ p ∈ b, P p) → (∀ x ∈ l, ∀ c, (∀ p ∈ c, P p) → ∀ p ∈ g x c, P p) → ∀ p ∈ l.foldl (fun c x => g x c) b, P p
 | [], b, hb, _ => hb
 | x :: r, b, hb, h => zju r (g x b) (h x List.mem_cons_self b hb) fun y hy => h y (List.mem_cons_of_mem _ hy)
theorem zp5 {sc : Scope} {env : Env} (h : ∀ y ∈ sc.names, y.2 = .free → ∃ c, env.cells.lookup y.1 = some c) : ∀ p ∈ zej sc env, env.cells.lookup p.1 = some p.2 := by
 refine zju (P := fun p : Str × Addr => env.cells.lookup p.1 = some p.2) sc.names [] (fun _ z => nomatch z) fun y hy c hc p hp => ?_
 by_cases hk : y.2 = .free
 ·have z : (y.2 == NameKind.free) = true := by simpa using hk
  rw [if_pos z] at hp
  rcases List.mem_cons.mp hp with e | hp
  ·obtain ⟨a, ha⟩ := h y hy hk
   rw [e]
   show env.cells.lookup y.1 = some ((env.cells.lookup y.1).getD 0)
   rw [ha]
   rfl
  ·exact hc p hp
 ·have z : ¬ (y.2 == NameKind.free) = true := by simpa using hk
  rw [if_neg z] at hp
  exact hc p hp
theorem zie {α β : Type} {q : β} {g : α → List β → List β} (hg : ∀ x c, q ∈ c → q ∈ g x c) : ∀ (l : List α) (b : List β), q ∈ b → q ∈ l.foldl (fun c x => g x c) b
 | [], _, hb => hb
 | x :: r, b, hb => zie hg r (g x b) (hg x b hb)
theorem zrg {sc : Scope} {env : Env} {x : Str} {c : Addr} (hx : (x, NameKind.free) ∈ sc.names) (hc : env.cells.lookup x = some c) : (x, c) ∈ zej sc env := by
 have kp : ∀ (y : Str × NameKind) (cs : List (Str × Addr)), (x, c) ∈ cs → (x, c) ∈ (if (y.2 == NameKind.free) = true then (y.1, (env.cells.lookup y.1).getD 0) :: cs else cs) := fun y cs h => by
  by_cases z : (y.2 == NameKind.free) = true
  ·rw [if_pos z]
   exact List.mem_cons_of_mem _ h
  ·rw [if_neg z]
   exact h
 unfold zej
 obtain ⟨l1, l2, e⟩ := List.append_of_mem hx
 rw [e, List.foldl_append, List.foldl_cons]
 refine zie (g := fun (y : Str × NameKind) (cs : List (Str × Addr)) => if (y.2 == NameKind.free) = true then (y.1, (env.cells.lookup y.1).getD 0) :: cs else cs) kp l2 _ ?_
 rw [if_pos (by simp)]
 rw [hc]
 exact List.mem_cons_self
theorem zef {β : Type} {x : Str} {b : β} : ∀ {l : List (Str × β)}, (x, b) ∈ l → ∃ c, l.lookup x = some c
 | [], h => nomatch h
 | (y, d) :: r, h => by
  by_cases e : x = y
  ·subst e
   exact ⟨d, by rw [List.lookup_cons_self]⟩
  ·have z : (x == y) = false := by simpa using e
   rcases List.mem_cons.mp h with q | q
   ·cases q
    exact absurd rfl e
   ·obtain ⟨c, hc⟩ := zef q
    exact ⟨c, by rw [List.lookup_cons, z]; exact hc⟩
theorem zbj {sc : Scope} {env : Env} (h : ∀ y ∈ sc.names, y.2 = .free → ∃ c, env.cells.lookup y.1 = some c) {x : Str} {c : Addr} (e : (zej sc env).lookup x = some c) : env.cells.lookup x = some c :=
 zp5 h _ (PySem.mem_of_lookup e)
theorem zf2 {sc : Scope} {env : Env} (h : ∀ y ∈ sc.names, y.2 = .free → ∃ c, env.cells.lookup y.1 = some c) {x : Str} {c : Addr} (hx : (x, NameKind.free) ∈ sc.names) (hc : env.cells.lookup x = some c) : (zej sc env).lookup x = some c := by
 obtain ⟨d, hd⟩ := zef (zrg hx hc)
 have := zbj h hd
 rw [hc] at this
 cases this
 exact hd
def zf9 (sc sc0 : Scope) : Scope :=
 { sc with names := sc.names.map fun (n, k) => if (k == .free && sc0.kind == .function && sc0.names.lookup n == some .cell) then (n, .cell) else (n, k) }
def zpi (sc0 sc : Scope) (XN N' : List Str) (n : Nat) (kp : List Nat) : Bool :=
 decide (sc.kind = .function) && sc.names.all (fun y => decide (y.2 ≠ .cell)) && sc.names.all (fun y => decide (y.2 = .local → sc.names.lookup y.1 = some .local)) &&
 sc.names.all (fun y => decide (y.2 = .free → sc0.names.lookup y.1 = some .cell)) && decide (N'.length = n + kp.length) &&
 (List.range kp.length).all (fun i => match N'[n + i]?, kp[i]? with
  | some x, some j => decide (XN[j]? = some x ∧ (x, NameKind.free) ∈ sc.names ∧ ((zf9 sc sc0).names.lookup x = some .cell ∨ (zf9 sc sc0).names.lookup x = some .free))
  | _, _ => false)
theorem zja {sc0 sc : Scope} {XN N' : List Str} {n : Nat} {kp : List Nat} (h : zpi sc0 sc XN N' n kp = true) :
  sc.kind = .function ∧ (∀ y ∈ sc.names, y.2 ≠ .cell) ∧ (∀ y ∈ sc.names, y.2 = .local → sc.names.lookup y.1 = some .local) ∧ (∀ y ∈ sc.names, y.2 = .free → sc0.names.lookup y.1 = some .cell) ∧ N'.length = n + kp.length ∧
  ∀ (i : Nat) (x : Str), N'[n + i]? = some x → ∃ j, kp[i]? = some j ∧ XN[j]? = some x ∧ (x, NameKind.free) ∈ sc.names ∧ ((zf9 sc sc0).names.lookup x = some .cell ∨ (zf9 sc sc0).names.lookup x = some .free) := by
 unfold zpi at h
 simp only [Bool.and_eq_true, List.all_eq_true, decide_eq_true_eq] at h
 obtain ⟨⟨⟨⟨⟨h1, h2⟩, h3⟩, h4⟩, h5⟩, h6⟩ := h
 refine ⟨h1, h2, h3, h4, h5, fun i x hx => ?_⟩
 have hi : i < kp.length := by
  have := (List.getElem?_eq_some_iff.mp hx).1
  omega
 have q := h6 i (List.mem_range.mpr hi)
 rw [hx, List.getElem?_eq_getElem hi] at q
 exact ⟨kp[i], List.getElem?_eq_getElem hi, of_decide_eq_true q⟩
abbrev NoX : Value → Shared → Prop := fun _ _ => False
def blk (X : Cx) (N' : List Str) (sc : Scope) (C : Addr) (fp : List Addr) (pins : List (Addr × Obj)) (s : Shared) (H : Hp) : Cx :=
 { X with N := N', s₀ := s, H₀ := H, env := compEnvC sc (zej sc X.env) C X.env, outer := X.stack, stack := X.stack, ex := fp, fn := fun _ => false, pn := X.pn ++ pins, xe := NoX }
abbrev ztd (cs : List Expr) (env : Env) : Sem Bool := forIn cs true fun c r => if r = true then do let ok ← isTrue c env (eval c env); pure (ForInStep.yield ok) else pure (ForInStep.yield r)
def PTs (X : Cx) (cs : List Expr) (t : TT) : Prop :=
 ∀ (pins : List (Addr × Obj)) (s : Shared) (σ : St) (H : Hp) (Q : Bool → Hp → Prop), Inv X pins σ H s → t σ H Q → wpAny (model X.prog X.w) X.A (ztd cs X.env) (TP X pins σ Q) X.xe s
def zwl : TT := fun _ H Q => Q true H
theorem ze6 {X : Cx} : PTs X [] zwl := fun _ _ _ H _ I h => wpAny_tests_nil ⟨H, I, h⟩
theorem zcf {X : Cx} {c : Expr} {t : TT} (hc : PT X c t) : PTs X [c] t := fun pins s σ H Q I h => wpAny_tests_one (hc pins s σ H Q I h)
theorem zod {prog : Program} {w : World} {A : Around} {R : Result → Shared → Prop} {elt tg iter : Expr} {cs : List Expr} {sc : Scope} {pos : Pos} {it acc : Value} {env : Env} (J : Nat → Shared → Prop)
  (turn : ∀ n s, J n s → wpAny (model prog w) A (pyNext it) (fun r s1 => match r with
   | none => R (.ok .next) s1
   | some v => wpAny (model prog w) A (letOwnedTupleGo tg it v) (fun _ s2 => wpAny (model prog w) A (assign tg env v) (fun _ s3 => wpAny (model prog w) A (ztd cs env) (fun ok s4 =>
     if ok = true then wpAny (model prog w) A (eval elt env) (fun x s5 => wpAny (model prog w) A (call (.builtin "list.append") [acc, x]) (fun _ s6 => ∃ m, m < n ∧ J m s6) NoX s5) NoX s4
     else ∃ m, m < n ∧ J m s4) NoX s3) NoX s2) NoX s1) NoX s)
  (n : Nat) (s : Shared) (h : J n s) : codeAny (model prog w) A (.compLoop (.ListComp elt [⟨tg, iter, cs, 0⟩] sc pos) 0 it acc env) R s := by
 refine codeAny_loop rfl J (fun n s hJ => ?_) n h
 show wpAny _ A ((compTurn (.ListComp elt [⟨tg, iter, cs, 0⟩] sc pos) 0 it acc env).onRaise (fun x => do noteFrame x env; theTreesLotGoes x)) _ _ s
 refine wpAny_noted ?_
 rw [compTurn_list]
 have no : ∀ {E : Value → Shared → Prop} (e : Value) (z : Shared), NoX e z → E e z := fun _ _ f => f.elim
 refine wpAny_bind (wpAny_standAt (wpAny_bind (wpAny_mono (turn n s hJ) (fun r s1 h1 => ?_) no)))
 cases r with
 | none => exact wpAny_pure h1
 | some v =>
  refine wpAny_bind (wpAny_mono h1 (fun _ s2 h2 => ?_) no)
  refine wpAny_bind (wpAny_mono h2 (fun _ s3 h3 => ?_) no)
  refine wpAny_bind (wpAny_mono h3 (fun ok s4 h4 => ?_) no)
  cases ok with
  | false => exact wpAny_pure ⟨rfl, h4⟩
  | true =>
   exact wpAny_bind (wpAny_bind (wpAny_mono h4 (fun x s5 h5 => wpAny_bind (wpAny_mono h5 (fun _ s6 h6 => wpAny_pure (wpAny_pure ⟨rfl, h6⟩)) no)) no))
def zov (J : It) (g : TG) (tc : TT) (te : TE) (σ0 : St) (H1 : Hp) (Q : VK) : Prop := ∃ W : Nat → Nat → List V → St → Hp → Prop,
  (∃ m, W 0 m [] σ0 H1) ∧ ∀ i m ys σ' H', W i m ys σ' H' → ys.length ≤ sizeLine ∧
    ((J.stop i H' ∧ ∀ p, H' p = none → Q (.ref p) (upd H' p (.lst ys))) ∨
     (J.go i H' ∧ ∃ N : List V → St → Hp → Prop, (∀ ys' σ2 H2, N ys' σ2 H2 → ∃ m', m' < m ∧ W (i + 1) m' ys' σ2 H2) ∧ ∀ x H2, J.yld i H' x H2 → g x σ' H2 fun σ3 H3 => tc σ3 H3 fun b H4 =>
       if b = true then te σ3 H4 fun v H5 => N (ys ++ [v]) σ3 H5 else N ys σ3 H4))
def tLc (n : Nat) (kp : List Nat) (wi : TI) (g : TG) (tc : TT) (te : TE) : TE := fun σ H Q => wi σ H fun J H1 => zov J g tc te (List.replicate n none ++ kp.map fun j => (σ[j]?).join) H1 Q
theorem zrc {lo : Int} {k : Nat} {σ0 : St} {H : Hp} {g : TG} {tc : TT} {te : TE} {Q : VK} (Pv : Nat → List V → St → Hp → Prop) (h0 : Pv 0 [] σ0 H) (hz : ∀ i ys σ H, i ≤ k → Pv i ys σ H → ys.length ≤ sizeLine)
  (hs : ∀ i ys σ H, i < k → Pv i ys σ H → g (.int (lo + i)) σ H fun σ3 H3 => tc σ3 H3 fun b H4 => if b = true then te σ3 H4 fun v H5 => Pv (i + 1) (ys ++ [v]) σ3 H5 else Pv (i + 1) ys σ3 H4)
  (hd : ∀ ys σ H, Pv k ys σ H → ∀ p, H p = none → Q (.ref p) (upd H p (.lst ys))) :
  zov (Itr lo k) g tc te σ0 H Q := by
 refine ⟨fun i m ys σ H => m = k - i ∧ i ≤ k ∧ Pv i ys σ H, ⟨k, by simp, Nat.zero_le _, h0⟩, ?_⟩
 rintro i m ys σ H ⟨rfl, hi, p⟩
 refine ⟨hz i ys σ H hi p, ?_⟩
 by_cases hlt : i < k
 ·refine .inr ⟨hlt, Pv (i + 1), fun ys' σ' H' p' => ⟨k - (i + 1), by omega, rfl, hlt, p'⟩, fun x H' y => ?_⟩
  obtain ⟨e1, e2⟩ := y
  subst e1
  subst e2
  exact hs i ys σ _ hlt p
 ·have e : i = k := by omega
  subst e
  exact .inl ⟨Nat.le_refl _, hd ys σ H p⟩
theorem zdf {K : PySem.W.Frag} {a : Addr} {xs : List V} {σ0 : St} {H : Hp} {g : TG} {tc : TT} {te : TE} {Q : VK} (Pv : Nat → List V → St → Hp → Prop) (h0 : Pv 0 [] σ0 H) (hz : ∀ i ys σ H, i ≤ xs.length → Pv i ys σ H → ys.length ≤ sizeLine)
  (hl : ∀ i ys σ H, i ≤ xs.length → Pv i ys σ H → SqL K H a xs)
  (hs : ∀ i x ys σ H, xs[i]? = some x → Pv i ys σ H → g x σ H fun σ3 H3 => tc σ3 H3 fun b H4 => if b = true then te σ3 H4 fun v H5 => Pv (i + 1) (ys ++ [v]) σ3 H5 else Pv (i + 1) ys σ3 H4)
  (hd : ∀ ys σ H, Pv xs.length ys σ H → ∀ p, H p = none → Q (.ref p) (upd H p (.lst ys))) :
  zov (Itl K a) g tc te σ0 H Q := by
 refine ⟨fun i m ys σ H => m = xs.length - i ∧ i ≤ xs.length ∧ Pv i ys σ H, ⟨xs.length, by simp, Nat.zero_le _, h0⟩, ?_⟩
 rintro i m ys σ H ⟨rfl, hi, p⟩
 refine ⟨hz i ys σ H hi p, ?_⟩
 have q := hl i ys σ H hi p
 by_cases hlt : i < xs.length
 ·refine .inr ⟨⟨xs, xs[i], q, by simp [hlt]⟩, Pv (i + 1), fun ys' σ' H' p' => ⟨xs.length - (i + 1), by omega, rfl, hlt, p'⟩, fun x H' y => ?_⟩
  obtain ⟨e, y⟩ := y
  subst e
  exact hs i x ys σ _ (y xs q) p
 ·have e : i = xs.length := by omega
  subst e
  exact .inl ⟨⟨xs, q, Nat.le_refl _⟩, hd ys σ H p⟩
theorem zfo {K : PySem.W.Frag} {a : Addr} {xs : List V} {σ0 : St} {H : Hp} {g : TG} {tc : TT} {te : TE} {Q : VK} (Pv : Nat → List V → St → Hp → Prop) (h0 : Pv 0 [] σ0 H) (hz : ∀ i ys σ H, i ≤ xs.length → Pv i ys σ H → ys.length ≤ sizeLine)
  (hl : ∀ i ys σ H, i ≤ xs.length → Pv i ys σ H → SqT K H a xs)
  (hs : ∀ i x ys σ H, xs[i]? = some x → Pv i ys σ H → g x σ H fun σ3 H3 => tc σ3 H3 fun b H4 => if b = true then te σ3 H4 fun v H5 => Pv (i + 1) (ys ++ [v]) σ3 H5 else Pv (i + 1) ys σ3 H4)
  (hd : ∀ ys σ H, Pv xs.length ys σ H → ∀ p, H p = none → Q (.ref p) (upd H p (.lst ys))) :
  zov (Itt K a) g tc te σ0 H Q := by
 refine ⟨fun i m ys σ H => m = xs.length - i ∧ i ≤ xs.length ∧ Pv i ys σ H, ⟨xs.length, by simp, Nat.zero_le _, h0⟩, ?_⟩
 rintro i m ys σ H ⟨rfl, hi, p⟩
 refine ⟨hz i ys σ H hi p, ?_⟩
 have q := hl i ys σ H hi p
 by_cases hlt : i < xs.length
 ·refine .inr ⟨⟨xs, xs[i], q, by simp [hlt]⟩, Pv (i + 1), fun ys' σ' H' p' => ⟨xs.length - (i + 1), by omega, rfl, hlt, p'⟩, fun x H' y => ?_⟩
  obtain ⟨e, y⟩ := y
  subst e
  exact hs i x ys σ _ (y xs q) p
 ·have e : i = xs.length := by omega
  subst e
  exact .inl ⟨⟨xs, q, Nat.le_refl _⟩, hd ys σ H p⟩
section
variable {X : Cx} {tg iter elt : Expr} {cs : List Expr} {sc sc0 : Scope} {pos : Pos} {wi : TI} {g : TG} {tc : TT} {te : TE} {XN N' : List Str} {n : Nat} {kp : List Nat}
theorem zux {pins : List (Addr × Obj)} {σ : St} {H : Hp} {s : Shared} {fp : List Addr} {C : Addr} (I : Inv X pins σ H s) (hk : sc.kind = .function) (hcell : ∀ y ∈ sc.names, y.2 ≠ .cell)
  (hfr : ∀ y ∈ sc.names, y.2 = .free → ∃ c, X.env.cells.lookup y.1 = some c) (hf : ∀ b ∈ fp, zgr X pins H b) (hl : ∀ b ∈ fp, b < s.heap.objs.size) (hC : s.heap.objs.size ≤ C) : (blk X N' sc C fp pins s H).Ok where
 mod := I.ok.mod
 kind := hk
 glob := I.ok.glob
 blt := I.ok.blt
 above := hC
 inj := fun x y c h1 h2 => I.ok.inj x y c (zbj hfr h1) (zbj hfr h2)
 has := fun x hx => by
  have q : ∃ k, (x, k) ∈ sc.names ∧ k = .free := by
   have hx' : (zf9 sc X.env.scope).names.lookup x = some .cell ∨ (zf9 sc X.env.scope).names.lookup x = some .free := hx
   have go : ∀ k, (zf9 sc X.env.scope).names.lookup x = some k → (k = .cell ∨ k = .free) → (x, NameKind.free) ∈ sc.names := fun k e hk' => by
    have hm := PySem.mem_of_lookup e
    obtain ⟨⟨y, ky⟩, hy, ey⟩ := List.mem_map.mp hm
    dsimp only at ey
    split at ey
    ·rename_i hc
     cases ey
     have z : ky = .free := by
      simp only [Bool.and_eq_true] at hc
      simpa using hc.1.1
     subst z
     exact hy
    ·cases ey
     rcases hk' with z | z
     ·exact absurd z (hcell _ hy)
     ·subst z
      exact hy
   rcases hx' with e | e
   ·exact ⟨_, go _ e (.inl rfl), rfl⟩
   ·exact ⟨_, go _ e (.inr rfl), rfl⟩
  obtain ⟨k, hm, rfl⟩ := q
  obtain ⟨c, hc⟩ := hfr _ hm rfl
  exact ⟨c, zf2 hfr hm hc⟩
 cab := fun x c h => absurd h (by simp [blk])
 hd := I.ok.hd
 frames := I.ok.frames
 stk := .inl rfl
 exf := fun b hb => ⟨Nat.ne_of_lt (Nat.lt_of_lt_of_le (hl b hb) hC), fun x c e => (hf b hb).2.2.2.2.1 x c (zbj hfr e)⟩
 bs := I.bs
 bsz := Nat.le_trans I.ok.bsz I.sz
 noex := fun b o e hb => by
  rcases (hf b hb).2.2.2.1 with z | z
  ·exact I.ok.noex b o e z
  ·exact absurd (Nat.lt_of_lt_of_le (Heap.lt_size e) (Nat.le_trans I.ok.bsz z)) (Nat.lt_irrefl _)
 exfs := fun b hb z => by
  rcases List.mem_cons.mp (I.stkSub b z) with q | q
  ·exact (hf b hb).2.1 q
  ·exact (hf b hb).2.2.1 q
 funs := I.stack
 frf := I.stkFree
end
end L2
set_option maxRecDepth 100000
set_option maxHeartbeats 4000000
namespace L2
open PySem PySem.Spec PyProof.Rows
section
variable {X : Cx} {tg iter elt : Expr} {cs : List Expr} {sc sc0 : Scope} {pos : Pos} {wi : TI} {g : TG} {tc : TT} {te : TE} {XN N' : List Str} {n : Nat} {kp : List Nat}
theorem zow {pins : List (Addr × Obj)} {σ : St} {H : Hp} {s : Shared} {fp : List Addr} {C : Addr} {h1 : Heap} {tk : Nat} {m : Str → Option Value} (I : Inv X pins σ H s) (h0 : X.env.scope = sc0) (hN : X.N = XN) (ok : zpi sc0 sc XN N' n kp = true)
  (hf : ∀ b ∈ fp, zgr X pins H b) (hl : ∀ b ∈ fp, b < s.heap.objs.size) (hC : s.heap.objs.size ≤ C) (old : ∀ b o, s.heap.get? b = some o → h1.get? b = some o) (ns : h1.Ns C m) :
  Inv (blk X N' sc C fp pins s H) [] (List.replicate n none ++ kp.map fun j => (σ[j]?).join) H { s with heap := h1, toks := tk } := by
 obtain ⟨o1, o2, o3, o4, o5, o6⟩ := zja ok
 subst h0
 subst hN
 have hfr : ∀ y ∈ sc.names, y.2 = .free → ∃ c, X.env.cells.lookup y.1 = some c := fun y hy e => I.ok.has y.1 (.inl (o4 y hy e))
 have below : ∀ b, b < s.heap.objs.size → b ≠ C := fun b hb => Nat.ne_of_lt (Nat.lt_of_lt_of_le hb hC)
 refine ⟨zux I o1 o2 hfr hf hl hC, rfl, I.bare, Un.kept old, ⟨m, ns, fun i x v e1 e2 e3 => ?_⟩, fun x c e => ?_, I.hok.fresh hC, fun x c e => ?_, fun p hp => ?_, I.hok.kept old, ?_⟩
 ·have hi : n ≤ i := by
   by_cases z : n ≤ i
   ·exact z
   ·rw [List.getElem?_append_left (by rw [List.length_replicate]; omega), List.getElem?_replicate] at e2
    split at e2 <;> cases e2
  obtain ⟨j, rfl⟩ : ∃ j, i = n + j := ⟨i - n, by omega⟩
  obtain ⟨q, hq, hx, hm, hkd⟩ := o6 j x e1
  rw [List.getElem?_append_right (by rw [List.length_replicate]; omega), List.length_replicate, Nat.add_sub_cancel_left, List.getElem?_map, hq] at e2
  have e4 : (σ[q]?).join = some v := Option.some.inj e2
  have e2' : σ[q]? = some (some v) := by
   cases z : σ[q]? with
   | none => rw [z] at e4; cases e4
   | some w => rw [z] at e4; cases e4; rfl
  obtain ⟨c, hc⟩ := hfr _ hm rfl
  have kx : X.env.kindOf x = some .cell := o4 _ hm rfl
  obtain ⟨m', hn', hl'⟩ := I.loc
  obtain ⟨u, r, lk⟩ := hl' q x v hx e2' (.inr (.inl kx))
  refine ⟨u, r, .inr ⟨hkd, c, zf2 hfr hm hc, ?_⟩⟩
  rcases lk with ⟨k, _⟩ | ⟨_, c', hc', hv⟩
  ·rw [kx] at k
   cases k
  ·rw [hc] at hc'
   cases hc'
   exact hv.keeps old
 ·obtain ⟨v, hv⟩ := I.cell x c (zbj hfr e)
  exact ⟨v, hv.keeps old⟩
 ·exact I.freeC x c (zbj hfr e)
 ·have hp' : p ∈ X.pn ++ pins := by
   have : p ∈ (X.pn ++ pins) ++ ([] : List (Addr × Obj)) := hp
   rw [List.append_nil] at this
   exact this
  obtain ⟨q1, q2, q3, q4, q5⟩ := I.pin p hp'
  refine ⟨old _ _ q1, q2, below _ (Heap.lt_size q1), fun z => ?_, q5⟩
  rcases List.mem_cons.mp (I.stkSub _ z) with r | r
  ·exact q3 r
  ·exact q4 r
 ·show (List.replicate n none ++ kp.map fun j => (σ[j]?).join).length = N'.length
  rw [List.length_append, List.length_replicate, List.length_map, o5]
theorem zrt {pins : List (Addr × Obj)} {s : Shared} {σ : St} {H : Hp} {Q : VK} {use : Option (Value → Sem Unit)} {Qf : Value → Shared → Prop} (hc : X.calm = true) (hi : PI X tg iter wi) (h0 : X.env.scope = sc0) (hN : X.N = XN) (ok : zpi sc0 sc XN N' n kp = true)
  (hg : ∀ C fp pins s H, PG (blk X N' sc C fp pins s H) tg g) (ht : ∀ C fp pins s H, PTs (blk X N' sc C fp pins s H) cs tc) (he : ∀ C fp pins s H, PE (blk X N' sc C fp pins s H) elt te) (hs : ∀ x, foldedSetIterable iter X.env x = pure x)
  (I : Inv X pins σ H s) (h : tLc n kp wi g tc te σ H Q)
  (fin : ∀ D C ys H' s', Inv X pins σ (upd H' D (.lst ys)) s' → (∃ m, s'.heap.Ns C m) → zgr X pins (upd H' D (.lst ys)) C → Q (.ref D) (upd H' D (.lst ys)) → compPost (model X.prog X.w) X.A X.xe use Qf (.ref D) C (.ok .next) s') {pos' : Pos} :
  wpAny (model X.prog X.w) X.A (comprehension (.ListComp elt [⟨tg, iter, cs, 0⟩] sc pos) sc X.env pos' (newList []) false (firstIter [⟨tg, iter, cs, 0⟩] X.env) use) Qf X.xe s := by
 obtain ⟨o1, o2, o3, o4, o5, o6⟩ := zja ok
 have hfr : ∀ y ∈ sc.names, y.2 = .free → ∃ c, X.env.cells.lookup y.1 = some c := fun y hy e => I.ok.has y.1 (.inl (by rw [Env.kindOf, h0]; exact o4 y hy e))
 refine wpAny_comprehension_free (use := use) rfl hs (zlk hfr) o1 o3 (thn (hi pins s σ H _ I h) fun v s1 h1 => thn h1 fun itv s2 h2 => ?_)
 obtain ⟨it, fp, tn, J, H2, rfl, I2, T, st2, f2, W, ⟨m0, w0⟩, turn⟩ := h2
 have hl : ∀ b ∈ fp, b < s2.heap.objs.size := fun b hb => by
  obtain ⟨o, e, _⟩ := T.obj 0 _ st2 b hb
  exact Heap.lt_size e
 refine wpAny_newObj_type (wpAny_newFunctionEnv o2 (by intro y hy; simp at hy) (fun h1 ns1 sb1 => ?_) o1)
 dsimp only at ns1 sb1 ⊢
 generalize hG : s2.heap.push { cls := .type "list", dict := none, data := .seq ([] : List Value).toArray } = G at ns1 sb1 ⊢
 have hGs : G.objs.size = s2.heap.objs.size + 1 := by rw [← hG, Heap.size_push]
 have hCl : s2.heap.objs.size ≤ G.objs.size := by omega
 have hDC : s2.heap.objs.size ≠ G.objs.size := by omega
 have old : ∀ b o, s2.heap.get? b = some o → h1.get? b = some o := fun b o e => by
  have lt := Heap.lt_size e
  exact sb1.extBut b o (Nat.ne_of_lt (Nat.lt_of_lt_of_le lt hCl)) (Heap.get?_push_of_some _ (hG ▸ Heap.get?_push_of_some _ e))
 have hD1 : h1.get? s2.heap.objs.size = some { cls := .type "list", data := .seq ([] : List Value).toArray 0 } :=
  sb1.extBut _ _ hDC (Heap.get?_push_of_some _ (hG ▸ Heap.get?_push_size _ rfl))
 have nD2 : H2 s2.heap.objs.size = none := I2.hok.fresh (Nat.le_refl _)
 have nC2 : H2 G.objs.size = none := I2.hok.fresh hCl
 have loop : ∀ s3 : Shared, s3 = { s2 with heap := h1, toks := s2.toks + ([] : List (Str × Value)).length } →
   codeAny (model X.prog X.w) X.A (.compLoop (.ListComp elt [⟨tg, iter, cs, 0⟩] sc pos) 0 (.ref it) (.ref s2.heap.objs.size) (compEnvC sc (zej sc X.env) G.objs.size X.env))
    (compPost (model X.prog X.w) X.A X.xe use Qf (.ref s2.heap.objs.size) G.objs.size) s3 := by
  rintro s3 rfl
  have I3 := zow (fp := fp) (C := G.objs.size) (h1 := h1) (tk := s2.toks + ([] : List (Str × Value)).length) I2 h0 hN ok f2 hl hCl old ns1
  have stat : ∀ {H' : Hp} {o : Obj}, (∀ b ∈ fp, H' b = none) → ∀ b ∈ fp, zgr (blk X N' sc G.objs.size fp pins s2 H2) [(s2.heap.objs.size, o)] H' b := fun hn b hb => by
   have lt := hl b hb
   refine ⟨hn b hb, Nat.ne_of_lt (Nat.lt_of_lt_of_le lt hCl), I3.ok.exfs b hb, .inl hb, (I3.ok.exf b hb).2, fun p hp => ?_⟩
   rcases List.mem_append.mp hp with z | z
   ·exact (f2 b hb).2.2.2.2.2 p z
   ·have e : p.1 = s2.heap.objs.size := by rw [List.mem_singleton.mp z]
    rw [e]
    exact Nat.ne_of_gt lt
  have pinD : ∀ {σ' : St} {H' : Hp} {s' : Shared} {o : Obj}, Inv (blk X N' sc G.objs.size fp pins s2 H2) [] σ' H' s' → s'.heap.get? s2.heap.objs.size = some o → (∀ v, o.data ≠ .cell v) → H' s2.heap.objs.size = none →
    Inv (blk X N' sc G.objs.size fp pins s2 H2) [(s2.heap.objs.size, o)] σ' H' s' := fun {σ' H' s' o} J' e hd hn => J'.pins_of fun p hp => by
   rw [List.mem_singleton.mp hp]
   exact ⟨e, hn, hDC, fun z => by
    rcases List.mem_cons.mp (I2.stkSub _ z) with r | r
    ·exact absurd I2.lt (by rw [← r]; exact Nat.lt_irrefl _)
    ·exact I2.nofs (Nat.le_refl _) r, hd⟩
  refine zod (fun k s' => ∃ (i : Nat) (ys : List V) (its : List Value) (c : Nat) (σ' : St) (H' : Hp), Inv (blk X N' sc G.objs.size fp pins s2 H2) [] σ' H' s' ∧ tn i s'.heap ∧ (∀ b ∈ fp, H' b = none) ∧
   s'.heap.get? s2.heap.objs.size = some { cls := .type "list", data := .seq its.toArray c } ∧ Vals ys its ∧ H' s2.heap.objs.size = none ∧ W i k ys σ' H') ?_ m0 _
   ⟨0, [], [], 0, _, H2, I3, T.keep _ _ _ st2 fun b _ o e => old b o e, fun b hb => (f2 b hb).1, hD1, .nil, nD2, w0⟩
  rintro k s' ⟨i, ys, its, c, σ', H', I', st', fr', hD', hv, nD, w'⟩
  obtain ⟨hz, cases⟩ := turn i k ys σ' H' w'
  have I'' := pinD I' hD' (fun v => by intro z; cases z) nD
  rcases cases with ⟨stop, q⟩ | ⟨go, N, hN2, step⟩
  ·refine thn (T.done (blk X N' sc G.objs.size fp pins s2 H2) rfl rfl rfl hc i _ s' σ' H' NoX I'' (stat fr') st' stop) fun r s4 ⟨hr, I4⟩ => ?_
   subst hr
   obtain ⟨e4, n4, _⟩ := I4.pin (s2.heap.objs.size, { cls := .type "list", data := .seq its.toArray c }) (List.mem_append_right _ (List.mem_singleton.mpr rfl))
   have u4 : Un (frs X.stack) fp H2 H' s2.heap s4.heap := I4.base
   have nC4 : H' G.objs.size = none := I4.free
   obtain ⟨m4, ns4, _⟩ := I4.loc
   have neD : ∀ b o, s2.heap.get? b = some o → b ≠ s2.heap.objs.size := fun b o e => Nat.ne_of_lt (Heap.lt_size e)
   have u5 : Un (frs X.stack) fp H2 (upd H' s2.heap.objs.size (.lst ys)) s2.heap s4.heap :=
    ⟨u4.keep, u4.slot, fun b o e nb hx => by rw [zam (neD b o e)]; exact u4.free b o e nb hx, u4.there, fun b xs e => by rw [zam (zav e nD2)]; exact u4.tups b xs e,
     fun b o u e => by rw [zam (zav e nD2)]; exact u4.frzs b o u e, fun b ps e => by rw [zam (zav e nD2)]; exact u4.tbls b ps e⟩
   have hok5 : HOk X.prog X.w (upd H' s2.heap.objs.size (.lst ys)) s4.heap := fun a o e => by
    by_cases ea : a = s2.heap.objs.size
    ·subst ea
     rw [zad] at e
     cases e
     exact ⟨hz, its, c, hv, e4⟩
    ·rw [zam ea] at e
     exact (I4.hok a o e).stay (fun _ _ _ q => q) (fun b q => by rw [zam (zav q nD)]; exact q) fun b xs q => by rw [zam (zav q nD)]; exact q
   have I5 : Inv X pins σ (upd H' s2.heap.objs.size (.lst ys)) s4 := I2.call' I4.os u5 hok5 I4.bare fun b hb => ⟨(f2 b hb).2.2.2.1, (f2 b hb).2.1, (f2 b hb).2.2.2.2.1, (f2 b hb).2.2.2.2.2⟩
   refine fin _ _ ys H' s4 I5 ⟨m4, ns4⟩ (I2.fpOk hCl ?_) (q _ nD)
   rw [zam (Ne.symm hDC)]
   exact nC4
  ·refine thn (T.item (blk X N' sc G.objs.size fp pins s2 H2) rfl rfl rfl hc i _ s' σ' H' NoX I'' (stat fr') st' go) fun r s4 ⟨u, hr, h4⟩ => ?_
   subst hr
   refine thn h4 fun _ s5 ⟨x, H5, I5, r5, y5, st5, fr5⟩ => ?_
   have I5' := I5.pinned (stat fr5) (T.obj _ _ st5)
   refine thn (hg _ _ _ _ _ _ s5 σ' H5 x u _ I5' r5 (step x H5 y5)) fun _ s6 ⟨σ6, H6, I6, q6⟩ => ?_
   refine thn (ht _ _ _ _ _ _ s6 σ6 H6 _ I6 q6) fun b s7 ⟨H7, I7, q7⟩ => ?_
   have back : ∀ {s8 : Shared} {H8 : Hp} (m' : Nat), Inv (blk X N' sc G.objs.size fp pins s2 H2) ([(s2.heap.objs.size, { cls := .type "list", data := .seq its.toArray c })] ++ zfr fp s5.heap) σ6 H8 s8 →
     tn (i + 1) s8.heap ∧ (∀ b ∈ fp, H8 b = none) ∧ s8.heap.get? s2.heap.objs.size = some { cls := .type "list", data := .seq its.toArray c } ∧ H8 s2.heap.objs.size = none := fun {s8 H8} m' I8 => by
    have pn : ∀ p ∈ [(s2.heap.objs.size, ({ cls := .type "list", data := .seq its.toArray c } : Obj))] ++ zfr fp s5.heap, s8.heap.get? p.1 = some p.2 ∧ H8 p.1 = none := fun p hp =>
     let ⟨a, b, _⟩ := I8.pin p (List.mem_append_right _ hp); ⟨a, b⟩
    refine ⟨T.keep _ _ _ st5 fun b hb o e => (pn (b, o) (List.mem_append_right _ (zdn hb e))).1, fun b hb => ?_, pn _ (List.mem_append_left _ (List.mem_singleton.mpr rfl))⟩
    obtain ⟨o, e, _⟩ := T.obj _ _ st5 b hb
    exact (pn (b, o) (List.mem_append_right _ (zdn hb e))).2
   have bare : ∀ {s8 : Shared} {H8 : Hp} {pl : List (Addr × Obj)}, Inv (blk X N' sc G.objs.size fp pins s2 H2) pl σ6 H8 s8 → Inv (blk X N' sc G.objs.size fp pins s2 H2) [] σ6 H8 s8 := fun I8 => I8.pins_of fun p hp => nomatch hp
   cases b with
   | false =>
    rw [if_neg Bool.false_ne_true] at q7 ⊢
    obtain ⟨m', lt, w7⟩ := hN2 _ _ _ q7
    obtain ⟨b1, b2, b3, b4⟩ := back m' I7
    exact ⟨m', lt, i + 1, ys, its, c, σ6, H7, bare I7, b1, b2, b3, hv, b4, w7⟩
   | true =>
    rw [if_pos rfl] at q7 ⊢
    refine thn (he _ _ _ _ _ _ s7 σ6 H7 _ I7 q7) fun y s8 ⟨yv, H8, I8, r8, q8⟩ => ?_
    obtain ⟨m', lt, w8⟩ := hN2 _ _ _ q8
    obtain ⟨b1, b2, b3, b4⟩ := back m' I8
    have hlen := hv.length
    refine append_at (hsz := by rw [List.size_toArray, ← hlen]; exact hz) b3 fun h9 sb9 e9 => ?_
    have I9 : Inv (blk X N' sc G.objs.size fp pins s2 H2) [] σ6 H8 { s8 with heap := h9 } := (bare I8).turned (t' := s8.toks) (it := s2.heap.objs.size) (fun b o hb e => sb9.extBut b o hb e) b4 hDC (.inr (Nat.le_refl _))
     (fun x c e z => by
      obtain ⟨v, hv⟩ := I2.cell x c (zbj hfr e)
      exact absurd hv.lt (by rw [z]; exact Nat.lt_irrefl _))
     fun p hp z => by
      have hp' : p ∈ X.pn ++ pins := by
       have : p ∈ (X.pn ++ pins) ++ ([] : List (Addr × Obj)) := hp
       rw [List.append_nil] at this
       exact this
      exact absurd (Heap.lt_size (I2.pin p hp').1) (by rw [z]; exact Nat.lt_irrefl _)
    refine ⟨m', lt, i + 1, ys ++ [yv], its ++ [y], c + 1, σ6, H8, I9, T.keep _ _ _ b1 fun b hb o e => sb9.extBut b o (Nat.ne_of_lt (hl b hb)) e, b2, ?_, hv.append (.cons r8 .nil), b4, w8⟩
    rw [e9]
    simp
 exact codeAny_compStart_list (loop _ rfl) (T.self _ 0 _ _ _ (T.keep _ _ _ st2 fun b _ o e => old b o e) (loop _ rfl))
theorem zdt (hc : X.calm = true) (hi : PI X tg iter wi) (h0 : X.env.scope = sc0) (hN : X.N = XN) (ok : zpi sc0 sc XN N' n kp = true)
  (hg : ∀ C fp pins s H, PG (blk X N' sc C fp pins s H) tg g) (ht : ∀ C fp pins s H, PTs (blk X N' sc C fp pins s H) cs tc) (he : ∀ C fp pins s H, PE (blk X N' sc C fp pins s H) elt te)
  (hs : ∀ x, foldedSetIterable iter X.env x = pure x := by intro _; rfl) : PE X (.ListComp elt [⟨tg, iter, cs, 0⟩] sc pos) (tLc n kp wi g tc te) := by
 intro pins s σ H Q I h
 rw [eval_ListComp]
 refine zrt hc hi h0 hN ok hg ht he hs I h fun D C ys H' s' I' ns fp q => ?_
 obtain ⟨m, hm⟩ := ns
 refine ⟨m, hm, fun h' sb => ⟨.ref D, _, ?_, rfl, q⟩⟩
 obtain ⟨f1, f2, f3, f4, f5, f6⟩ := fp
 exact I'.turned (t' := s'.toks) (it := C) (fun b o hb e => sb.extBut b o hb e) f1 f2 f4 f5 f6
end
end L2
set_option maxRecDepth 100000
set_option maxHeartbeats 4000000
namespace L2
open PySem PySem.Spec PyProof.Rows
section
variable {X : Cx} {tg iter elt : Expr} {cs : List Expr} {sc sc0 : Scope} {pos : Pos} {wi : TI} {g : TG} {tc : TT} {te : TE} {XN N' : List Str} {n : Nat} {kp : List Nat}
theorem zeq {i : Nat} {y : Str} {py spos : Pos} (hNd : X.N.Nodup) (hiy : X.N[i]? = some y) (hy : X.env.scope.names.lookup y = some .local) (hsw : swapsWith (.ListComp elt [⟨tg, iter, cs, 0⟩] sc pos) (some (.Name y py)) spos.line X.env = pure true)
  (hc : X.calm = true) (hi : PI X tg iter wi) (h0 : X.env.scope = sc0) (hN : X.N = XN) (ok : zpi sc0 sc XN N' n kp = true)
  (hg : ∀ C fp pins s H, PG (blk X N' sc C fp pins s H) tg g) (ht : ∀ C fp pins s H, PTs (blk X N' sc C fp pins s H) cs tc) (he : ∀ C fp pins s H, PE (blk X N' sc C fp pins s H) elt te)
  (hs : ∀ x, foldedSetIterable iter X.env x = pure x := by intro _; rfl) : PS X (.Assign [.Name y py] (.ListComp elt [⟨tg, iter, cs, 0⟩] sc pos) spos) (zu0 (tLc n kp wi g tc te) (zn2 i)) := by
 intro pins s σ H D I h
 rw [exec_Assign_Name_used _ _ _ _ hsw]
 refine wpAny_bind (wpAny_standAt (wpAny_bind ?_))
 have fin : wpAny (model X.prog X.w) X.A (comprehension (.ListComp elt [⟨tg, iter, cs, 0⟩] sc pos) sc X.env (firstIterPos [⟨tg, iter, cs, 0⟩] pos) (newList []) false (firstIter [⟨tg, iter, cs, 0⟩] X.env) (some (assign (.Name y py) X.env)))
   (fun _ s' => SP X pins D .next s') X.xe s := by
  refine zrt (Q := fun x H1 => zn2 i x σ H1 D.nx) hc hi h0 hN ok hg ht he hs I h fun D' C ys H' s' I' ns fp q => ?_
  obtain ⟨m, hm⟩ := ns
  obtain ⟨f1, f2, f3, f4, f5, f6⟩ := fp
  obtain ⟨o, es, ep, ho, rest⟩ := id hm
  have nc : ∀ v, o.data ≠ .cell v := fun v z => by
   rw [rest.1] at z
   cases z
  have I'' : Inv X (pins ++ [(C, o)]) σ (upd H' D' (.lst ys)) s' := I'.pins_of fun p hp => by
   rcases List.mem_append.mp hp with z | z
   ·exact I'.pin p (List.mem_append_right _ z)
   ·rw [List.mem_singleton.mp z]
    exact ⟨ho, f1, f2, f3, nc⟩
  show wpAny (model X.prog X.w) X.A (assign (.Name y py) X.env (.ref D')) _ X.xe s'
  refine thn (zaz hNd hiy (.inl hy) (.inr hy) _ s' σ _ (.ref D') (.ref D') D.nx I'' rfl q) fun _ s'' ⟨σ3, H3, I3, q3⟩ => ?_
  obtain ⟨p1, p2, _⟩ := I3.pin (C, o) (List.mem_append_right _ (List.mem_append_right _ (List.mem_singleton.mpr rfl)))
  refine ⟨m, ⟨o, es, ep, p1, rest⟩, fun h' sb => ⟨σ3, H3, ?_, q3⟩⟩
  exact I3.unpinned.turned (t' := s''.toks) (it := C) (fun b o hb e => sb.extBut b o hb e) p2 f2 f4 f5 f6
 show wpAny (model X.prog X.w) X.A (comprehension _ _ _ _ _ _ _ _ >>= _) _ _ s
 exact wpAny_bind (thn fin fun _ s' q => wpAny_pure (wpAny_pure q))
end
section
variable {X : Cx}
def zc6 (T C : String) : Option Bool := if T = C then some true else if PySem.W.kitMeta C = true then (fastBuiltinMro T).map (·.contains (.type C)) else none
theorem zt0 {K : PySem.W.Frag} {T C : String} {b : Bool} (h : zc6 T C = some b) : PySem.W.kitOne K (.type T) (.type C) = some b := by
 unfold zc6 at h
 unfold PySem.W.kitOne
 by_cases e : T = C
 ·subst e
  rw [if_pos rfl] at h
  rw [if_pos (beq_self_eq_true _)]
  exact h
 ·rw [if_neg e] at h
  have z : ¬ (Value.type T == Value.type C) = true := fun q => by
   have q' := eq_of_beq q
   injection q' with q''
   exact e q''
  rw [if_neg z]
  exact h
theorem zqn : zdh X (.builtin "isinstance") (fun xs H Q => ∃ (x : V) (T C : String) (b : Bool), xs = [x, .ty C] ∧ TyOf X.K H x (.type T) ∧ zc6 T C = some b ∧ Q (.bl b) H) := by
 intro pins s σ H xs us Q I r h
 obtain ⟨x, T, C, b, rfl, ty, e, q⟩ := h
 obtain ⟨u, w', rfl, rx, ry⟩ := zva r
 cases (show w' = Value.type C from ry)
 exact zpc I rx ty (zt0 e) fun tk => ⟨.bl b, H, I.tok tk, rfl, q⟩
theorem zht : zc6 "tuple" "tuple" = some true := by decide +kernel
theorem zpt (bs : List Bool) : ((List.range bs.length).all fun i => (bs[i]?).getD true) = bs.all id := by
 rw [Bool.eq_iff_iff, List.all_eq_true, List.all_eq_true]
 refine ⟨fun h b hb => ?_, fun h i hi => ?_⟩
 ·obtain ⟨i, hi, rfl⟩ := List.getElem_of_mem hb
  have := h i (List.mem_range.mpr hi)
  rw [List.getElem?_eq_getElem hi] at this
  exact this
 ·have hi' := List.mem_range.mp hi
  show (bs[i]?).getD true = true
  rw [List.getElem?_eq_getElem hi']
  exact h _ (List.getElem_mem hi')
theorem zmr (hc : X.calm = true) : zdh X (.builtin "all") (fun xs H Q => ∃ (p : Addr) (bs : List Bool), xs = [.ref p] ∧ SqL X.K H p (bs.map V.bl) ∧ Q (.bl (bs.all id)) H) := by
 intro pins s σ H xs us Q I r h
 obtain ⟨p, bs, rfl, hq, q⟩ := h
 obtain ⟨u, rfl, rx⟩ := zen r
 cases rx
 obtain ⟨its, rv, pl, hz⟩ := I.list hq
 have hl := pl.isList
 have hlt : p < s.heap.objs.size := by obtain ⟨_, e, _⟩ := hl; exact Heap.lt_size e
 refine call_all_walk (wpAny_pyIter_list hl ?_)
 refine ⟨s.heap.objs.size, [s.heap.objs.size, p], [s.heap.objs.size], its.toArray.size, _, _, fun i => (bs[i]?).getD true, rfl, Walks.list (A := X.A.in1) (I.ok.hd hc) _ p (Nat.ne_of_lt hlt) its.toArray,
  ⟨⟨_, Heap.get?_push_size _ rfl, rfl, rfl⟩, hl.push _⟩, fun i v s' Q' E' hP hQ => ?_, fun h' tk hk => ?_⟩
 ·have e : its[i]? = some v := by simpa using hP
  have hlen := rv.length
  rw [List.length_map] at hlen
  have hi : i < bs.length := by
   have := (List.getElem?_eq_some_iff.mp e).1
   omega
  obtain ⟨u, hu, ru⟩ := rv.get (i := i) (x := .bl bs[i]) (by rw [List.getElem?_map, List.getElem?_eq_getElem hi]; rfl)
  rw [e] at hu
  cases hu
  cases (show v = Value.bool bs[i] from ru)
  dsimp only at hQ
  rw [List.getElem?_eq_getElem hi] at hQ
  exact wpAny_truthy_bool hQ
 ·have hlen := rv.length
  rw [List.length_map] at hlen
  have e : ((List.range its.toArray.size).all fun i => (bs[i]?).getD true) = bs.all id := by
   rw [List.size_toArray, ← hlen]
   exact zpt bs
  rw [e]
  refine ⟨.bl _, H, I.kept (t' := tk) fun b o eb => hk b o (fun hm => ?_) (Heap.get?_push_of_some _ eb), rfl, q⟩
  rw [List.mem_singleton.mp hm] at eb
  exact Nat.lt_irrefl _ (Heap.lt_size eb)
end
end L2
set_option maxRecDepth 100000
set_option maxHeartbeats 4000000
namespace L2
open PySem PySem.Spec PyProof.Rows
section
variable {prog : Program} {w : World} {A : Around} {E : Value → Shared → Prop} {s : Shared}
open AutoSeq1 (wpAny_loadPart') in
end
section
variable {X : Cx} {pins : List (Addr × Obj)} {σ : St} {H : Hp} {s : Shared}
end
end L2
set_option maxRecDepth 100000
set_option maxHeartbeats 4000000
namespace L2
open PySem PySem.Spec PyProof.Rows
section
variable {X : Cx}
theorem zok {P : Nat → Value → Prop} {f : Nat → V} (hP : ∀ i v, P i v → RelV (f i) v) : ∀ (n k : Nat) (l : List Value), l.length = n → (∀ j v, l[j]? = some v → P (k + j) v) → Vals ((List.range' k n).map f) l
 | 0, k, [], _, _ => .nil
 | n + 1, k, v :: r, hl, h => by
  rw [List.range'_succ, List.map_cons]
  refine .cons (hP _ _ (h 0 v rfl)) (zok hP n (k + 1) r (by simpa using hl) fun j v' e => ?_)
  have := h (j + 1) v' (by simpa using e)
  rw [show k + 1 + j = k + (j + 1) by omega]
  exact this
 | 0, _, _ :: _, hl, _ => by simp at hl
 | n + 1, _, [], hl, _ => by simp at hl
theorem zjl (hc : X.calm = true) : zdh X (.type "list") (fun xs H Q => ∃ (p : Addr) (lo hi : Int), xs = [.ref p] ∧ H p = some (.rng lo hi) ∧ -(2 ^ 62) ≤ lo ∧ lo < 2 ^ 62 ∧ -(2 ^ 62) ≤ hi ∧ hi < 2 ^ 62 ∧ (hi - lo).toNat ≤ 1000 ∧ ∀ l, H l = none → Q (.ref l) (upd H l (.lst ((List.range' 0 (hi - lo).toNat).map fun i : Nat => V.int (lo + i))))) := by
 intro pins s σ H xs us Q I r h
 obtain ⟨p, lo, hi, rfl, hp, b1, b2, b3, b4, hz, q⟩ := h
 obtain ⟨u, rfl, rx⟩ := zen r
 cases rx
 obtain ⟨t, u, v, e⟩ := (show ObjOk X.prog X.w H s.heap p (.rng lo hi) from I.hok p _ hp)
 have hn : Builtin.Range.rangeSize lo hi 1 = (((hi - lo).toNat : Nat) : Int) := by
  rw [rangeSize_one]
  split <;> omega
 refine call_list_range (I.ok.hd hc) e (small_one b1 b2 b3 b4) hn (Nat.le_trans hz (by decide)) fun g tk acc c kk eg hi' => ?_
 obtain ⟨sz, it⟩ := hi'
 have vv : Vals ((List.range' 0 (hi - lo).toNat).map fun i : Nat => V.int (lo + i)) acc.toList := by
  refine zok (P := fun i v => ∃ t, v = .int (lo + i * 1) t) (fun i v hv => ?_) _ 0 acc.toList (by simpa using sz) fun j v ej => ?_
  ·obtain ⟨t, rfl⟩ := hv
   exact ⟨t, by rw [Int.mul_one]⟩
  ·have := it j v (by simpa using ej)
   rw [Nat.zero_add]
   exact this
 refine ⟨.ref s.heap.objs.size, _, I.laid (t' := tk) kk (Nat.le_refl _) (show ObjOk X.prog X.w _ _ _ (.lst _) from ⟨?_, acc.toList, c, vv, eg⟩), rfl, q _ (I.hok.fresh (Nat.le_refl _))⟩
 rw [List.length_map, List.length_range']
 exact Nat.le_of_lt (zcg hz)
open AutoSeq1 (wpAny_loadPart') in
theorem zgg (hc : X.calm = true) : zdh X (.builtin "sum") (fun xs H Q => ∃ (p : Addr) (ns : List Int), xs = [.ref p] ∧ SqL X.K H p (ns.map V.int) ∧ Q (.int ns.sum) H) := by
 intro pins s σ H xs us Q I r h
 obtain ⟨p, ns, rfl, hq, q⟩ := h
 obtain ⟨u, rfl, rx⟩ := zen r
 cases rx
 obtain ⟨its, rv, pl, hz'⟩ := I.list hq
 have ia := ze3 rv
 obtain ⟨ps, hx⟩ := ia.allInts.items
 have hl' : s.heap.IsList p (intItems ps) := hx ▸ pl.isList
 refine sum_intListG (I.ok.hd hc) hl' fun g tk t' hk => ?_
 have e1 : ns = ps.toList.map (·.1) := by
  rw [← nums_intItems, ← hx]
  exact (show numsOf its.toArray.toList = ns from ia.numsOf).symm
 have e2 : preSum (numAt ps) ps.size = ns.sum := by
  rw [preSum_eq, List.take_of_length_le (by simp), e1]
 rw [e2]
 exact ⟨.int _, H, I.kept (t' := tk) hk, ⟨t', rfl⟩, q⟩
end
section
variable {X : Cx} {K : PySem.W.Frag}
theorem ixT (h : X.K = K := by rfl) : IxR X (zvp K) := h ▸ zkv
theorem ixL (h : X.K = K := by rfl) : IxR X (zvt K) := h ▸ zsj
theorem zde (h : X.K = K := by rfl) : zdh X (.builtin "len") (fun xs H Q => ∃ p ys, xs = [.ref p] ∧ (SqL K H p ys ∨ SqT K H p ys) ∧ Q (.int ys.length) H) := h ▸ zki
theorem inS (h : X.K = K := by rfl) : OpR X (compareOp .In) (rIn K false) := h ▸ zpy
theorem zub (h : X.K = K := by rfl) : zdh X (.builtin "isinstance") (fun xs H Q => ∃ (x : V) (T C : String) (b : Bool), xs = [x, .ty C] ∧ TyOf K H x (.type T) ∧ zc6 T C = some b ∧ Q (.bl b) H) := h ▸ zqn
end
mutual
def Dn (H : Hp) : PyData → V → Prop
 | .none, v => v = .non
 | .bool b, v => v = .bl b
 | .int i, v => v = .int i
 | .str x, v => v = .str x
 | .list ds, v => ∃ a xs, v = .ref a ∧ H a = some (.lst xs) ∧ DnL H ds xs
 | .tuple ds, v => ∃ a xs, v = .ref a ∧ H a = some (.tup xs) ∧ DnL H ds xs
 | .dict kvs, v => kvs = [] ∧ ∃ a, v = .ref a ∧ H a = some (.dK [])
def DnL (H : Hp) : List PyData → List V → Prop
 | [], xs => xs = []
 | d :: ds, xs => ∃ x r, xs = x :: r ∧ Dn H d x ∧ DnL H ds r
end
mutual
theorem Dn.same {H H' : Hp} (h : Same H H') : ∀ (d : PyData) (v : V), Dn H d v → Dn H' d v
 | .none, _, q => q
 | .bool _, _, q => q
 | .int _, _, q => q
 | .str _, _, q => q
 | .list ds, _, ⟨a, xs, e, q, r⟩ => ⟨a, xs, e, h _ _ q, DnL.same h ds xs r⟩
 | .tuple ds, _, ⟨a, xs, e, q, r⟩ => ⟨a, xs, e, h _ _ q, DnL.same h ds xs r⟩
 | .dict _, _, ⟨e, a, q, r⟩ => ⟨e, a, q, h _ _ r⟩
theorem DnL.same {H H' : Hp} (h : Same H H') : ∀ (ds : List PyData) (xs : List V), DnL H ds xs → DnL H' ds xs
 | [], _, q => q
 | d :: ds, _, ⟨x, r, e, q, z⟩ => ⟨x, r, e, Dn.same h d x q, DnL.same h ds r z⟩
end
theorem DnL.length {H : Hp} : ∀ {ds : List PyData} {xs : List V}, DnL H ds xs → ds.length = xs.length
 | [], _, q => by cases (show _ = [] from q); rfl
 | d :: ds, _, ⟨x, r, e, _, z⟩ => by rw [e, List.length_cons, List.length_cons, DnL.length z]
theorem DnL.get {H : Hp} : ∀ {ds : List PyData} {xs : List V} {i : Nat} {x : V}, DnL H ds xs → xs[i]? = some x → ∃ d, ds[i]? = some d ∧ Dn H d x
 | [], _, i, x, q, e => by rw [(show _ = [] from q)] at e; simp at e
 | d :: ds, _, 0, x, ⟨y, r, e, q, z⟩, h => by rw [e] at h; cases h; exact ⟨d, rfl, q⟩
 | d :: ds, _, i + 1, x, ⟨y, r, e, q, z⟩, h => by
  rw [e] at h
  obtain ⟨d', h1, h2⟩ := DnL.get (i := i) z (by simpa using h)
  exact ⟨d', by simpa using h1, h2⟩
theorem DnL.get' {H : Hp} : ∀ {ds : List PyData} {xs : List V} {i : Nat} {d : PyData}, DnL H ds xs → ds[i]? = some d → ∃ x, xs[i]? = some x ∧ Dn H d x
 | [], _, i, x, q, e => by simp at e
 | d :: ds, _, 0, x, ⟨y, r, e, q, z⟩, h => by cases h; exact ⟨y, by rw [e]; rfl, q⟩
 | d :: ds, _, i + 1, x, ⟨y, r, e, q, z⟩, h => by
  obtain ⟨d', h1, h2⟩ := DnL.get' (i := i) z (by simpa using h)
  exact ⟨d', by rw [e]; simpa using h1, h2⟩
theorem DnL.append {H : Hp} : ∀ {ds es : List PyData} {xs ys : List V}, DnL H ds xs → DnL H es ys → DnL H (ds ++ es) (xs ++ ys)
 | [], es, xs, ys, q, r => by rw [(show xs = [] from q)]; exact r
 | d :: ds, es, _, ys, ⟨x, t, e, q, z⟩, r => ⟨x, t ++ ys, by rw [e]; rfl, q, DnL.append z r⟩
mutual
theorem Dn.reads {X : Cx} {pins : List (Addr × Obj)} {σ : St} {H : Hp} {s : Shared} (I : Inv X pins σ H s) : ∀ (d : PyData) (v : V) (u : Value), Dn H d v → d.canLay0 = true → RelV v u → ∃ as, Reads s.heap u d as
 | .none, v, u, q, _, r => by cases (show v = .non from q); cases (show u = Value.none from r); exact ⟨_, .none⟩
 | .bool b, v, u, q, _, r => by cases (show v = .bl b from q); cases (show u = Value.bool b from r); exact ⟨_, .bool b⟩
 | .int i, v, u, q, _, r => by cases (show v = .int i from q); obtain ⟨t, rfl⟩ := (show ∃ t, u = Value.int i t from r); exact ⟨_, .int i t⟩
 | .str x, v, u, q, _, r => by cases (show v = .str x from q); obtain ⟨t, rfl⟩ := (show ∃ t, u = Value.str x t from r); exact ⟨_, .str x t⟩
 | .list ds, _, u, ⟨a, xs, rfl, q, z⟩, c, r => by
  cases (show u = Value.ref a from r)
  obtain ⟨_, its, n, rv, e⟩ := (show ObjOk X.prog X.w H s.heap a (.lst xs) from I.hok a _ q)
  obtain ⟨as, ra⟩ := DnL.reads I ds xs its z (by simpa [PyData.canLay0] using c) rv
  exact ⟨_, .list e rfl rfl (by simpa using ra)⟩
 | .tuple ds, _, u, ⟨a, xs, rfl, q, z⟩, c, r => by
  cases (show u = Value.ref a from r)
  obtain ⟨_, its, rv, o, e, hc, n, hd⟩ := (show ObjOk X.prog X.w H s.heap a (.tup xs) from I.hok a _ q)
  obtain ⟨as, ra⟩ := DnL.reads I ds xs its z (by simpa [PyData.canLay0] using c) rv
  exact ⟨_, .tuple e hc hd (by simpa using ra)⟩
 | .dict k, v, u, _, c, _ => by simp [PyData.canLay0] at c
theorem DnL.reads {X : Cx} {pins : List (Addr × Obj)} {σ : St} {H : Hp} {s : Shared} (I : Inv X pins σ H s) : ∀ (ds : List PyData) (xs : List V) (us : List Value), DnL H ds xs → PyData.canLayAll0 ds = true → Vals xs us → ∃ as, ReadsAll s.heap us ds as
 | [], xs, us, q, _, r => by
  cases (show xs = [] from q)
  cases r
  exact ⟨_, .nil⟩
 | d :: ds, _, us, ⟨x, t, rfl, q, z⟩, c, r => by
  cases r with
  | cons rx rt =>
   have c' : PyData.canLay0 d = true ∧ PyData.canLayAll0 ds = true := by simpa [PyData.canLayAll0] using c
   obtain ⟨a1, r1⟩ := Dn.reads I d x _ q c'.1 rx
   obtain ⟨a2, r2⟩ := DnL.reads I ds t _ z c'.2 rt
   exact ⟨_, .cons r1 r2⟩
end
theorem zig {X : Cx} (hu : X.A.units + 64 < cLine) : OpR X (compareOp .NotEq) (fun x y H Q => ∃ d e : PyData, Dn H d x ∧ Dn H e y ∧ SeqAt.shaped d = true ∧ SeqAt.shaped e = true ∧ Q (.bl (!PyData.eqv d e)) H) := by
 intro pins s σ H x y v u Q I rx ry h
 obtain ⟨d, e, hd, he, sd, se, q⟩ := h
 obtain ⟨as, ra⟩ := Dn.reads I d x v hd (SeqAt.canLay_of_shaped sd) rx
 obtain ⟨bs, rb⟩ := Dn.reads I e y u he (SeqAt.canLay_of_shaped se) ry
 exact ne_dataH ra rb sd se hu ⟨.bl _, H, I, rfl, q⟩
mutual
theorem zfs : ∀ d : PyData, d.canLay0 = true → PyData.eqv d d = true
 | .none, _ => by simp [PyData.eqv]
 | .bool _, _ => by simp [PyData.eqv]
 | .int _, _ => by simp [PyData.eqv]
 | .str _, _ => by simp [PyData.eqv]
 | .list ds, c => by simpa [PyData.eqv] using zfx ds (by simpa [PyData.canLay0] using c)
 | .tuple ds, c => by simpa [PyData.eqv] using zfx ds (by simpa [PyData.canLay0] using c)
 | .dict _, c => by simp [PyData.canLay0] at c
theorem zfx : ∀ ds : List PyData, PyData.canLayAll0 ds = true → PyData.eqvAll ds ds = true
 | [], _ => by simp [PyData.eqvAll]
 | d :: ds, c => by
  have c' : PyData.canLay0 d = true ∧ PyData.canLayAll0 ds = true := by simpa [PyData.canLayAll0] using c
  simp [PyData.eqvAll, zfs d c'.1, zfx ds c'.2]
end
end L2
set_option maxRecDepth 100000
set_option maxHeartbeats 4000000
namespace Wd
open PySem L2
def tyN : PyData → String
 | .none => "NoneType" | .bool _ => "bool" | .int _ => "int" | .str _ => "str" | .list _ => "list" | .tuple _ => "tuple" | .dict _ => "dict"
def isW : PyData → Bool
 | .int _ => true
 | _ => false
def isInt : PyData → Bool
 | .int _ => true
 | .bool _ => true
 | _ => false
def zrn : PyData → Bool
 | .bool _ => true
 | _ => false
theorem ztf {K : PySem.W.Frag} {H : Hp} : ∀ {d : PyData} {v : V}, Dn H d v → TyOf K H v (.type (tyN d))
 | .none, v, q => by cases (show v = .non from q); exact .non
 | .bool b, v, q => by cases (show v = .bl b from q); exact .bl b
 | .int i, v, q => by cases (show v = .int i from q); exact .int i
 | .str x, v, q => by cases (show v = .str x from q); exact .str x
 | .list ds, _, ⟨a, xs, rfl, q, _⟩ => .lst q
 | .tuple ds, _, ⟨a, xs, rfl, q, _⟩ => .tup q
 | .dict k, _, ⟨_, a, rfl, q⟩ => .dK q
theorem zty : ∀ d : PyData, zc6 (tyN d) "int" = some (isInt d)
 | .none => (by decide +kernel : zc6 "NoneType" "int" = some false)
 | .bool _ => (by decide +kernel : zc6 "bool" "int" = some true)
 | .int _ => (by decide +kernel : zc6 "int" "int" = some true)
 | .str _ => (by decide +kernel : zc6 "str" "int" = some false)
 | .list _ => (by decide +kernel : zc6 "list" "int" = some false)
 | .tuple _ => (by decide +kernel : zc6 "tuple" "int" = some false)
 | .dict _ => (by decide +kernel : zc6 "dict" "int" = some false)
theorem zr7 : ∀ d : PyData, zc6 (tyN d) "bool" = some (zrn d)
 | .none => (by decide +kernel : zc6 "NoneType" "bool" = some false)
 | .bool _ => (by decide +kernel : zc6 "bool" "bool" = some true)
 | .int _ => (by decide +kernel : zc6 "int" "bool" = some false)
 | .str _ => (by decide +kernel : zc6 "str" "bool" = some false)
 | .list _ => (by decide +kernel : zc6 "list" "bool" = some false)
 | .tuple _ => (by decide +kernel : zc6 "tuple" "bool" = some false)
 | .dict _ => (by decide +kernel : zc6 "dict" "bool" = some false)
def zdi (d : PyData) (lo hi : Int) : Bool := match d with
 | .int i => decide (lo ≤ i) && decide (i ≤ hi)
 | _ => false
def zh1 (d : PyData) : Bool := match d with
 | .tuple ds => decide (0 < ds.length)
 | _ => false
def zb5 (many : Int) : List PyData → Int → Bool
 | [], _ => true
 | .int i :: ds, last => decide (last + 1 ≤ i) && decide (i ≤ many - 1) && zb5 many ds i
 | _ :: _, _ => false
def zwh (many : Int) : PyData → PyData → Bool
 | .int up, .tuple ks => zb5 many ks up
 | _, _ => false
def zu9 (h : PyData) : PyData → Bool
 | .tuple ks => zdi h 1 ks.length
 | _ => false
def zwa (l : PyData) : PyData → Bool
 | .int hi => zdi l 0 hi
 | _ => false
def zey (many : Int) (d : PyData) : Bool := match d with
 | .tuple [u, l, h, k] => zdi u 0 (many - 1) && (zh1 k && (zwh many u k && (zu9 h k && zwa l h)))
 | _ => false
def zpu : PyData → PyData
 | .tuple (x :: _) => x
 | _ => .none
def zhc : PyData → Bool
 | .tuple [_, n] => isW n
 | _ => false
def zm5 (many : Int) (d : PyData) : Bool := match d with
 | .tuple ds => decide (0 < ds.length) && ds.all zhc && zb5 many (ds.map zpu) (-1)
 | _ => false
def neI : PyData → PyData → Bool
 | .int i, .int j => !decide (i = j)
 | _, _ => false
def zo1 (many : Int) (s : Str) (x y : PyData) : Bool := if s = ("most" : Str) then isW x && zm5 many y else if s = ("needs" : Str) ∨ s = ("bans" : Str) then zdi x 0 (many - 1) && (zdi y 0 (many - 1) && neI x y) else false
def zvu (many : Int) (x y : PyData) : PyData → Bool
 | .str s => zo1 many s x y
 | _ => false
def zh8 (many : Int) (d : PyData) : Bool := match d with
 | .tuple [k, x, y] => zvu many x y k
 | _ => false
def toI : PyData → Int
 | .int i => i
 | _ => 0
def zlo : PyData → List Int
 | .tuple [_, _, _, .tuple ks] => ks.map toI
 | _ => []
structure zqy (many : Int) (bs : List PyData) : Prop where
 each : ∀ b ∈ bs, zey many b = true
 kids : (bs.flatMap zlo).Perm ((List.range' 0 (many - 1).toNat).map fun i : Nat => (1 : Int) + i)
theorem zag {H : Hp} {p : Addr} (h : H p = none) (o : HO) : Same H (upd H p o) := zg0 fun b u q => by rw [zam (zav q h)]; exact q
theorem small {n : Nat} (h : n ≤ 1000) : n ≤ sizeLine := Nat.le_of_lt (zcg h)
theorem zd2 {H : Hp} {i : Int} {v : V} (h : Dn H (.int i) v) : v = .int i := h
theorem zdp {H : Hp} {ds : List PyData} {v : V} (h : Dn H (.tuple ds) v) : ∃ a xs, v = .ref a ∧ H a = some (.tup xs) ∧ DnL H ds xs := h
theorem zn7 {d : PyData} (h : isW d = true) : ∃ i, d = .int i := by
 cases d <;> first | exact ⟨_, rfl⟩ | cases h
theorem sqT {K : PySem.W.Frag} {H : Hp} {a : Addr} {xs : List V} (h : H a = some (.tup xs)) : SqT K H a xs := .inl (.inl h)
theorem at0 {x : V} {r : List V} : atI (x :: r) 0 = some x := zc8 (j := 0) rfl
theorem at1 {x y : V} {r : List V} : atI (x :: y :: r) 1 = some y := zc8 (j := 1) rfl
theorem at2 {x y z : V} {r : List V} : atI (x :: y :: z :: r) 2 = some z := zc8 (j := 2) rfl
theorem at3 {x y z w : V} {r : List V} : atI (x :: y :: z :: w :: r) 3 = some w := zc8 (j := 3) rfl
theorem zd1 {d : PyData} {lo hi : Int} (h : zdi d lo hi = true) : ∃ i, d = .int i ∧ lo ≤ i ∧ i ≤ hi := by
 cases d with
 | int i =>
  have z : (decide (lo ≤ i) && decide (i ≤ hi)) = true := h
  simp only [Bool.and_eq_true, decide_eq_true_eq] at z
  exact ⟨i, rfl, z.1, z.2⟩
 | _ => cases h
theorem zmb {d : PyData} (h : zh1 d = true) : ∃ ds, d = .tuple ds ∧ 0 < ds.length := by
 cases d with
 | tuple ds => exact ⟨ds, rfl, of_decide_eq_true h⟩
 | _ => cases h
theorem zmq {H : Hp} : ∀ {ns : List Int} {xs : List V}, DnL H (ns.map PyData.int) xs → xs = ns.map V.int
 | [], xs, h => h
 | n :: r, _, ⟨x, t, rfl, hx, ht⟩ => by rw [zmq ht, zd2 hx]; rfl
theorem zmi {H : Hp} : ∀ (ns : List Int), DnL H (ns.map PyData.int) (ns.map V.int)
 | [] => rfl
 | n :: r => ⟨_, _, rfl, rfl, zmi r⟩
end Wd
set_option maxRecDepth 100000
set_option maxHeartbeats 4000000
namespace Ow
open PySem L2 Wd
def zsq : Sp := fun vs H Q _ => ∃ (d : PyData) (v : V), vs = [v] ∧ Dn H d v ∧ Q (.bl (isW d)) H
structure WoodAt (H : Hp) (wd : Addr) (many : Int) (xs ys : List V) : Prop where
 ex : ∃ tb tc, H wd = some (.tup [.int many, .ref tb, .ref tc]) ∧ H tb = some (.tup xs) ∧ H tc = some (.tup ys)
def zum : Sp := fun vs H Q _ => ∃ (wd : Addr) (many : Int) (xs ys : List V), vs = [.ref wd] ∧ WoodAt H wd many xs ys ∧ Q (.int ((xs.length : Int) + (ys.length : Int))) H
def zsy : Sp := fun vs H Q _ => ∃ (wd : Addr) (many : Int) (xs ys : List V) (t : Nat) (v : V), vs = [.ref wd, .int t] ∧ WoodAt H wd many xs ys ∧ (xs ++ ys)[t]? = some v ∧ Q v H
theorem zld {α β : Type} {f : α → List β} {ds : List α} {i : Nat} {d : α} (h : ds[i]? = some d) : (ds.take (i + 1)).flatMap f = (ds.take i).flatMap f ++ f d := by
 obtain ⟨hi, e⟩ := List.getElem?_eq_some_iff.mp h
 rw [List.take_succ_eq_append_getElem hi, List.flatMap_append, e]
 simp
def zbh : Nat → PyData → Bool
 | _, .int _ => true
 | _, .str s => PyData.strOk s
 | n + 1, .tuple ds => decide (ds.length ≤ 1000) && ds.all (zbh n)
 | _, _ => false
theorem zqi {many one x : Int} (h1 : 1 < many) (h9 : many ≤ 9) (o0 : 0 ≤ one) (o1 : one < many) (x0 : 0 ≤ x) (x1 : x < many - 1) : 0 ≤ (one + 1 + x) % many ∧ (one + 1 + x) % many < many ∧ one ≠ (one + 1 + x) % many := by
 have e : many = 2 ∨ many = 3 ∨ many = 4 ∨ many = 5 ∨ many = 6 ∨ many = 7 ∨ many = 8 ∨ many = 9 := by omega
 rcases e with rfl | rfl | rfl | rfl | rfl | rfl | rfl | rfl <;> omega
theorem zny : PyData.strOk ("most" : Str) = true := by decide +kernel
theorem zhk : PyData.strOk ("needs" : Str) = true := by decide +kernel
theorem ziz : PyData.strOk ("bans" : Str) = true := by decide +kernel
structure PairsTo (H : Hp) (i : Nat) (ps : List PyData) (xs : List V) : Prop where
 dn : DnL H ps xs
 ok : ps.all zhc = true
 flat : ps.all (zbh 1) = true
 ris : zb5 (i : Int) (ps.map zpu) (-1) = true
 few : ps.length ≤ i
theorem zeg {m m' : Int} (h : m ≤ m') : ∀ {ks : List PyData} {u : Int}, zb5 m ks u = true → zb5 m' ks u = true
 | [], _, _ => rfl
 | .int i :: ks, u, z => by
  have z' : (decide (u + 1 ≤ i) && decide (i ≤ m - 1) && zb5 m ks i) = true := z
  show (decide (u + 1 ≤ i) && decide (i ≤ m' - 1) && zb5 m' ks i) = true
  simp only [Bool.and_eq_true, decide_eq_true_eq] at z' ⊢
  exact ⟨⟨z'.1.1, by omega⟩, zeg h z'.2⟩
 | .none :: _, _, z => by cases z
 | .bool _ :: _, _, z => by cases z
 | .str _ :: _, _, z => by cases z
 | .list _ :: _, _, z => by cases z
 | .tuple _ :: _, _, z => by cases z
 | .dict _ :: _, _, z => by cases z
theorem zec {m j : Int} (h : j < m) : ∀ {ks : List PyData} {u : Int}, zb5 j ks u = true → u < j → zb5 m (ks ++ [.int j]) u = true
 | [], u, _, hu => by
  show (decide (u + 1 ≤ j) && decide (j ≤ m - 1) && true) = true
  rw [decide_eq_true (by omega), decide_eq_true (by omega)]
  rfl
 | .int i :: ks, u, z, hu => by
  have z' : (decide (u + 1 ≤ i) && decide (i ≤ j - 1) && zb5 j ks i) = true := z
  show (decide (u + 1 ≤ i) && decide (i ≤ m - 1) && zb5 m (ks ++ [.int j]) i) = true
  simp only [Bool.and_eq_true, decide_eq_true_eq] at z' ⊢
  exact ⟨⟨z'.1.1, by omega⟩, zec h z'.2 (by omega)⟩
 | .none :: _, _, z, _ => by cases z
 | .bool _ :: _, _, z, _ => by cases z
 | .str _ :: _, _, z, _ => by cases z
 | .list _ :: _, _, z, _ => by cases z
 | .tuple _ :: _, _, z, _ => by cases z
 | .dict _ :: _, _, z, _ => by cases z
theorem DnL.keepT {H H' : Hp} {f : PyData → Bool} (k : ∀ d v, f d = true → Dn H d v → Dn H' d v) : ∀ (ds : List PyData) (xs : List V), ds.all f = true → DnL H ds xs → DnL H' ds xs
 | [], _, _, q => q
 | d :: ds, _, c, ⟨x, r, e, q, z⟩ => by
  rw [List.all_cons, Bool.and_eq_true] at c
  exact ⟨x, r, e, k d x c.1 q, DnL.keepT k ds r c.2 z⟩
theorem Dn.keepT {H H' : Hp} (h : ∀ b xs, H b = some (.tup xs) → H' b = some (.tup xs)) : ∀ (n : Nat) (d : PyData) (v : V), zbh n d = true → Dn H d v → Dn H' d v
 | _, .int _, _, _, q => q
 | _, .str _, _, _, q => q
 | n + 1, .tuple ds, _, c, ⟨p, xs, e, q, z⟩ => ⟨p, xs, e, h _ _ q, DnL.keepT (Dn.keepT h n) ds xs ((Bool.and_eq_true _ _).mp c).2 z⟩
 | 0, .tuple ds, _, c, _ => by cases c
 | 0, .none, _, c, _ => by cases c
 | n + 1, .none, _, c, _ => by cases c
 | 0, .bool _, _, c, _ => by cases c
 | n + 1, .bool _, _, c, _ => by cases c
 | 0, .list _, _, c, _ => by cases c
 | n + 1, .list _, _, c, _ => by cases c
 | 0, .dict _, _, c, _ => by cases c
 | n + 1, .dict _, _, c, _ => by cases c
theorem zmc {H : Hp} {p : Addr} {xs ys : List V} (h : H p = some (.lst xs)) : ∀ b zs, H b = some (.tup zs) → upd H p (.lst ys) b = some (.tup zs) := fun b zs q => by
 rw [zam (zlr q h (by intro z; cases z))]
 exact q
structure Grp where
 t : Addr
 up : Int
 l : Addr
 kids : List Int
structure GAt (H0 H : Hp) (g : Addr) (gs : List Grp) : Prop where
 at_ : H g = some (.lst (gs.map fun x => V.ref x.t))
 new : H0 g = none
 tup : ∀ x ∈ gs, H x.t = some (.tup [.int x.up, .ref x.l])
 lst : ∀ x ∈ gs, H x.l = some (.lst (x.kids.map V.int)) ∧ H0 x.l = none ∧ g ≠ x.l
 nd : (gs.map (·.l)).Nodup
structure GOk (k : Int) (gs : List Grp) : Prop where
 each : ∀ x ∈ gs, 0 ≤ x.up ∧ x.kids ≠ [] ∧ zb5 k (x.kids.map PyData.int) x.up = true
 perm : (gs.flatMap (·.kids)).Perm ((List.range' 0 (k - 1).toNat).map fun i : Nat => (1 : Int) + i)
theorem GOk.few {k : Int} {gs : List Grp} (G : GOk k gs) : gs.length ≤ (k - 1).toNat := by
 have e := G.perm.length_eq
 rw [List.length_map, List.length_range'] at e
 rw [← e]
 have go : ∀ l : List Grp, (∀ x ∈ l, x.kids ≠ []) → l.length ≤ (l.flatMap (·.kids)).length := by
  intro l
  induction l with
  | nil => intro _; exact Nat.le_refl _
  | cons x r ih =>
   intro h
   rw [List.flatMap_cons, List.length_append, List.length_cons]
   have h1 := List.length_pos_iff.mpr (h x List.mem_cons_self)
   have h2 := ih fun y hy => h y (List.mem_cons_of_mem _ hy)
   omega
 exact go gs fun x hx => (G.each x hx).2.1
theorem zi1 (k : Nat) : ((List.range' 0 k).map fun i : Nat => (1 : Int) + i) ++ [((k : Int) + 1)] = (List.range' 0 (k + 1)).map fun i : Nat => (1 : Int) + i := by
 rw [List.range'_concat, List.map_append]
 simp
 omega
theorem GOk.new {k : Nat} {gs : List Grp} {t l : Addr} {u : Int} (G : GOk ((k : Int) + 1) gs) (u0 : 0 ≤ u) (u1 : u < (k : Int) + 1) : GOk ((k : Int) + 2) (gs ++ [⟨t, u, l, [(k : Int) + 1]⟩]) where
 each := fun x hx => by
  rcases List.mem_append.mp hx with z | z
  ·obtain ⟨a, b, c⟩ := G.each x z
   exact ⟨a, b, zeg (by omega) c⟩
  ·rw [List.mem_singleton.mp z]
   refine ⟨u0, by simp, ?_⟩
   show (decide (u + 1 ≤ (k : Int) + 1) && decide ((k : Int) + 1 ≤ (k : Int) + 2 - 1) && true) = true
   rw [decide_eq_true (by omega), decide_eq_true (by omega)]
   rfl
 perm := by
  rw [List.flatMap_append]
  have e : ((k : Int) + 2 - 1).toNat = k + 1 := by omega
  have e' : ((k : Int) + 1 - 1).toNat = k := by omega
  have p := G.perm
  rw [e'] at p
  rw [e, ← zi1]
  exact p.append (by simp)
theorem GOk.put {k : Nat} {pre post : List Grp} {x : Grp} (G : GOk ((k : Int) + 1) (pre ++ x :: post)) : GOk ((k : Int) + 2) (pre ++ ⟨x.t, x.up, x.l, x.kids ++ [(k : Int) + 1]⟩ :: post) where
 each := fun y hy => by
  have old : ∀ z ∈ pre ++ x :: post, 0 ≤ z.up ∧ z.kids ≠ [] ∧ zb5 ((k : Int) + 2) (z.kids.map PyData.int) z.up = true := fun z hz => by
   obtain ⟨a, b, c⟩ := G.each z hz
   exact ⟨a, b, zeg (by omega) c⟩
  rcases List.mem_append.mp hy with z | z
  ·exact old y (List.mem_append_left _ z)
  ·rcases List.mem_cons.mp z with z | z
   ·subst z
    obtain ⟨a, b, c⟩ := G.each x (by simp)
    refine ⟨a, by simp, ?_⟩
    show zb5 ((k : Int) + 2) ((x.kids ++ [(k : Int) + 1]).map PyData.int) x.up = true
    rw [List.map_append]
    refine zec (by omega) c ?_
    cases hk : x.kids with
    | nil => exact absurd hk b
    | cons n r =>
     rw [hk] at c
     have c' : (decide (x.up + 1 ≤ n) && decide (n ≤ (k : Int) + 1 - 1) && zb5 ((k : Int) + 1) (r.map PyData.int) n) = true := c
     simp only [Bool.and_eq_true, decide_eq_true_eq] at c'
     omega
   ·exact old y (by simp [z])
 perm := by
  have e : ((k : Int) + 2 - 1).toNat = k + 1 := by omega
  have e' : ((k : Int) + 1 - 1).toNat = k := by omega
  have p := G.perm
  rw [e'] at p
  rw [e, ← zi1]
  refine List.Perm.trans ?_ (p.append (List.Perm.refl [((k : Int) + 1)]))
  rw [List.flatMap_append, List.flatMap_append, List.flatMap_cons, List.flatMap_cons, List.append_assoc, List.append_assoc, List.append_assoc]
  exact (List.Perm.refl _).append ((List.Perm.refl _).append List.perm_append_comm)
theorem GAt.put {H0 H : Hp} {g : Addr} {pre post : List Grp} {x : Grp} {k : Int} (G : GAt H0 H g (pre ++ x :: post)) : GAt H0 (upd H x.l (.lst (x.kids.map V.int ++ [.int k]))) g (pre ++ ⟨x.t, x.up, x.l, x.kids ++ [k]⟩ :: post) := by
 have hx : x ∈ pre ++ x :: post := by simp
 obtain ⟨a, b, c⟩ := G.lst x hx
 have nd := G.nd
 rw [List.map_append, List.map_cons] at nd
 obtain ⟨_, n2, n3⟩ := List.nodup_append.mp nd
 have oth : ∀ y, y ∈ pre ∨ y ∈ post → y.l ≠ x.l := fun y hy e => by
  rcases hy with hy | hy
  ·exact n3 y.l (List.mem_map.mpr ⟨y, hy, rfl⟩) x.l (by simp) e
  ·exact (List.nodup_cons.mp n2).1 (by rw [← e]; exact List.mem_map.mpr ⟨y, hy, rfl⟩)
 have mem : ∀ y ∈ pre ++ (⟨x.t, x.up, x.l, x.kids ++ [k]⟩ : Grp) :: post, (y ∈ pre ∨ y ∈ post) ∨ y = ⟨x.t, x.up, x.l, x.kids ++ [k]⟩ := fun y hy => by
  rcases List.mem_append.mp hy with z | z
  ·exact .inl (.inl z)
  ·rcases List.mem_cons.mp z with z | z
   ·exact .inr z
   ·exact .inl (.inr z)
 have old : ∀ y, y ∈ pre ∨ y ∈ post → y ∈ pre ++ x :: post := fun y hy => by
  rcases hy with z | z <;> simp [z]
 refine ⟨?_, G.new, fun y hy => ?_, fun y hy => ?_, ?_⟩
 ·rw [zam c, G.at_, List.map_append, List.map_append, List.map_cons, List.map_cons]
 ·rcases mem y hy with z | rfl
  ·rw [zam (zlr (G.tup y (old y z)) a (by intro q; cases q))]
   exact G.tup y (old y z)
  ·show upd H x.l _ x.t = _
   rw [zam (zlr (G.tup x hx) a (by intro q; cases q))]
   exact G.tup x hx
 ·rcases mem y hy with z | rfl
  ·obtain ⟨a', b', c'⟩ := G.lst y (old y z)
   refine ⟨?_, b', c'⟩
   rw [zam (oth y z)]
   exact a'
  ·refine ⟨?_, b, c⟩
   show upd H x.l _ x.l = _
   rw [zad, List.map_append]
   rfl
 ·have e : (pre ++ (⟨x.t, x.up, x.l, x.kids ++ [k]⟩ : Grp) :: post).map (·.l) = (pre ++ x :: post).map (·.l) := by
   rw [List.map_append, List.map_append, List.map_cons, List.map_cons]
  rw [e]
  exact G.nd
theorem GAt.same {H0 H H' : Hp} {g : Addr} {gs : List Grp} (G : GAt H0 H g gs) (s : Same H H') : GAt H0 H' g gs :=
 ⟨s _ _ G.at_, G.new, fun x hx => s _ _ (G.tup x hx), fun x hx => ⟨s _ _ (G.lst x hx).1, (G.lst x hx).2⟩, G.nd⟩
def zq3 (u lo hi : Int) (kids : List Int) : PyData := .tuple [.int u, .int lo, .int hi, .tuple (kids.map PyData.int)]
theorem zuu {m u lo hi : Int} {kids : List Int} (u0 : 0 ≤ u) (ne : kids ≠ []) (r : zb5 m (kids.map PyData.int) u = true) (l0 : 0 ≤ lo) (l1 : lo ≤ hi) (h0 : 1 ≤ hi) (h1 : hi ≤ kids.length) : zey m (zq3 u lo hi kids) = true := by
 have u1 : u ≤ m - 1 := by
  cases hk : kids with
  | nil => exact absurd hk ne
  | cons n t =>
   rw [hk] at r
   have c' : (decide (u + 1 ≤ n) && decide (n ≤ m - 1) && zb5 m (t.map PyData.int) n) = true := r
   simp only [Bool.and_eq_true, decide_eq_true_eq] at c'
   omega
 show (zdi (.int u) 0 (m - 1) && (zh1 (.tuple (kids.map PyData.int)) && (zb5 m (kids.map PyData.int) u && (zdi (.int hi) 1 ((kids.map PyData.int).length : Nat) && zdi (.int lo) 0 hi)))) = true
 have e1 : zdi (.int u) 0 (m - 1) = true := by
  show (decide (0 ≤ u) && decide (u ≤ m - 1)) = true
  rw [decide_eq_true u0, decide_eq_true u1]
  rfl
 have e2 : zh1 (.tuple (kids.map PyData.int)) = true := by
  refine decide_eq_true ?_
  rw [List.length_map]
  exact List.length_pos_iff.mpr ne
 have e3 : zdi (.int hi) 1 ((kids.map PyData.int).length : Nat) = true := by
  show (decide (1 ≤ hi) && decide (hi ≤ ((kids.map PyData.int).length : Nat))) = true
  rw [List.length_map, decide_eq_true h0, decide_eq_true h1]
  rfl
 have e4 : zdi (.int lo) 0 hi = true := by
  show (decide (0 ≤ lo) && decide (lo ≤ hi)) = true
  rw [decide_eq_true l0, decide_eq_true l1]
  rfl
 rw [e1, e2, r, e3, e4]
 rfl
theorem znp (kids : List Int) : (kids.map PyData.int).all (zbh 1) = true := by
 rw [List.all_eq_true]
 intro x hx
 obtain ⟨i, _, rfl⟩ := List.mem_map.mp hx
 rfl
theorem zly (u lo hi : Int) (kids : List Int) (h : kids.length ≤ 1000) : zbh 3 (zq3 u lo hi kids) = true := by
 show (true && (true && (true && (true && ((decide ((kids.map PyData.int).length ≤ 1000) && (kids.map PyData.int).all (zbh 1)) && true))))) = true
 rw [znp, List.length_map, decide_eq_true h]
 rfl
theorem zrx (u lo hi : Int) (kids : List Int) : zlo (zq3 u lo hi kids) = kids := by
 show (kids.map PyData.int).map toI = kids
 rw [List.map_map]
 have : (toI ∘ PyData.int) = id := rfl
 rw [this, List.map_id]
end Ow
namespace Wd
inductive Tie where
 | bough (u : Nat) (lo hi : Int) (ks : List Nat)
 | needs (a b : Nat)
 | bans (a b : Nat)
 | most (top : Int) (ps : List (Nat × Int))
def cnt (ks : List Nat) (s : Nat) : Nat := (ks.filter fun k => s.testBit k).length
def zfy (ps : List (Nat × Int)) (f : Nat × Int → Bool) : Int := ((ps.filter f).map (·.2)).sum
def Tie.keep : Tie → Nat → Bool
 | .bough u lo hi ks, s => if s.testBit u = true then decide (lo ≤ (cnt ks s : Int)) && decide ((cnt ks s : Int) ≤ hi) else decide (cnt ks s = 0)
 | .needs a b, s => !s.testBit a || s.testBit b
 | .bans a b, s => !s.testBit a || !s.testBit b
 | .most top ps, s => decide (zfy ps (fun p => s.testBit p.1) ≤ top)
structure Tie.BoughOkW (m u : Nat) (lo hi : Int) (ks : List Nat) : Prop where
 um : u < m
 ks0 : ks ≠ []
 up : ∀ k ∈ ks, u < k ∧ k < m
 ris : ks.Pairwise (· < ·)
 few : ks.length ≤ m
 lo0 : 0 ≤ lo
 lohi : lo ≤ hi
structure Tie.BoughOk (m u : Nat) (lo hi : Int) (ks : List Nat) : Prop extends Tie.BoughOkW m u lo hi ks where
 hi1 : 1 ≤ hi
 hik : hi ≤ ks.length
theorem Tie.BoughOkW.nd {m u : Nat} {lo hi : Int} {ks : List Nat} (h : Tie.BoughOkW m u lo hi ks) : ks.Nodup := h.ris.imp fun a => Nat.ne_of_lt a
def Tie.Ok (m : Nat) : Tie → Prop
 | .bough u lo hi ks => Tie.BoughOkW m u lo hi ks
 | .needs a b => a < m ∧ b < m ∧ a ≠ b
 | .bans a b => a < m ∧ b < m ∧ a ≠ b
 | .most _ ps => ps ≠ [] ∧ (∀ p ∈ ps, p.1 < m) ∧ (ps.map (·.1)).Pairwise (· < ·) ∧ ps.length ≤ m
def InS (y n s : Nat) : Prop := (∀ k, y.testBit k = true → s.testBit k = true) ∧ ∀ k, n.testBit k = true → s.testBit k = false
def zex (ps : List (Nat × Int)) (y n : Nat) : Int := zfy ps fun p => y.testBit p.1 || (decide (p.2 < 0) && !n.testBit p.1)
def Tie.sb : Tie → Nat → Nat → Bool
 | .needs a b, y, n => y.testBit a && n.testBit b
 | .bans a b, y, n => y.testBit a && y.testBit b
 | .most top ps, y, n => decide (top < zex ps y n)
 | .bough u lo hi ks, y, n => !(!n.testBit u && (decide ((cnt ks y : Int) ≤ hi) && decide (lo ≤ (ks.length : Int) - cnt ks n))) && !(!y.testBit u && decide (cnt ks y = 0))
theorem zs2 {u : Nat} {lo hi : Int} {ks : List Nat} {s : Nat} (h : s.testBit u = true) : (Tie.bough u lo hi ks).keep s = (decide (lo ≤ (cnt ks s : Int)) && decide ((cnt ks s : Int) ≤ hi)) := by
 simp only [Tie.keep, h, if_true]
theorem zsg {u : Nat} {lo hi : Int} {ks : List Nat} {s : Nat} (h : ¬ s.testBit u = true) : (Tie.bough u lo hi ks).keep s = decide (cnt ks s = 0) := by
 simp only [Tie.keep, if_neg h]
theorem zj9 (p : Nat × Int) (r : List (Nat × Int)) (f : Nat × Int → Bool) : zfy (p :: r) f = (if f p = true then p.2 else 0) + zfy r f := by
 unfold zfy
 by_cases h : f p = true
 ·rw [List.filter_cons_of_pos h, if_pos h]; simp
 ·rw [List.filter_cons_of_neg h, if_neg h]; simp
theorem zoo {f g : Nat × Int → Bool} : ∀ {ps : List (Nat × Int)}, (∀ p ∈ ps, (if f p = true then p.2 else 0) ≤ (if g p = true then p.2 else 0)) → zfy ps f ≤ zfy ps g
 | [], _ => Int.le_refl _
 | p :: r, h => by
  rw [zj9, zj9]
  have h1 := h p List.mem_cons_self
  have h2 := zoo (ps := r) fun q hq => h q (List.mem_cons_of_mem _ hq)
  omega
theorem zn4 {f g : Nat × Int → Bool} {ps : List (Nat × Int)} (h : ∀ p ∈ ps, f p = g p) : zfy ps f = zfy ps g := by
 unfold zfy
 rw [List.filter_congr h]
theorem zdl (k : Nat) (r : List Nat) (s : Nat) : cnt (k :: r) s = (if s.testBit k = true then 1 else 0) + cnt r s := by
 unfold cnt
 by_cases h : s.testBit k = true
 ·rw [List.filter_cons_of_pos (p := fun k => s.testBit k) h, if_pos h, List.length_cons]; omega
 ·rw [List.filter_cons_of_neg (p := fun k => s.testBit k) h, if_neg h]; omega
theorem zg8 {ks : List Nat} {s t : Nat} (h : ∀ k ∈ ks, s.testBit k = t.testBit k) : cnt ks s = cnt ks t := by
 unfold cnt
 rw [List.filter_congr h]
theorem zl1 {s t : Nat} : ∀ {ks : List Nat}, (∀ k ∈ ks, s.testBit k = true → t.testBit k = true) → cnt ks s ≤ cnt ks t
 | [], _ => Nat.le_refl _
 | k :: r, h => by
  rw [zdl, zdl]
  have h2 := zl1 (ks := r) fun q hq => h q (List.mem_cons_of_mem _ hq)
  have h1 := h k List.mem_cons_self
  by_cases c : s.testBit k = true
  ·rw [if_pos c, if_pos (h1 c)]; omega
  ·rw [if_neg c]; omega
theorem zhx {s n : Nat} : ∀ {ks : List Nat}, (∀ k ∈ ks, n.testBit k = true → s.testBit k = false) → cnt ks s + cnt ks n ≤ ks.length
 | [], _ => Nat.le_refl _
 | k :: r, h => by
  rw [zdl, zdl, List.length_cons]
  have h2 := zhx (ks := r) fun q hq => h q (List.mem_cons_of_mem _ hq)
  have h1 := h k List.mem_cons_self
  by_cases c : n.testBit k = true
  ·rw [h1 c, if_pos c]; simp; omega
  ·rw [if_neg c]; split <;> omega
def zdu : List Nat → Nat
 | [] => 0
 | k :: r => zdu r ||| 2 ^ k
theorem zg7 (j : Nat) : ∀ l : List Nat, (zdu l).testBit j = decide (j ∈ l)
 | [] => by simp [zdu]
 | k :: r => by
  rw [zdu, Nat.testBit_or, zg7 j r, Nat.testBit_two_pow]
  by_cases h : k = j
  ·subst h; simp
  ·have h' : j ≠ k := fun z => h z.symm
   simp [h, h']
theorem zpr {ps : List (Nat × Int)} (h : (ps.map (·.1)).Nodup) {p q : Nat × Int} (hp : p ∈ ps) (hq : q ∈ ps) (e : p.1 = q.1) : p = q := by
 induction ps with
 | nil => cases hp
 | cons x r ih =>
  rw [List.map_cons, List.nodup_cons] at h
  rcases List.mem_cons.mp hp with e1 | hp
  ·rcases List.mem_cons.mp hq with e2 | hq
   ·rw [e1, e2]
   ·exact absurd (show x.1 ∈ r.map (·.1) from List.mem_map.mpr ⟨q, hq, by rw [← e1, e]⟩) h.1
  ·rcases List.mem_cons.mp hq with e2 | hq
   ·exact absurd (show x.1 ∈ r.map (·.1) from List.mem_map.mpr ⟨p, hp, by rw [← e2, e]⟩) h.1
   ·exact ih h.2 hp hq
theorem znt {m : Nat} {t : Tie} (ok : t.Ok m) {s s' : Nat} (h : ∀ k, k < m → s.testBit k = s'.testBit k) : t.keep s = t.keep s' := by
 cases t with
 | bough u lo hi ks =>
  have e : cnt ks s = cnt ks s' := zg8 fun k hk => h k (ok.up k hk).2
  simp only [Tie.keep]
  rw [e, h u ok.um]
 | needs a b => simp only [Tie.keep]; rw [h a ok.1, h b ok.2.1]
 | bans a b => simp only [Tie.keep]; rw [h a ok.1, h b ok.2.1]
 | most top ps =>
  simp only [Tie.keep]
  rw [zn4 fun p hp => h p.1 (ok.2.1 p hp)]
theorem zib {y n : Nat} {l : List Nat} (d : ∀ k, y.testBit k = true → n.testBit k = false) (h : ∀ k ∈ l, n.testBit k = false) : InS y n (y ||| zdu l) := by
 refine ⟨fun k hk => ?_, fun k hk => ?_⟩
 ·rw [Nat.testBit_or, hk, Bool.true_or]
 ·rw [Nat.testBit_or, zg7]
  have h1 : y.testBit k = false := by
   cases e : y.testBit k with
   | false => rfl
   | true => rw [d k e] at hk; cases hk
  have h2 : ¬ k ∈ l := fun z => by rw [h k z] at hk; cases hk
  rw [h1, decide_eq_false h2]; rfl
theorem zc1 (y : Nat) (l : List Nat) (k : Nat) : (y ||| zdu l).testBit k = (y.testBit k || decide (k ∈ l)) := by
 rw [Nat.testBit_or, zg7]
theorem zgw {y : Nat} : ∀ {ks : List Nat}, ks.Nodup → ∀ c : Nat, cnt ks y ≤ c → ∀ n : Nat, (∀ k, y.testBit k = true → n.testBit k = false) → c + cnt ks n ≤ ks.length →
  ∃ l : List Nat, (∀ k ∈ l, k ∈ ks ∧ n.testBit k = false) ∧ cnt ks (y ||| zdu l) = c
 | [], _, c, h1, n, _, h2 => ⟨[], (fun _ z => nomatch z), by simp [cnt] at h2 ⊢; omega⟩
 | k :: r, nd, c, h1, n, d, h2 => by
  obtain ⟨nk, nr⟩ := List.nodup_cons.mp nd
  rw [zdl] at h1 h2
  rw [List.length_cons] at h2
  by_cases hy : y.testBit k = true
  ·rw [if_pos hy] at h1
   have hn := d k hy
   rw [hn] at h2
   obtain ⟨l, hl, e⟩ := zgw nr (c - 1) (by omega) n d (by simp at h2; omega)
   refine ⟨l, fun j hj => ⟨List.mem_cons_of_mem _ (hl j hj).1, (hl j hj).2⟩, ?_⟩
   rw [zdl, e, zc1, hy, Bool.true_or, if_pos rfl]
   omega
  ·rw [if_neg hy] at h1
   by_cases hn : n.testBit k = true
   ·rw [if_pos hn] at h2
    obtain ⟨l, hl, e⟩ := zgw nr c (by omega) n d (by omega)
    refine ⟨l, fun j hj => ⟨List.mem_cons_of_mem _ (hl j hj).1, (hl j hj).2⟩, ?_⟩
    have : ¬ k ∈ l := fun z => nk (hl k z).1
    rw [zdl, e, zc1, Bool.eq_false_iff.mpr hy, decide_eq_false this]
    simp
   ·rw [if_neg hn] at h2
    by_cases full : c + cnt r n ≤ r.length
    ·obtain ⟨l, hl, e⟩ := zgw nr c (by omega) n d full
     refine ⟨l, fun j hj => ⟨List.mem_cons_of_mem _ (hl j hj).1, (hl j hj).2⟩, ?_⟩
     have : ¬ k ∈ l := fun z => nk (hl k z).1
     rw [zdl, e, zc1, Bool.eq_false_iff.mpr hy, decide_eq_false this]
     simp
    ·have hc : cnt r y + cnt r n ≤ r.length := zhx fun j _ hj => by
      cases e : y.testBit j with
      | false => rfl
      | true => rw [d j e] at hj; cases hj
     obtain ⟨l, hl, e⟩ := zgw nr (c - 1) (by omega) n d (by omega)
     refine ⟨k :: l, fun j hj => ?_, ?_⟩
     ·rcases List.mem_cons.mp hj with rfl | z
      ·exact ⟨List.mem_cons_self, Bool.eq_false_iff.mpr hn⟩
      ·exact ⟨List.mem_cons_of_mem _ (hl j z).1, (hl j z).2⟩
     ·have e2 : cnt r (y ||| zdu (k :: l)) = cnt r (y ||| zdu l) := zg8 fun j hj => by
       have : j ≠ k := fun z => nk (z ▸ hj)
       rw [zc1, zc1]
       simp [this]
      rw [zdl, e2, e, zc1, decide_eq_true List.mem_cons_self, Bool.or_true, if_pos rfl]
      omega
theorem zqd {m : Nat} {t : Tie} (ok : t.Ok m) {y n : Nat} (d : ∀ k, y.testBit k = true → n.testBit k = false) : t.sb y n = true ↔ ∀ s, InS y n s → t.keep s = false := by
 have dn : ∀ k, n.testBit k = true → y.testBit k = false := fun k hk => by
  cases e : y.testBit k with
  | false => rfl
  | true => rw [d k e] at hk; cases hk
 cases t with
 | needs a b =>
  constructor
  ·intro h s hs
   have h' : (y.testBit a && n.testBit b) = true := h
   rw [Bool.and_eq_true] at h'
   show (!s.testBit a || s.testBit b) = false
   rw [hs.1 a h'.1, hs.2 b h'.2]; rfl
  ·intro h
   show (y.testBit a && n.testBit b) = true
   cases e1 : y.testBit a with
   | false =>
    have hh := h y ⟨fun _ z => z, dn⟩
    have h2 : (!y.testBit a || y.testBit b) = false := hh
    rw [e1] at h2; cases h2
   | true =>
    cases e2 : n.testBit b with
    | true => rfl
    | false =>
     have h2 : (!(y ||| zdu [b]).testBit a || (y ||| zdu [b]).testBit b) = false := h _ (zib d fun k hk => by rw [List.mem_singleton.mp hk]; exact e2)
     rw [zc1 y [b] b, decide_eq_true (List.mem_singleton.mpr rfl), Bool.or_true, Bool.or_true] at h2
     cases h2
 | bans a b =>
  constructor
  ·intro h s hs
   have h' : (y.testBit a && y.testBit b) = true := h
   rw [Bool.and_eq_true] at h'
   show (!s.testBit a || !s.testBit b) = false
   rw [hs.1 a h'.1, hs.1 b h'.2]; rfl
  ·intro h
   have h2 : (!y.testBit a || !y.testBit b) = false := h y ⟨fun _ z => z, dn⟩
   show (y.testBit a && y.testBit b) = true
   cases e1 : y.testBit a <;> cases e2 : y.testBit b <;> rw [e1, e2] at h2 <;> simp_all
 | most top ps =>
  constructor
  ·intro h s hs
   have h' : top < zex ps y n := of_decide_eq_true h
   refine decide_eq_false fun z => ?_
   have le : zex ps y n ≤ zfy ps (fun p => s.testBit p.1) := zoo fun p _ => by
    cases e1 : y.testBit p.1 with
    | true => rw [hs.1 _ e1]; simp
    | false =>
     cases e2 : n.testBit p.1 with
     | true => rw [hs.2 _ e2]; simp
     | false =>
      by_cases c : p.2 < 0
      ·simp [c]; split <;> omega
      ·simp [c]; split <;> omega
   omega
  ·intro h
   refine decide_eq_true ?_
   let l := (ps.filter fun p => decide (p.2 < 0) && !n.testBit p.1).map (·.1)
   have hl : ∀ k ∈ l, n.testBit k = false := fun k hk => by
    obtain ⟨p, hp, rfl⟩ := List.mem_map.mp hk
    have := (List.mem_filter.mp hp).2
    simp at this
    exact this.2
   have h2 : decide (zfy ps (fun p => (y ||| zdu l).testBit p.1) ≤ top) = false := h _ (zib d hl)
   have e : zfy ps (fun p => (y ||| zdu l).testBit p.1) = zex ps y n := zn4 fun p hp => by
    show (y ||| zdu l).testBit p.1 = (y.testBit p.1 || (decide (p.2 < 0) && !n.testBit p.1))
    rw [zc1]
    congr 1
    by_cases c : (decide (p.2 < 0) && !n.testBit p.1) = true
    ·rw [c]
     exact decide_eq_true (List.mem_map.mpr ⟨p, List.mem_filter.mpr ⟨hp, c⟩, rfl⟩)
    ·rw [Bool.eq_false_iff.mpr c]
     refine decide_eq_false fun z => ?_
     obtain ⟨q, hq, e⟩ := List.mem_map.mp z
     have hq' := List.mem_filter.mp hq
     have : q = p := zpr (ok.2.2.1.imp fun a => Nat.ne_of_lt a) hq'.1 hp e
     rw [this] at hq'
     exact c hq'.2
   rw [e] at h2
   have := of_decide_eq_false h2
   omega
 | bough u lo hi ks =>
  have c2 : cnt ks y + cnt ks n ≤ ks.length := zhx fun j _ hj => dn j hj
  have uk : ¬ u ∈ ks := fun z => Nat.lt_irrefl _ (ok.up u z).1
  constructor
  ·intro h s hs
   have h' : (!(!n.testBit u && (decide ((cnt ks y : Int) ≤ hi) && decide (lo ≤ (ks.length : Int) - cnt ks n))) && !(!y.testBit u && decide (cnt ks y = 0))) = true := h
   have g1 : cnt ks y ≤ cnt ks s := zl1 fun k _ hk => hs.1 k hk
   have g2 : cnt ks s + cnt ks n ≤ ks.length := zhx fun k _ hk => hs.2 k hk
   show (if s.testBit u = true then decide (lo ≤ (cnt ks s : Int)) && decide ((cnt ks s : Int) ≤ hi) else decide (cnt ks s = 0)) = false
   rw [Bool.and_eq_true] at h'
   by_cases su : s.testBit u = true
   ·rw [if_pos su]
    have nu : n.testBit u = false := by
     cases e : n.testBit u with
     | false => rfl
     | true => rw [hs.2 u e] at su; cases su
    have h1 := h'.1
    rw [nu] at h1
    simp at h1
    by_cases z : (cnt ks y : Int) ≤ hi
    ·rw [decide_eq_false (show ¬ lo ≤ (cnt ks s : Int) by omega), Bool.false_and]
    ·rw [decide_eq_false (show ¬ (cnt ks s : Int) ≤ hi by omega), Bool.and_false]
   ·rw [if_neg su]
    have yu : y.testBit u = false := by
     cases e : y.testBit u with
     | false => rfl
     | true => exact absurd (hs.1 u e) su
    have h2 := h'.2
    rw [yu] at h2
    simp at h2
    exact decide_eq_false (by omega)
  ·intro h
   show (!(!n.testBit u && (decide ((cnt ks y : Int) ≤ hi) && decide (lo ≤ (ks.length : Int) - cnt ks n))) && !(!y.testBit u && decide (cnt ks y = 0))) = true
   rw [Bool.and_eq_true]
   constructor
   ·cases e : (!n.testBit u && (decide ((cnt ks y : Int) ≤ hi) && decide (lo ≤ (ks.length : Int) - cnt ks n))) with
    | false => rfl
    | true =>
     exfalso
     simp only [Bool.and_eq_true, decide_eq_true_eq, Bool.not_eq_true'] at e
     obtain ⟨nu, e1, e2⟩ := e
     have hl0 := ok.lo0
     have hlh := ok.lohi
     obtain ⟨l, hl, ec⟩ := zgw (Tie.BoughOkW.nd ok) (max (cnt ks y) lo.toNat) (Nat.le_max_left _ _) n d (by omega)
     have hk := h (y ||| zdu (u :: l)) (zib d fun k hk => by
      rcases List.mem_cons.mp hk with rfl | z
      ·exact nu
      ·exact (hl k z).2)
     have hb : (y ||| zdu (u :: l)).testBit u = true := by rw [zc1, decide_eq_true List.mem_cons_self, Bool.or_true]
     have ec2 : cnt ks (y ||| zdu (u :: l)) = max (cnt ks y) lo.toNat := by
      rw [← ec]
      refine zg8 fun j hj => ?_
      have : j ≠ u := fun z => uk (z ▸ hj)
      rw [zc1, zc1]
      simp [this]
     simp only [Tie.keep, hb, if_true, ec2] at hk
     rw [decide_eq_true (by omega), decide_eq_true (by omega)] at hk
     cases hk
   ·cases e : (!y.testBit u && decide (cnt ks y = 0)) with
    | false => rfl
    | true =>
     exfalso
     simp only [Bool.and_eq_true, decide_eq_true_eq, Bool.not_eq_true'] at e
     have hk := h y ⟨fun _ z => z, dn⟩
     simp [Tie.keep, e.1, e.2] at hk
end Wd
set_option maxRecDepth 100000
set_option maxHeartbeats 4000000
namespace Wd
open PySem L2
def zhq (p : Nat × Int) : PyData := .tuple [.int (p.1 : Int), .int p.2]
def Tie.toD : Tie → PyData
 | .bough u lo hi ks => .tuple [.int (u : Int), .int lo, .int hi, .tuple (ks.map fun k : Nat => PyData.int (k : Int))]
 | .needs a b => .tuple [.str ("needs" : Str), .int (a : Int), .int (b : Int)]
 | .bans a b => .tuple [.str ("bans" : Str), .int (a : Int), .int (b : Int)]
 | .most top ps => .tuple [.str ("most" : Str), .int top, .tuple (ps.map zhq)]
theorem zfp {m : Nat} : ∀ {ks : List PyData} {last : Int}, -1 ≤ last → last < m → zb5 m ks last = true →
  ∃ ns : List Nat, ks = ns.map (fun k : Nat => PyData.int (k : Int)) ∧ ns.Pairwise (· < ·) ∧ (∀ k ∈ ns, last < (k : Int) ∧ k < m) ∧ (ns.length : Int) + last + 1 ≤ m
 | [], last, h0, h1, _ => ⟨[], rfl, List.Pairwise.nil, (fun _ z => nomatch z), by simp; omega⟩
 | .int i :: ks, last, h0, h1, h => by
  have z : (decide (last + 1 ≤ i) && decide (i ≤ (m : Int) - 1) && zb5 m ks i) = true := h
  simp only [Bool.and_eq_true, decide_eq_true_eq] at z
  obtain ⟨ns, e, pw, ab, ln⟩ := zfp (by omega) (by omega) z.2
  obtain ⟨j, rfl⟩ : ∃ j : Nat, i = (j : Int) := ⟨i.toNat, by omega⟩
  refine ⟨j :: ns, by rw [e]; rfl, List.Pairwise.cons (fun k hk => ?_) pw, fun k hk => ?_, ?_⟩
  ·have := (ab k hk).1; omega
  ·rcases List.mem_cons.mp hk with rfl | hk
   ·omega
   ·have := ab k hk; omega
  ·rw [List.length_cons]; omega
 | .none :: _, _, _, _, h => by cases h
 | .bool _ :: _, _, _, _, h => by cases h
 | .str _ :: _, _, _, _, h => by cases h
 | .list _ :: _, _, _, _, h => by cases h
 | .tuple _ :: _, _, _, _, h => by cases h
 | .dict _ :: _, _, _, _, h => by cases h
theorem zlg {m : Nat} {d : PyData} (h : zey m d = true) : ∃ u lo hi ks, d = (Tie.bough u lo hi ks).toD ∧ Tie.BoughOk m u lo hi ks := by
 unfold zey at h
 split at h
 next u l hd k =>
  simp only [Bool.and_eq_true] at h
  obtain ⟨hu, hk, hr, hh, hl⟩ := h
  obtain ⟨ui, rfl, u0, u1⟩ := zd1 hu
  obtain ⟨kd, rfl, k0⟩ := zmb hk
  obtain ⟨hi, rfl, h0, h1⟩ := zd1 (show zdi hd 1 kd.length = true from hh)
  obtain ⟨lo, rfl, l0, l1⟩ := zd1 (show zdi l 0 hi = true from hl)
  obtain ⟨un, rfl⟩ : ∃ j : Nat, ui = (j : Int) := ⟨ui.toNat, by omega⟩
  obtain ⟨ns, rfl, pw, ab, ln⟩ := zfp (by omega) (by omega) (show zb5 m kd un = true from hr)
  rw [List.length_map] at k0 h1
  exact ⟨un, lo, hi, ns, rfl, ⟨⟨by omega, fun z => by rw [z] at k0; simp at k0, fun k hk => by have := ab k hk; omega, pw, by omega, l0, l1⟩, h0, h1⟩⟩
 next => cases h
theorem ziv {m : Nat} : ∀ {ds : List PyData} {ns : List Nat}, ds.all zhc = true → ds.map zpu = ns.map (fun k : Nat => PyData.int (k : Int)) → ∃ ps : List (Nat × Int), ds = ps.map zhq ∧ ps.map (·.1) = ns
 | [], [], _, _ => ⟨[], rfl, rfl⟩
 | [], _ :: _, _, e => by cases e
 | _ :: _, [], _, e => by cases e
 | d :: ds, n :: ns, h, e => by
  rw [List.all_cons, Bool.and_eq_true] at h
  rw [List.map_cons, List.map_cons] at e
  injection e with e1 e2
  obtain ⟨ps, rfl, rfl⟩ := ziv (m := m) h.2 e2
  have h1 := h.1
  unfold zhc at h1
  split at h1
  next x y =>
   obtain ⟨i, rfl⟩ := zn7 h1
   refine ⟨(n, i) :: ps, ?_, rfl⟩
   have e3 : x = PyData.int (n : Int) := e1
   rw [e3]
   rfl
  next => cases h1
theorem zlj {m : Nat} {d : PyData} (h : zh8 m d = true) : ∃ t : Tie, d = t.toD ∧ t.Ok m ∧ ∀ u lo hi ks, t ≠ .bough u lo hi ks := by
 unfold zh8 at h
 split at h
 next k x y =>
  unfold zvu at h
  split at h
  next s =>
   unfold zo1 at h
   split at h
   next hs =>
    rw [Bool.and_eq_true] at h
    obtain ⟨top, rfl⟩ := zn7 h.1
    have h2 := h.2
    unfold zm5 at h2
    split at h2
    next ds =>
     simp only [Bool.and_eq_true, decide_eq_true_eq] at h2
     obtain ⟨⟨d0, dp⟩, dr⟩ := h2
     obtain ⟨ns, e, pw, ab, ln⟩ := zfp (by omega) (by omega) dr
     obtain ⟨ps, rfl, rfl⟩ := ziv (m := m) dp e
     rw [List.length_map] at d0 ln
     refine ⟨.most top ps, by rw [hs]; rfl, ⟨fun z => by rw [z] at d0; simp at d0, fun p hp => (ab p.1 (List.mem_map.mpr ⟨p, hp, rfl⟩)).2, pw, by omega⟩, by intro _ _ _ _ z; cases z⟩
    next => cases h2
   next hs =>
    split at h
    next hn =>
     simp only [Bool.and_eq_true] at h
     obtain ⟨ha, hb, hne⟩ := h
     obtain ⟨a, rfl, a0, a1⟩ := zd1 ha
     obtain ⟨b, rfl, b0, b1⟩ := zd1 hb
     have ne : ¬ a = b := by
      have z : (!decide (a = b)) = true := hne
      simpa using z
     obtain ⟨an, rfl⟩ : ∃ j : Nat, a = (j : Int) := ⟨a.toNat, by omega⟩
     obtain ⟨bn, rfl⟩ : ∃ j : Nat, b = (j : Int) := ⟨b.toNat, by omega⟩
     rcases hn with rfl | rfl
     ·exact ⟨.needs an bn, rfl, ⟨by omega, by omega, by omega⟩, by intro _ _ _ _ z; cases z⟩
     ·exact ⟨.bans an bn, rfl, ⟨by omega, by omega, by omega⟩, by intro _ _ _ _ z; cases z⟩
    next => cases h
  next => cases h
 next => cases h
theorem zu5 (ks : List Nat) : (ks.map fun k : Nat => PyData.int (k : Int)) = (ks.map fun k : Nat => (k : Int)).map PyData.int := by rw [List.map_map]; rfl
theorem zn9 (ks : List Nat) : (ks.map fun k : Nat => (k : Int)).map V.int = ks.map fun k : Nat => V.int (k : Int) := by rw [List.map_map]; rfl
theorem zdm {H : Hp} {u : Nat} {lo hi : Int} {ks : List Nat} {v : V} (h : Dn H (Tie.bough u lo hi ks).toD v) : ∃ p pk, v = .ref p ∧ H p = some (.tup [.int (u : Int), .int lo, .int hi, .ref pk]) ∧ H pk = some (.tup (ks.map fun k : Nat => V.int (k : Int))) := by
 obtain ⟨p, xs, rfl, hp, xu, r1, rfl, hu, xl, r2, rfl, hlo, xh, r3, rfl, hh, xk, r4, rfl, hk, hnil⟩ := zdp h
 cases (show r4 = [] from hnil)
 cases zd2 hu
 cases zd2 hlo
 cases zd2 hh
 obtain ⟨pk, ys, rfl, hpk, hks⟩ := zdp hk
 rw [zu5] at hks
 rw [zmq hks, zn9] at hpk
 exact ⟨p, pk, rfl, hp, hpk⟩
theorem zh0 {H : Hp} {w : Str} {a b : Int} {v : V} (h : Dn H (.tuple [.str w, .int a, .int b]) v) : ∃ p, v = .ref p ∧ H p = some (.tup [.str w, .int a, .int b]) := by
 obtain ⟨p, xs, rfl, hp, xu, r1, rfl, hu, xl, r2, rfl, hlo, xh, r3, rfl, hh, hnil⟩ := zdp h
 cases (show r3 = [] from hnil)
 cases (show xu = .str w from hu)
 cases zd2 hlo
 cases zd2 hh
 exact ⟨p, rfl, hp⟩
theorem zop {H : Hp} {top : Int} {ps : List (Nat × Int)} {v : V} (h : Dn H (Tie.most top ps).toD v) : ∃ p q xs, v = .ref p ∧ H p = some (.tup [.str ("most" : Str), .int top, .ref q]) ∧ H q = some (.tup xs) ∧ DnL H (ps.map zhq) xs := by
 obtain ⟨p, xs, rfl, hp, xu, r1, rfl, hu, xl, r2, rfl, hlo, xh, r3, rfl, hh, hnil⟩ := zdp h
 cases (show r3 = [] from hnil)
 cases (show xu = .str ("most" : Str) from hu)
 cases zd2 hlo
 obtain ⟨q, ys, rfl, hq, hks⟩ := zdp hh
 exact ⟨p, q, ys, rfl, hp, hq, hks⟩
theorem zk7 {H : Hp} {ps : List (Nat × Int)} {xs : List V} (h : DnL H (ps.map zhq) xs) {i : Nat} {x : V} (hx : xs[i]? = some x) : ∃ p r, ps[i]? = some p ∧ x = .ref r ∧ H r = some (.tup [.int (p.1 : Int), .int p.2]) := by
 obtain ⟨d, hd, hx'⟩ := h.get hx
 rw [List.getElem?_map] at hd
 obtain ⟨p, hp, rfl⟩ := Option.map_eq_some_iff.mp hd
 obtain ⟨r, ys, rfl, hr, xa, r1, rfl, ha, xb, r2, rfl, hb, hnil⟩ := zdp (show Dn H (.tuple [.int (p.1 : Int), .int p.2]) x from hx')
 cases (show r2 = [] from hnil)
 cases zd2 ha
 cases zd2 hb
 exact ⟨p, r, hp, rfl, hr⟩
def zne (n k : Int) : Bool := decide (0 ≤ k) && decide (n / 2 ^ k.toNat % 2 = 1)
theorem zbt (s u : Nat) : zne (s : Int) (u : Int) = s.testBit u := by
 unfold zne
 rw [decide_eq_true (by omega), Bool.true_and, Nat.testBit_eq_decide_div_mod_eq, Int.toNat_natCast]
 have e : ((s : Int) / 2 ^ u % 2 = 1) ↔ (s / 2 ^ u % 2 = 1) := by
  have e3 : (2 : Int) ^ u = ((2 ^ u : Nat) : Int) := by rw [Int.natCast_pow]; rfl
  rw [e3]
  omega
 by_cases z : s / 2 ^ u % 2 = 1
 ·rw [decide_eq_true z, decide_eq_true (e.mpr z)]
 ·rw [decide_eq_false z, decide_eq_false (fun y => z (e.mp y))]
theorem zwe (n : Int) (k : Nat) : Builtin.bitAnd (n / 2 ^ k) 1 = n / 2 ^ k % 2 := PySem.W.kbt_mask (n / 2 ^ k) 1
end Wd
set_option maxRecDepth 100000
set_option maxHeartbeats 4000000
namespace L2
open PySem PySem.Spec PyProof.Rows
theorem zsl {X : Cx} {st : List Stmt} {t : TS} (h : PSs X st t) : ∃ t', PSs X st t' ∧ ∀ D σ H, t D σ H → t' D σ H := ⟨t, h, fun _ _ _ x => x⟩
section
variable {X : Cx} {o e : Expr} {es : List Expr} {to : TE} {t : TA} {name : Str} {apos cpos : Pos} {T id : String} {r : V → List V → Hp → VK → Prop}
theorem zc5 {K : PySem.W.Frag} (pa : PlainAttrs T) (slot : Slot T name id) (hty : typeOf (.builtin id) = pure (.type "method_descriptor")) (hm : MtR X id r) (ho : PE X o to) (ha : PA X (e :: es) t) (hK : X.K = K := by rfl)
  (hbase : attributeBase o name X.env (eval o X.env) = eval o X.env := by rfl)
  (hfew : ((backTo cpos (starEach (e :: es) X.env)).all (fun x => !x.1) && (backToKw cpos (keywordEach [] X.env)).all (fun x => x.1.isSome) && decide ((e :: es).length + ([] : List Keyword).length + (if ([] : List Keyword).isEmpty then 0 else 1) < 30)) = true := by rfl)
  (hline : (apos.endLine == cpos.line) = true := by rfl) (hs : starEach (e :: es) X.env = (false, eval e X.env) :: starEach es X.env := by rfl) (hplain : (backTo cpos (starEach es X.env)).any (·.1) = false := by rfl) :
  PE X (.Call (.Attribute o name apos) (e :: es) [] cpos) (tBM K T r to t) := hK ▸ zv0 pa slot hty hm ho ha hbase hfew hline hs hplain
end
end L2
set_option maxRecDepth 100000
set_option maxHeartbeats 4000000
namespace L2
open PySem PySem.Spec PyProof.Rows
section
variable {X : Cx}
theorem pgT {K : PySem.W.Frag} {pos : Pos} {es : List Expr} {k : Nat} {t : TGs} {n : Nat} (hc : X.calm = true) (h : PGs X es t) (hn : (assignEach es X.env).length = n := by rfl) (hst : (assignEach es X.env).findIdx? (·.1) = none := by rfl) (hK : X.K = K := by rfl) : PG X (.Tuple es k pos) (zvz K n t) := hK ▸ zuv hc h hn hst
theorem zou : zdh X (.type "range") (fun xs H Q => ∃ j : Int, xs = [.int j] ∧ ∀ p, H p = none → Q (.ref p) (upd H p (.rng 0 j))) := by
 intro pins s σ H xs us Q I r h
 obtain ⟨j, rfl, q⟩ := h
 obtain ⟨u, rfl, ⟨t, rfl⟩⟩ := zen r
 refine call_range_1 ⟨.ref s.heap.objs.size, _, I.laid (fun b o e => Heap.get?_push_of_some _ e) (Nat.le_refl _) (show ObjOk X.prog X.w _ _ _ (.rng 0 j) from ⟨_, _, _, Heap.get?_push_size _ rfl⟩), rfl, q _ (I.hok.fresh (Nat.le_refl _))⟩
end
end L2
namespace Wd
open PySem L2
def zsp : Sp := fun vs H Q _ => ∃ (t : Tie) (m n : Nat) (v : V), vs = [v, .int n] ∧ Dn H t.toD v ∧ t.Ok m ∧ m ≤ 1000 ∧ ∀ H', Same H H' → Q (.bl (t.keep n)) H'
def zom (K : PySem.W.Frag) : Sp := fun vs H Q _ => ∃ (p : Addr) (ns : List Int), vs = [.ref p] ∧ SqL K H p (ns.map V.int) ∧ ns.length ≤ 63 ∧ ∀ H', Q (.bl true) H'
theorem zml (k : Nat) : decide (V.int (k : Int) = V.int 0) = decide (k = 0) := by
 rw [zgv]
 by_cases z : k = 0
 ·rw [z]; rfl
 ·rw [decide_eq_false z]
  simpa using z
def zuc (f : Tie → Nat → Nat → Bool) : Sp := fun vs H Q _ => ∃ (t : Tie) (m y n : Nat) (v : V), vs = [v, .int y, .int n] ∧ Dn H t.toD v ∧ t.Ok m ∧ m ≤ 1000 ∧ ∀ H', Same H H' → Q (.bl (f t y n)) H'
def zsm (f : Tie → Nat → Nat → Bool) : Sp := fun vs H Q _ => ∃ (u : Nat) (lo hi : Int) (ks : List Nat) (m y n : Nat) (v : V), vs = [v, .int y, .int n] ∧ Dn H (Tie.bough u lo hi ks).toD v ∧ Tie.BoughOkW m u lo hi ks ∧ m ≤ 1000 ∧ ∀ H', Same H H' → Q (.bl (f (Tie.bough u lo hi ks) y n)) H'
def zvm (f : List (Nat × Int) → Nat → Nat → Int) : Sp := fun vs H Q _ => ∃ (q : Addr) (xs : List V) (ps : List (Nat × Int)) (y n : Nat), vs = [.ref q, .int y, .int n] ∧ H q = some (.tup xs) ∧ DnL H (ps.map zhq) xs ∧ ps.length ≤ 1000 ∧ ∀ H', Same H H' → Q (.int (f ps y n)) H'
theorem zj3 {P : Tie → Prop} : ∀ {l : List PyData}, (∀ d ∈ l, ∃ t : Tie, d = t.toD ∧ P t) → ∃ ts : List Tie, l = ts.map Tie.toD ∧ ∀ t ∈ ts, P t
 | [], _ => ⟨[], rfl, (fun _ z => nomatch z)⟩
 | d :: r, h => by
  obtain ⟨t, e, p⟩ := h d List.mem_cons_self
  obtain ⟨ts, e2, p2⟩ := zj3 fun x hx => h x (List.mem_cons_of_mem _ hx)
  refine ⟨t :: ts, by rw [e, e2]; rfl, fun x hx => ?_⟩
  rcases List.mem_cons.mp hx with rfl | z
  ·exact p
  ·exact p2 x z
theorem zik {H : Hp} {ts : List Tie} {xs : List V} (h : DnL H (ts.map Tie.toD) xs) {i : Nat} {x : V} (hx : xs[i]? = some x) : ∃ t, ts[i]? = some t ∧ Dn H t.toD x := by
 obtain ⟨d, hd, q⟩ := h.get hx
 rw [List.getElem?_map] at hd
 obtain ⟨t, ht, rfl⟩ := Option.map_eq_some_iff.mp hd
 exact ⟨t, ht, q⟩
theorem zep {c A B : Prop} [Decidable c] (hc : c) (h : A) : if decide c = true then A else B := by
 rw [decide_eq_true hc]
 exact zo0 h
theorem zcm {c A B : Prop} [Decidable c] (hc : ¬ c) (h : B) : if decide c = true then A else B := by
 rw [decide_eq_false hc]
 exact zf8 h
theorem zte {c A B : Prop} [Decidable c] (hc : ¬ c) (h : A) : if (!decide c) = true then A else B := by
 rw [decide_eq_false hc]
 exact zo0 h
theorem zkd {x y : Str} (h : ¬ x = y) : ¬ V.str x = V.str y := fun z => by injection z with z; exact h z
theorem zii : ¬ V.str ("bans" : Str) = V.str ("needs" : Str) := zkd (by decide +kernel)
theorem ziu : ¬ V.str ("most" : Str) = V.str ("needs" : Str) := zkd (by decide +kernel)
theorem zj1 : ¬ V.str ("most" : Str) = V.str ("bans" : Str) := zkd (by decide +kernel)
theorem int_str {i : Int} {x : Str} : ¬ V.int i = V.str x := fun z => by cases z
end Wd
set_option maxRecDepth 100000
set_option maxHeartbeats 4000000
namespace Wd
open PySem L2 Ow
structure WoodT (H : Hp) (wd : Addr) (m : Nat) (ts : List Tie) : Prop where
 ex : ∃ xs ys, WoodAt H wd m xs ys ∧ DnL H (ts.map Tie.toD) (xs ++ ys)
 ok : ∀ t ∈ ts, t.Ok m
 few : ts.length ≤ 900
 m9 : m ≤ 900
theorem WoodAt.same {H H' : Hp} {wd : Addr} {m : Int} {xs ys : List V} (s : Same H H') (h : WoodAt H wd m xs ys) : WoodAt H' wd m xs ys := by
 obtain ⟨tb, tc, h1, h2, h3⟩ := h.ex
 exact ⟨tb, tc, s _ _ h1, s _ _ h2, s _ _ h3⟩
theorem WoodT.same {H H' : Hp} {wd : Addr} {m : Nat} {ts : List Tie} (s : Same H H') (h : WoodT H wd m ts) : WoodT H' wd m ts := by
 obtain ⟨xs, ys, h1, h2⟩ := h.ex
 exact ⟨⟨xs, ys, WoodAt.same s h1, DnL.same s _ _ h2⟩, h.ok, h.few, h.m9⟩
def zgc : Option Nat → V
 | none => .non
 | some i => .int (i : Int)
def zbw (ts : List Tie) (n : Nat) : Bool := n.testBit 0 && ts.all fun t => t.keep n
def zsx : Sp := fun vs H Q _ => ∃ (wd : Addr) (m : Nat) (ts : List Tie), vs = [.ref wd] ∧ WoodT H wd m ts ∧ ∀ (l : Addr) (H' : Hp), Same H H' → H l = none → H' l = some (.lst ((List.range ts.length).map fun i : Nat => V.int (i : Int))) → Q (.ref l) H'
end Wd
namespace Wd
theorem zna : ∀ (k a b : Nat), (∀ j, a.testBit j = true → b.testBit j = false) → (a + b).testBit k = (a.testBit k || b.testBit k)
 | k, a, b, h => by
  have h0 := h 0
  rw [Nat.testBit_zero, Nat.testBit_zero] at h0
  have p : a % 2 + b % 2 ≤ 1 := by
   by_cases z : a % 2 = 1
   ·have := h0 (decide_eq_true z)
    have := of_decide_eq_false this
    omega
   ·omega
  cases k with
  | zero =>
   rw [Nat.testBit_zero, Nat.testBit_zero, Nat.testBit_zero]
   by_cases z : a % 2 = 1
   ·rw [decide_eq_true z, decide_eq_true (by omega), Bool.true_or]
   ·rw [decide_eq_false z, Bool.false_or]
    by_cases y : b % 2 = 1
    ·rw [decide_eq_true y, decide_eq_true (by omega)]
    ·rw [decide_eq_false y, decide_eq_false (by omega)]
  | succ k =>
   rw [Nat.testBit_add_one, Nat.testBit_add_one, Nat.testBit_add_one]
   have e : (a + b) / 2 = a / 2 + b / 2 := by omega
   rw [e]
   refine zna k (a / 2) (b / 2) fun j hj => ?_
   have := h (j + 1)
   rw [Nat.testBit_add_one, Nat.testBit_add_one] at this
   exact this hj
theorem zuy {a b : Nat} (h : ∀ j, a.testBit j = true → b.testBit j = false) : a + b = a ||| b :=
 Nat.eq_of_testBit_eq fun k => by rw [zna k a b h, Nat.testBit_or]
theorem zmj : ∀ (k y a : Nat), (∀ j, a.testBit j = true → y.testBit j = true) → (y - a).testBit k = (y.testBit k && !a.testBit k)
 | k, y, a, h => by
  have le : a ≤ y := by
   have e : a = a &&& y := Nat.eq_of_testBit_eq fun j => by
    rw [Nat.testBit_and]
    cases e : a.testBit j with
    | false => rfl
    | true => rw [h j e]; rfl
   rw [e]
   exact Nat.and_le_right
  have h0 := h 0
  rw [Nat.testBit_zero, Nat.testBit_zero] at h0
  have p : a % 2 ≤ y % 2 := by
   by_cases z : a % 2 = 1
   ·have := of_decide_eq_true (h0 (decide_eq_true z))
    omega
   ·omega
  cases k with
  | zero =>
   rw [Nat.testBit_zero, Nat.testBit_zero, Nat.testBit_zero]
   by_cases z : a % 2 = 1
   ·rw [decide_eq_true z, decide_eq_false (by omega)]; simp
   ·rw [decide_eq_false z]
    by_cases x : y % 2 = 1
    ·rw [decide_eq_true x, decide_eq_true (by omega)]; rfl
    ·rw [decide_eq_false x, decide_eq_false (by omega)]; rfl
  | succ k =>
   rw [Nat.testBit_add_one, Nat.testBit_add_one, Nat.testBit_add_one]
   have e : (y - a) / 2 = y / 2 - a / 2 := by omega
   rw [e]
   refine zmj k (y / 2) (a / 2) fun j hj => ?_
   have := h (j + 1)
   rw [Nat.testBit_add_one, Nat.testBit_add_one] at this
   exact this hj
theorem zpv (a b : Nat) : a ||| b = a + (b - (a &&& b)) := by
 have hb : ∀ j, (b - (a &&& b)).testBit j = (b.testBit j && !(a &&& b).testBit j) := fun j => zmj j b (a &&& b) fun i hi => by
  rw [Nat.testBit_and, Bool.and_eq_true] at hi
  exact hi.2
 rw [zuy fun j hj => by rw [hb, Nat.testBit_and, hj]; cases b.testBit j <;> rfl]
 refine Nat.eq_of_testBit_eq fun j => ?_
 rw [Nat.testBit_or, Nat.testBit_or, hb, Nat.testBit_and]
 cases a.testBit j <;> cases b.testBit j <;> rfl
theorem zg1 (p : Nat → Bool) (i : Nat) : (List.range (i + 1)).filter p = (List.range i).filter p ++ (if p i = true then [i] else []) := by
 rw [List.range_succ, List.filter_append]
 congr 1
 by_cases h : p i = true <;> simp [h]
theorem zdz (y k j : Nat) : (y ||| 2 ^ k).testBit j = (y.testBit j || decide (k = j)) := by rw [Nat.testBit_or, Nat.testBit_two_pow]
theorem inS_split {y n k s : Nat} : InS y n s ↔ InS (y ||| 2 ^ k) n s ∨ InS y (n ||| 2 ^ k) s := by
 constructor
 ·rintro ⟨h1, h2⟩
  cases e : s.testBit k with
  | true =>
   refine .inl ⟨fun j hj => ?_, h2⟩
   rw [zdz, Bool.or_eq_true, decide_eq_true_eq] at hj
   rcases hj with z | rfl
   ·exact h1 j z
   ·exact e
  | false =>
   refine .inr ⟨h1, fun j hj => ?_⟩
   rw [zdz, Bool.or_eq_true, decide_eq_true_eq] at hj
   rcases hj with z | rfl
   ·exact h2 j z
   ·exact e
 ·rintro (⟨h1, h2⟩ | ⟨h1, h2⟩)
  ·exact ⟨fun j hj => h1 j (by rw [zdz, hj, Bool.true_or]), h2⟩
  ·exact ⟨h1, fun j hj => h2 j (by rw [zdz, hj, Bool.true_or])⟩
theorem ztv {y n k : Nat} (d : ∀ j, y.testBit j = true → n.testBit j = false) (hn : n.testBit k = false) : ∀ j, (y ||| 2 ^ k).testBit j = true → n.testBit j = false := fun j hj => by
 rw [zdz, Bool.or_eq_true, decide_eq_true_eq] at hj
 rcases hj with z | rfl
 ·exact d j z
 ·exact hn
theorem zq8 {y n k : Nat} (d : ∀ j, y.testBit j = true → n.testBit j = false) (hy : y.testBit k = false) : ∀ j, y.testBit j = true → (n ||| 2 ^ k).testBit j = false := fun j hj => by
 rw [zdz, d j hj, Bool.false_or]
 exact decide_eq_false fun z => by rw [← z, hy] at hj; cases hj
theorem ziy {y n : Nat} (d : ∀ j, y.testBit j = true → n.testBit j = false) : InS y n y := ⟨fun _ z => z, fun k hk => by
 cases e : y.testBit k with
 | false => rfl
 | true => rw [d k e] at hk; cases hk⟩
theorem zl4 {m y n s : Nat} (full : ∀ k, k < m → (y ||| n).testBit k = true) (hs : InS y n s) (d : ∀ j, y.testBit j = true → n.testBit j = false) : ∀ k, k < m → s.testBit k = y.testBit k := fun k hk => by
 have h := full k hk
 rw [Nat.testBit_or, Bool.or_eq_true] at h
 rcases h with z | z
 ·rw [z, hs.1 k z]
 ·rw [hs.2 k z, (ziy d).2 k z]
theorem zr8 {m : Nat} {t : Tie} (ok : t.Ok m) {y n : Nat} (d : ∀ j, y.testBit j = true → n.testBit j = false) (full : ∀ k, k < m → (y ||| n).testBit k = true) : t.sb y n = !t.keep y := by
 rw [Bool.eq_iff_iff, zqd ok d, Bool.not_eq_true']
 constructor
 ·intro h
  exact h y (ziy d)
 ·intro h s hs
  rw [znt ok (zl4 full hs d)]
  exact h
end Wd
set_option maxRecDepth 100000
set_option maxHeartbeats 4000000
namespace L2
open PySem
theorem zeo {k : Nat} {σ0 : St} {H : Hp} {g : TG} {tc : TT} {te : TE} {Q : VK} (Pv : Nat → List V → St → Hp → Prop) (h0 : Pv 0 [] σ0 H) (hz : ∀ i ys σ H, i ≤ k → Pv i ys σ H → ys.length ≤ sizeLine)
  (hs : ∀ i ys σ H, i < k → Pv i ys σ H → g (.int (i : Int)) σ H fun σ3 H3 => tc σ3 H3 fun b H4 => if b = true then te σ3 H4 fun v H5 => Pv (i + 1) (ys ++ [v]) σ3 H5 else Pv (i + 1) ys σ3 H4)
  (hd : ∀ ys σ H, Pv k ys σ H → ∀ p, H p = none → Q (.ref p) (upd H p (.lst ys))) :
  zov (Itr 0 k) g tc te σ0 H Q :=
 zrc (lo := 0) Pv h0 hz (fun i ys σ H hi p => by rw [Int.zero_add]; exact hs i ys σ H hi p) hd
theorem zi8 {n : Nat} {g : TG} {tb : TS} {D : zis} {σ : St} {H : Hp} (Pv : Nat → St → Hp → Prop) (h0 : Pv 0 σ H)
  (hs : ∀ i σ H, i < n → Pv i σ H → g (.int (i : Int)) σ H fun σ2 H2 => tb { D with nx := Pv (i + 1), ct := Pv (i + 1), bk := D.nx } σ2 H2) (hd : ∀ σ H, Pv n σ H → D.nx σ H) :
  ∃ W : Nat → Nat → St → Hp → Prop, (∃ m, W 0 m σ H) ∧ ∀ i m σ H, W i m σ H →
   ((Itr 0 n).stop i H ∧ D.nx σ H) ∨ ((Itr 0 n).go i H ∧ ∃ N : St → Hp → Prop, (∀ σ' H', N σ' H' → ∃ m', m' < m ∧ W (i + 1) m' σ' H') ∧ ∀ x H', (Itr 0 n).yld i H x H' → g x σ H' fun σ2 H2 => tb { D with nx := N, ct := N, bk := D.nx } σ2 H2) :=
 zj6 (lo := 0) Pv h0 (fun i σ H hi p => by rw [Int.zero_add]; exact hs i σ H hi p) hd
end L2
namespace Wd
open PySem L2 Ow
theorem zor (a b : Nat) : Builtin.bitOr (a : Int) (b : Int) = ((a ||| b : Nat) : Int) := by
 have le : a &&& b ≤ b := Nat.and_le_right
 rw [PyProof.Rows.bitOr_and, PyProof.Rows.bitAnd_pp (by omega) (by omega), Int.toNat_natCast, Int.toNat_natCast, zpv]
 omega
theorem zqg (k : Nat) : 1 * (2 : Int) ^ ((k : Nat) : Int).toNat = ((2 ^ k : Nat) : Int) := by
 rw [Int.one_mul, Int.toNat_natCast, Int.natCast_pow]
 rfl
theorem zqr (k : Nat) : 0 < 2 ^ k := Nat.pow_pos (by decide)
end Wd
set_option maxRecDepth 100000
set_option maxHeartbeats 4000000
namespace L2
open PySem PySem.Spec PyProof.Rows
def Its (lo st : Int) (n : Nat) : It := ⟨fun i _ => i < n, fun i H x H' => H' = H ∧ x = .int (lo + i * st), fun i _ => n ≤ i⟩
theorem zl3 {P : Program} {w : World} {K : PySem.W.Frag} {tg : Expr} (it : Addr) (lo st : Int) (n : Nat) : zq4 P w K tg (Its lo st n) [it] it (fun i h => IsRangeIter h it (lo + (i : Nat) * st) ((n : Int) - (i : Nat)) st) where
 mem := by simp
 obj := fun i h st b hb => by
  have e : b = it := by simpa using hb
  subst e
  exact ⟨_, st, fun v z => by
   have z' : Data.fields _ = Data.cell v := z
   cases z'⟩
 keep := fun i h h' st k => k it (by simp) _ st
 item := by
  intro X hP hw hK hc i pins s σ H E I hf st' hg
  subst hP hw hK
  obtain ⟨f0, f1, f2, f3, f4, f5⟩ := hf it (by simp)
  have W := Walks.range (prog := X.prog) (w := X.w) (I.ok.hd hc) it lo st n
  refine W.item i s _ _ hg st' fun v h' tk hv st'' kk => ?_
  obtain ⟨t, rfl⟩ := hv
  have I1 : Inv X pins σ H { s with heap := h', toks := tk } := I.turned (fun b o hb e => kk b o (by simpa using hb) e) f0 f1 f3 f4 f5
  exact ⟨_, rfl, zn8 (s := { s with heap := h', toks := tk }) (n := "range_iterator") st'' rfl rfl (by decide) ⟨.int (lo + i * st), H, I1, ⟨t, rfl⟩, ⟨rfl, rfl⟩, st'', fun b hb => (hf b hb).1⟩⟩
 done := by
  intro X hP hw hK hc i pins s σ H E I hf st' hg
  subst hP hw hK
  obtain ⟨f0, f1, f2, f3, f4, f5⟩ := hf it (by simp)
  exact wpAny_pyNext_range_end (I.ok.hd hc) st' (by have : n ≤ i := hg; omega) fun h' eb => ⟨rfl, I.turned (t' := s.toks) (fun b o hb e => eb b o hb e) f0 f1 f3 f4 f5⟩
 self := fun _ _ _ _ _ st h => wpAny_pyIter_rangeiter st h
section
variable {X : Cx} {tg : Expr}
def zvi (ta : TA) : TI := fun σ H R => ta σ H fun vs H1 => ∃ (i j c : Int) (n : Nat), vs = [.int i, .int j, .int c] ∧ c ≠ 0 ∧ c.natAbs < 1073741824 ∧ Builtin.Range.small i j c = true ∧ Builtin.Range.rangeSize i j c = (n : Int) ∧ R (Its i c n) H1
theorem zpl {pins : List (Addr × Obj)} {σ : St} {H : Hp} {s : Shared} {R : It → Hp → Prop} {E : Value → Shared → Prop} {lo hi st : Int} {n : Nat} {t u v : Tok} {tk : Nat} (I : Inv X pins σ H s) (h1 : Builtin.Range.small lo hi st = true) (h2 : Builtin.Range.rangeSize lo hi st = (n : Int))
  (q : R (Its lo st n) H) : wpAny (model X.prog X.w) X.A (pyIter (.ref s.heap.objs.size)) (PIE X pins σ tg R) E { s with heap := s.heap.push { cls := .type "range", data := .fields #[.int lo t, .int hi u, .int st v] }, toks := tk } := by
 refine wpAny_pyIter_range (IsRange.new ..) h1 ?_
 have I1 : Inv X pins σ H { s with heap := s.heap.push { cls := .type "range", data := .fields #[.int lo t, .int hi u, .int st v] }, toks := tk } := I.kept fun b o e => Heap.get?_push_of_some _ e
 refine ⟨(s.heap.push { cls := .type "range", data := .fields #[.int lo t, .int hi u, .int st v] }).objs.size, [(s.heap.push { cls := .type "range", data := .fields #[.int lo t, .int hi u, .int st v] }).objs.size], _, _, H, rfl,
  I1.kept (t' := tk) fun b o e => Heap.get?_push_of_some _ e, zl3 _ lo st n, ?_, fun b hb => ?_, q⟩
 ·have e1 : lo + ((0 : Nat) : Int) * st = lo := by simp
  have e2 : ((n : Nat) : Int) - ((0 : Nat) : Int) = Builtin.Range.rangeSize lo hi st := by rw [h2]; omega
  show IsRangeIter _ _ (lo + ((0 : Nat) : Int) * st) (((n : Nat) : Int) - ((0 : Nat) : Int)) st
  rw [e1, e2]
  exact Heap.get?_push_size _ rfl
 ·have e : b = (s.heap.push { cls := .type "range", data := .fields #[.int lo t, .int hi u, .int st v] }).objs.size := by simpa using hb
  subst e
  exact I1.fpOk (Nat.le_refl _) (I1.hok.fresh (Nat.le_refl _))
theorem zpz {a b c : Expr} {ta : TA} {p pos : Pos} (hg : Gl X "range") (hm : X.mg "range" = none) (ha : PA X [a, b, c] ta) (hs : starEach [a, b, c] X.env = [(false, eval a X.env), (false, eval b X.env), (false, eval c X.env)] := by rfl) (hs2 : starEach [b, c] X.env = [(false, eval b X.env), (false, eval c X.env)] := by rfl) :
  PI X tg (.Call (.Name "range" p) [a, b, c] [] pos) (zvi ta) := by
 intro pins s σ H R I h
 refine Call_ (zhb I hg hm boot_range (PyProof.Rows.callWith_type1 (thn (ha pos pins s σ H _ I h) fun us s1 ⟨vs, H1, I1, r1, q1⟩ => ?_) (by rw [hs, hs2]) (by rw [hs2]; rfl)))
 obtain ⟨i, j, c, n, e, c0, c1, q1, q2, q⟩ := q1
 subst e
 cases r1 with
 | cons r rr =>
  cases rr with
  | cons r' rr =>
   cases rr with
   | cons r'' rr =>
    cases rr
    obtain ⟨t, rfl⟩ := r
    obtain ⟨t', rfl⟩ := r'
    obtain ⟨t'', rfl⟩ := r''
    exact PySem.call_range_3 c0 (zpl I1 q1 q2 q) (.inl (PyProof.noPylong_small c1))
end
end L2
namespace Wd
open PySem L2
theorem zqz {i : Int} (h1 : -1000000000 ≤ i) (h2 : i ≤ 1000000000) : Builtin.Range.rangeFitsLong i = true := by
 unfold Builtin.Range.rangeFitsLong
 have p : (2 : Int) ^ 63 = 9223372036854775808 := by decide
 simp only [Bool.and_eq_true, decide_eq_true_eq]
 rw [p]
 omega
theorem zph {h : Nat} (hb : h ≤ 100000) : Builtin.Range.small 1 ((2 * h : Nat) : Int) 2 = true ∧ Builtin.Range.rangeSize 1 ((2 * h : Nat) : Int) 2 = ((h : Nat) : Int) := by
 have e : Builtin.Range.rangeSize 1 ((2 * h : Nat) : Int) 2 = ((h : Nat) : Int) := by
  unfold Builtin.Range.rangeSize
  simp only [show (2 : Int) > 0 by decide, if_true]
  split <;> omega
 refine ⟨?_, e⟩
 unfold Builtin.Range.small
 rw [e, zqz (i := 1) (by decide) (by decide), zqz (i := ((2 * h : Nat) : Int)) (by omega) (by omega), zqz (i := 2) (by decide) (by decide), zqz (i := ((h : Nat) : Int)) (by omega) (by omega), if_pos (show (2 : Int) > 0 by decide), zqz (i := ((2 * h : Nat) : Int) + (2 - 1)) (by omega) (by omega)]
 simp
end Wd
set_option maxRecDepth 100000
set_option maxHeartbeats 4000000
namespace Wd
open PySem L2 Ow
def KpX (pen : Addr) (H H' : Hp) (b : Addr) : HO → Prop
 | .tbl _ => (∃ ps, H' b = some (.tbl ps)) ∧ (zeh H b → (∃ ys, H pen = some (.lst ys)) → zeh H' b ∧ ∃ ys, H' pen = some (.lst ys))
 | o => H' b = some o
def SameX (pen : Addr) (H H' : Hp) : Prop := ∀ b o, b ≠ pen → H b = some o → KpX pen H H' b o
theorem KpX.some {pen : Addr} {H H' : Hp} {b : Addr} {o : HO} (k : KpX pen H H' b o) : ∃ u, H' b = some u := by
 cases o
 case tbl ps => exact ⟨_, k.1.choose_spec⟩
 all_goals exact ⟨_, k⟩
theorem SameX.refl (pen : Addr) (H : Hp) : SameX pen H H := fun _ o _ h => by
 cases o
 case tbl ps => exact ⟨⟨_, h⟩, fun a b => ⟨a, b⟩⟩
 all_goals exact h
theorem SameX.trans {pen : Addr} {H H1 H2 : Hp} (a : SameX pen H H1) (b : SameX pen H1 H2) : SameX pen H H2 := fun c o n h => by
 have z := a c o n h
 cases o
 case tbl ps =>
  obtain ⟨⟨qs, hq⟩, k⟩ := z
  obtain ⟨q2, k2⟩ := b c _ n hq
  exact ⟨q2, fun t y => k2 (k t y).1 (k t y).2⟩
 all_goals exact b c _ n z
theorem Same.x {pen : Addr} {H H' : Hp} (s : Same H H') : SameX pen H H' := fun b o _ h => by
 have z := s b o h
 cases o
 case tbl ps => exact ⟨z.1, fun t ⟨ys, y⟩ => ⟨z.2 t, ys, s pen _ y⟩⟩
 all_goals exact z
theorem za2 {pen : Addr} {H : Hp} (o : HO) (ho : ∃ ys, o = .lst ys := by exact ⟨_, rfl⟩) : SameX pen H (upd H pen o) := fun b u n h => by
 cases u
 case tbl ps =>
  refine ⟨⟨ps, by rw [zam n]; exact h⟩, ?_⟩
  rintro ⟨qs, hq, tr, hp⟩ ⟨ys, hy⟩
  obtain ⟨zs, rfl⟩ := ho
  refine ⟨⟨qs, by rw [zam n]; exact hq, tr, fun pos => ?_⟩, ⟨zs, zad⟩⟩
  rcases hp pos with z | ⟨c, z1, z2⟩
  ·exact .inl z
  ·refine .inr ⟨c, z1, ?_⟩
   rw [zam fun z => by rw [z, hy] at z2; cases z2]
   exact z2
 all_goals (show upd H pen o b = _; rw [zam n]; exact h)
theorem Same.put {H H1 : Hp} {p : Addr} {xs : List V} {o : HO} (s : Same H H1) (n : H p = none) (e : H1 p = some (.lst xs)) : Same H (upd H1 p o) := fun b u hb => by
 have ne : b ≠ p := zav hb n
 have z := s b u hb
 cases u
 case tbl ps =>
  refine ⟨⟨z.1.choose, by rw [zam ne]; exact z.1.choose_spec⟩, fun t => ?_⟩
  obtain ⟨qs, hq, tr, hp⟩ := z.2 t
  refine ⟨qs, by rw [zam ne]; exact hq, tr, fun pos => ?_⟩
  rcases hp pos with y | ⟨c, y1, y2⟩
  ·exact .inl y
  ·refine .inr ⟨c, y1, ?_⟩
   rw [zam fun z => by rw [z, e] at y2; cases y2]
   exact y2
 all_goals (show upd H1 p o b = _; rw [zam ne]; exact z)
theorem SameX.put {pen : Addr} {H H1 : Hp} {p : Addr} {xs : List V} {o : HO} (s : SameX pen H H1) (n : H p = none) (np : p ≠ pen) (e : H1 p = some (.lst xs)) : SameX pen H (upd H1 p o) := fun b u nb hb => by
 have ne : b ≠ p := zav hb n
 have z := s b u nb hb
 cases u
 case tbl ps =>
  refine ⟨⟨z.1.choose, by rw [zam ne]; exact z.1.choose_spec⟩, fun t y => ?_⟩
  obtain ⟨⟨qs, hq, tr, hp⟩, ys, hy⟩ := z.2 t y
  refine ⟨⟨qs, by rw [zam ne]; exact hq, tr, fun pos => ?_⟩, ys, by rw [zam (Ne.symm np)]; exact hy⟩
  rcases hp pos with y | ⟨c, y1, y2⟩
  ·exact .inl y
  ·refine .inr ⟨c, y1, ?_⟩
   rw [zam fun z => by rw [z, e] at y2; cases y2]
   exact y2
 all_goals (show upd H1 p o b = _; rw [zam ne]; exact z)
theorem SameX.tab {pen P : Addr} {H H' : Hp} {ys : List V} (s : SameX pen H H') (hp : H pen = some (.lst ys)) (t : zeh H P) : zeh H' P := by
 obtain ⟨ps, h, _⟩ := id t
 exact ((s P _ (fun z => by rw [z, hp] at h; cases h) h).2 t ⟨ys, hp⟩).1
theorem SameX.free {pen l : Addr} {H H' : Hp} (s : SameX pen H H') (hp : ∃ o, H' pen = some o) (h : H' l = none) : H l = none := by
 cases q : H l with
 | none => rfl
 | some o =>
  obtain ⟨o', e⟩ := hp
  have n : l ≠ pen := fun z => by rw [z, e] at h; cases h
  obtain ⟨u, z⟩ := (s l o n q).some
  rw [z] at h
  cases h
structure Pen (K : PySem.W.Frag) (H : Hp) (pen sp : Addr) (ns : List Int) (k : Int) : Prop where
 at_ : H pen = some (.lst [.ref sp, .int k])
 len : ns.length ≤ 63
 scr : ∀ H', SameX pen H H' → SqL K H' sp (ns.map V.int)
theorem Pen.to {K : PySem.W.Frag} {H H' : Hp} {pen sp : Addr} {ns : List Int} {k k' : Int} (p : Pen K H pen sp ns k) (s : SameX pen H H') (e : H' pen = some (.lst [.ref sp, .int k'])) : Pen K H' pen sp ns k' :=
 ⟨e, p.len, fun H2 s2 => p.scr H2 (s.trans s2)⟩
theorem Dn.pen {H : Hp} {p : Addr} {xs ys : List V} (h : H p = some (.lst xs)) {n : Nat} {d : PyData} {v : V} (f : zbh n d = true) (q : Dn H d v) : Dn (upd H p (.lst ys)) d v := Dn.keepT (zmc h) n d v f q
theorem DnL.pen {H : Hp} {p : Addr} {xs ys : List V} (h : H p = some (.lst xs)) {n : Nat} {ds : List PyData} {vs : List V} (f : ds.all (zbh n) = true) (q : DnL H ds vs) : DnL (upd H p (.lst ys)) ds vs := DnL.keepT (Dn.keepT (zmc h) n) ds vs f q
def zh9 (H H' : Hp) : Prop := ∀ b xs, H b = some (.tup xs) → H' b = some (.tup xs)
theorem SameX.tup {pen : Addr} {H H' : Hp} {ys : List V} (e : H pen = some (.lst ys)) (s : SameX pen H H') : zh9 H H' := fun b xs h => s b _ (fun z => by rw [z, e] at h; cases h) h
theorem DnL.tupS {H H' : Hp} (t : zh9 H H') {n : Nat} {ds : List PyData} {vs : List V} (f : ds.all (zbh n) = true) (q : DnL H ds vs) : DnL H' ds vs := DnL.keepT (Dn.keepT t n) ds vs f q
def ztr (K : PySem.W.Frag) : Sp := fun vs H Q _ => ∃ (pen sp : Addr) (ns : List Int) (most k : Int), vs = [.ref pen, .int most] ∧ Pen K H pen sp ns k ∧ 0 ≤ k ∧ k ≤ 1000000 ∧ 0 < most ∧ ∀ c : Int, 0 ≤ c → c < most → Q (.int c) (L2.upd H pen (.lst [.ref sp, .int (k + 1)]))
theorem DnL.drop {H : Hp} : ∀ {ds : List PyData} {xs : List V} (t : Nat), DnL H ds xs → DnL H (ds.drop t) (xs.drop t)
 | _, _, 0, h => h
 | [], xs, t + 1, h => by rw [(show xs = [] from h)]; exact rfl
 | d :: ds, _, t + 1, ⟨x, r, e, q, z⟩ => by rw [e]; exact DnL.drop t z
theorem DnL.take {H : Hp} : ∀ {ds : List PyData} {xs : List V} (t : Nat), DnL H ds xs → DnL H (ds.take t) (xs.take t)
 | _, _, 0, h => by rw [List.take_zero, List.take_zero]; exact rfl
 | [], xs, t + 1, h => by rw [(show xs = [] from h)]; exact rfl
 | d :: ds, _, t + 1, ⟨x, r, e, q, z⟩ => by rw [e]; exact ⟨x, _, rfl, q, DnL.take t z⟩
structure WoodX (H : Hp) (wd : Addr) (m : Nat) (bs cs : List PyData) : Prop where
 ex : ∃ xs ys, WoodAt H wd m xs ys ∧ DnL H bs xs ∧ DnL H cs ys
 gb : zqy m bs
 gc : ∀ c ∈ cs, zh8 m c = true
 b8 : bs.length ≤ 9
 c8 : cs.length ≤ 20
 fb : bs.all (zbh 3) = true
 fc : cs.all (zbh 3) = true
 m1 : 1 ≤ m
 m9 : m ≤ 9
theorem Same.tup {H H' : Hp} (s : Same H H') : zh9 H H' := fun b xs h => s b _ h
theorem _root_.Ow.GAt.add2 {H0 H : Hp} {g l t : Addr} {gs : List Grp} {u k : Int} (G : GAt H0 H g gs) (hf : H0 l = none) (hl : H l = none) (ht : upd H l (.lst [.int k]) t = none) :
  GAt H0 (upd (upd (upd H l (.lst [.int k])) t (.tup [.int u, .ref l])) g (.lst ((gs.map fun x => V.ref x.t) ++ [.ref t]))) g (gs ++ [⟨t, u, l, [k]⟩]) := by
 have ngl : g ≠ l := zav G.at_ hl
 have s1 := zag hl (.lst [.int k])
 have s2 := s1.trans (zag ht (.tup [.int u, .ref l]))
 have ntl : t ≠ l := fun z => by rw [z, zad] at ht; cases ht
 have ngt : g ≠ t := zav (s1 _ _ G.at_) ht
 refine ⟨?_, G.new, fun x hx => ?_, fun x hx => ?_, ?_⟩
 ·rw [zad, List.map_append]
  rfl
 ·rcases List.mem_append.mp hx with z | z
  ·rw [zam (zlr (G.tup x z) G.at_ (by intro q; cases q))]
   exact s2 _ _ (G.tup x z)
  ·rw [List.mem_singleton.mp z]
   show L2.upd _ g _ t = _
   rw [zam (Ne.symm ngt), zad]
 ·rcases List.mem_append.mp hx with z | z
  ·obtain ⟨a, b, c⟩ := G.lst x z
   refine ⟨?_, b, c⟩
   rw [zam (Ne.symm c)]
   exact s2 _ _ a
  ·rw [List.mem_singleton.mp z]
   refine ⟨?_, hf, ngl⟩
   show L2.upd _ g _ l = _
   rw [zam (Ne.symm ngl), zam (Ne.symm ntl), zad]
   rfl
 ·rw [List.map_append]
  refine List.nodup_append.mpr ⟨G.nd, by simp, fun x hx y hy => ?_⟩
  obtain ⟨z, hz, rfl⟩ := List.mem_map.mp hx
  have e : y = l := by simpa using hy
  rw [e]
  exact zav (G.lst z hz).1 hl
theorem _root_.Ow.GAt.pen {H0 H : Hp} {g pen : Addr} {gs : List Grp} {xs ys : List V} (G : GAt H0 H g gs) (h0 : ∃ o, H0 pen = some o) (h : H pen = some (.lst xs)) : GAt H0 (L2.upd H pen (.lst ys)) g gs := by
 obtain ⟨o, e0⟩ := h0
 refine ⟨?_, G.new, fun x hx => ?_, fun x hx => ?_, G.nd⟩
 ·rw [zam (fun z => by rw [← z, G.new] at e0; cases e0)]
  exact G.at_
 ·rw [zam (zlr (G.tup x hx) h (by intro q; cases q))]
  exact G.tup x hx
 ·obtain ⟨a, b, c⟩ := G.lst x hx
  refine ⟨?_, b, c⟩
  rw [zam (fun z => by rw [← z, b] at e0; cases e0)]
  exact a
end Wd
namespace Wd
def zgm (ts : List Tie) (i s : Nat) : Bool := match ts[i]? with
 | some t => t.keep s
 | none => true
def zij (ts : List Tie) (i y n : Nat) : Bool := match ts[i]? with
 | some t => t.sb y n
 | none => false
def zbs (ts : List Tie) (il : List Nat) (y n : Nat) : Option Nat := il.find? fun i => zij ts i y n
def za9 (m y n : Nat) : List Nat := (List.range m).filter fun k => !(y ||| n).testBit k
theorem mem_open {m y n k : Nat} : k ∈ za9 m y n ↔ k < m ∧ y.testBit k = false ∧ n.testBit k = false := by
 unfold za9
 rw [List.mem_filter, List.mem_range, Bool.not_eq_true', Nat.testBit_or, Bool.or_eq_false_iff]
theorem zq0 (m y n k : Nat) : za9 m (y ||| 2 ^ k) n = (za9 m y n).filter fun j => !decide (k = j) := by
 unfold za9
 rw [List.filter_filter]
 refine List.filter_congr fun j _ => ?_
 rw [Nat.testBit_or, zdz, Nat.testBit_or]
 cases y.testBit j <;> cases n.testBit j <;> cases decide (k = j) <;> rfl
theorem znx (m y n k : Nat) : za9 m y (n ||| 2 ^ k) = (za9 m y n).filter fun j => !decide (k = j) := by
 unfold za9
 rw [List.filter_filter]
 refine List.filter_congr fun j _ => ?_
 rw [Nat.testBit_or, zdz, Nat.testBit_or]
 cases y.testBit j <;> cases n.testBit j <;> cases decide (k = j) <;> rfl
theorem zhr {l : List Nat} {k : Nat} (h : k ∈ l) : (l.filter fun j => !decide (k = j)).length < l.length := by
 refine Nat.lt_of_le_of_ne (List.length_filter_le _ _) fun e => ?_
 have := List.length_filter_eq_length_iff.mp e k h
 simp at this
theorem zfe {m y n k : Nat} (h : k ∈ za9 m y n) : (za9 m (y ||| 2 ^ k) n).length < (za9 m y n).length := by
 rw [zq0]; exact zhr h
theorem zfa {m y n k : Nat} (h : k ∈ za9 m y n) : (za9 m y (n ||| 2 ^ k)).length < (za9 m y n).length := by
 rw [znx]; exact zhr h
theorem zlv (m y n : Nat) : (za9 m y n).length ≤ m := by
 refine Nat.le_trans (List.length_filter_le _ _) ?_
 rw [List.length_range]
 exact Nat.le_refl _
theorem zql {m y k : Nat} (h : y < 2 ^ m) (hk : k < m) : y ||| 2 ^ k < 2 ^ m := by
 refine Nat.lt_pow_two_of_testBit _ fun i hi => ?_
 rw [zdz, Nat.testBit_lt_two_pow (Nat.lt_of_lt_of_le h (Nat.pow_le_pow_right (by decide) hi)), Bool.false_or]
 exact decide_eq_false (by omega)
theorem znb {m a b : Nat} (ha : a < 2 ^ m) (hb : b < 2 ^ m) (h : ∀ k, k < m → a.testBit k = b.testBit k) : a = b := by
 refine Nat.eq_of_testBit_eq fun k => ?_
 by_cases z : k < m
 ·exact h k z
 ·have : 2 ^ m ≤ 2 ^ k := Nat.pow_le_pow_right (by decide) (by omega)
  rw [Nat.testBit_lt_two_pow (by omega), Nat.testBit_lt_two_pow (by omega)]
def zll (ts : List Tie) (il : List Nat) (s : Nat) : Bool := il.all fun i => zgm ts i s
structure Stand (m y n : Nat) : Prop where
 dj : ∀ k, y.testBit k = true → n.testBit k = false
 ym : y < 2 ^ m
 nm : n < 2 ^ m
theorem Stand.one {m y n k : Nat} (S : Stand m y n) (h : k ∈ za9 m y n) : Stand m (y ||| 2 ^ k) n := by
 obtain ⟨km, ky, kn⟩ := mem_open.mp h
 exact ⟨ztv S.dj kn, zql S.ym km, S.nm⟩
theorem Stand.other {m y n k : Nat} (S : Stand m y n) (h : k ∈ za9 m y n) : Stand m y (n ||| 2 ^ k) := by
 obtain ⟨km, ky, kn⟩ := mem_open.mp h
 exact ⟨zq8 S.dj ky, S.ym, zql S.nm km⟩
theorem zo9 {m : Nat} {ts : List Tie} (ok : ∀ t ∈ ts, t.Ok m) {i y n s : Nat} (dj : ∀ k, y.testBit k = true → n.testBit k = false) (h : zij ts i y n = true) (hs : InS y n s) : zgm ts i s = false := by
 unfold zij at h
 unfold zgm
 cases e : ts[i]? with
 | none => rw [e] at h; cases h
 | some t =>
  rw [e] at h
  exact (zqd (ok t (List.mem_of_getElem? e)) dj).mp h s hs
theorem zpq {m : Nat} {ts : List Tie} (ok : ∀ t ∈ ts, t.Ok m) {i y n : Nat} (dj : ∀ k, y.testBit k = true → n.testBit k = false) (full : za9 m y n = []) (h : zij ts i y n = false) : zgm ts i y = true := by
 have hf : ∀ k, k < m → (y ||| n).testBit k = true := fun k hk => by
  cases e : (y ||| n).testBit k with
  | true => rfl
  | false =>
   rw [Nat.testBit_or, Bool.or_eq_false_iff] at e
   have := mem_open.mpr ⟨hk, e.1, e.2⟩
   rw [full] at this
   cases this
 unfold zij at h
 unfold zgm
 cases e : ts[i]? with
 | none => rfl
 | some t =>
  rw [e] at h
  have h' : t.sb y n = false := h
  rw [zr8 (ok t (List.mem_of_getElem? e)) dj hf] at h'
  show t.keep y = true
  simpa using h'
theorem zns {m y n s : Nat} (S : Stand m y n) (full : za9 m y n = []) (hs : InS y n s) (sm : s < 2 ^ m) : s = y := by
 refine znb sm S.ym fun k hk => ?_
 refine zl4 (m := m) (fun j hj => ?_) hs S.dj k hk
 cases e : (y ||| n).testBit j with
 | true => rfl
 | false =>
  rw [Nat.testBit_or, Bool.or_eq_false_iff] at e
  have := mem_open.mpr ⟨hj, e.1, e.2⟩
  rw [full] at this
  cases this
theorem zk8 {ts : List Tie} {il : List Nat} {y n i : Nat} (h : zbs ts il y n = some i) : i ∈ il ∧ zij ts i y n = true :=
 ⟨List.mem_of_find?_eq_some h, List.find?_some (p := fun i => zij ts i y n) h⟩
theorem zku {ts : List Tie} {il : List Nat} {y n : Nat} (h : zbs ts il y n = none) : ∀ i ∈ il, zij ts i y n = false := fun i hi => by
 have := List.find?_eq_none.mp h i hi
 simpa using this
inductive CT where
 | broken (t : Nat)
 | ware
 | split (k : Nat) (one other : CT)
def zb4 (ts : List Tie) (il : List Nat) (m : Nat) : Nat → Nat → Nat → CT
 | f, y, n => match zbs ts il y n with
  | some t => .broken t
  | none => match za9 m y n, f with
   | [], _ => .ware
   | _ :: _, 0 => .ware
   | k :: _, f + 1 => .split k (zb4 ts il m f (y ||| 2 ^ k) n) (zb4 ts il m f y (n ||| 2 ^ k))
theorem zgz {ts : List Tie} {il r : List Nat} {m f y n k : Nat} (hb : zbs ts il y n = none) (ho : za9 m y n = k :: r) : zb4 ts il m (f + 1) y n = .split k (zb4 ts il m f (y ||| 2 ^ k) n) (zb4 ts il m f y (n ||| 2 ^ k)) := by
 conv => lhs; unfold zb4
 simp only [hb, ho]
theorem zhn {ts : List Tie} {il : List Nat} {m f y n : Nat} (hb : zbs ts il y n = none) (ho : za9 m y n = []) : zb4 ts il m f y n = .ware := by
 unfold zb4
 simp [hb, ho]
theorem zgd {ts : List Tie} {il : List Nat} {m f y n i : Nat} (hb : zbs ts il y n = some i) : zb4 ts il m f y n = .broken i := by
 unfold zb4
 simp [hb]
def CT.leaves : CT → Nat → List Nat
 | .broken _, _ => []
 | .ware, y => [y]
 | .split k a b, y => a.leaves (y ||| 2 ^ k) ++ b.leaves y
def CT.depth : CT → Nat
 | .broken _ => 0
 | .ware => 0
 | .split _ a b => max a.depth b.depth + 1
def CT.small : CT → Prop
 | .broken _ => True
 | .ware => True
 | .split k a b => k ≤ 1000 ∧ a.small ∧ b.small
theorem ze0 {ts : List Tie} {il : List Nat} {m : Nat} (hm : m ≤ 1000) : ∀ (f y n : Nat), (zb4 ts il m f y n).small
 | f, y, n => by
  unfold zb4
  cases zbs ts il y n with
  | some t => trivial
  | none =>
   dsimp only
   cases hl : za9 m y n with
   | nil => trivial
   | cons k r =>
    cases f with
    | zero => trivial
    | succ f =>
     have hk : k ∈ za9 m y n := by rw [hl]; exact List.mem_cons_self
     have := (mem_open.mp hk).1
     exact ⟨by omega, ze0 hm f (y ||| 2 ^ k) n, ze0 hm f y (n ||| 2 ^ k)⟩
theorem ze8 : ∀ (t : CT) (y : Nat), (t.leaves y).length ≤ 2 ^ t.depth
 | .broken _, _ => Nat.zero_le _
 | .ware, _ => Nat.le_refl _
 | .split k a b, y => by
  rw [CT.leaves, List.length_append, CT.depth, Nat.pow_succ]
  have h1 := ze8 a (y ||| 2 ^ k)
  have h2 := ze8 b y
  have h3 : 2 ^ a.depth ≤ 2 ^ (max a.depth b.depth) := Nat.pow_le_pow_right (by decide) (Nat.le_max_left _ _)
  have h4 : 2 ^ b.depth ≤ 2 ^ (max a.depth b.depth) := Nat.pow_le_pow_right (by decide) (Nat.le_max_right _ _)
  omega
theorem ze1 {ts : List Tie} {il : List Nat} {m : Nat} : ∀ (f y n : Nat), (zb4 ts il m f y n).depth ≤ f
 | f, y, n => by
  unfold zb4
  cases zbs ts il y n with
  | some t => exact Nat.zero_le _
  | none =>
   dsimp only
   cases za9 m y n with
   | nil => exact Nat.zero_le _
   | cons k r =>
    cases f with
    | zero => exact Nat.zero_le _
    | succ f =>
     show max _ _ + 1 ≤ f + 1
     have h1 := ze1 (ts := ts) (il := il) (m := m) f (y ||| 2 ^ k) n
     have h2 := ze1 (ts := ts) (il := il) (m := m) f y (n ||| 2 ^ k)
     omega
theorem zd4 {m : Nat} {ts : List Tie} {il : List Nat} (ok : ∀ t ∈ ts, t.Ok m) : ∀ (f y n : Nat), (za9 m y n).length ≤ f → Stand m y n → ∀ s, s ∈ (zb4 ts il m f y n).leaves y ↔ (s < 2 ^ m ∧ InS y n s ∧ zll ts il s = true)
 | f, y, n, hf, S, s => by
  unfold zb4
  cases hb : zbs ts il y n with
  | some i =>
   obtain ⟨hi, hsb⟩ := zk8 hb
   constructor
   ·intro h; cases h
   ·rintro ⟨sm, hs, hk⟩
    have := (List.all_eq_true.mp hk) i hi
    rw [zo9 ok S.dj hsb hs] at this
    cases this
  | none =>
   have hn := zku hb
   dsimp only
   cases hl : za9 m y n with
   | nil =>
    show s ∈ [y] ↔ _
    rw [List.mem_singleton]
    constructor
    ·rintro rfl
     exact ⟨S.ym, ziy S.dj, List.all_eq_true.mpr fun i hi => zpq ok S.dj hl (hn i hi)⟩
    ·rintro ⟨sm, hs, _⟩
     exact zns S hl hs sm
   | cons k r =>
    have hk : k ∈ za9 m y n := by rw [hl]; exact List.mem_cons_self
    cases f with
    | zero => rw [hl] at hf; simp at hf
    | succ f =>
     have l1 := zfe hk
     have l2 := zfa hk
     show s ∈ (zb4 ts il m f (y ||| 2 ^ k) n).leaves (y ||| 2 ^ k) ++ (zb4 ts il m f y (n ||| 2 ^ k)).leaves y ↔ _
     rw [List.mem_append, zd4 ok f (y ||| 2 ^ k) n (by omega) (S.one hk), zd4 ok f y (n ||| 2 ^ k) (by omega) (S.other hk)]
     constructor
     ·rintro (⟨a, b, c⟩ | ⟨a, b, c⟩)
      ·exact ⟨a, inS_split.mpr (.inl b), c⟩
      ·exact ⟨a, inS_split.mpr (.inr b), c⟩
     ·rintro ⟨a, b, c⟩
      rcases (inS_split (k := k)).mp b with b | b
      ·exact .inl ⟨a, b, c⟩
      ·exact .inr ⟨a, b, c⟩
end Wd
set_option maxRecDepth 100000
set_option maxHeartbeats 4000000
namespace L2
open PySem PySem.Spec PyProof.Rows
section
variable {X : Cx}
theorem zp7 {prog : Program} {w : World} {A : Around} {E : Value → Shared → Prop} {s : Shared} {t b : Addr} {ws : List Value} {Q : Value → Shared → Prop} (ht : IsTup s.heap t ([] : List Value).toArray) (hb : IsTup s.heap b ws.toArray) (h : Q (.ref b) s) :
  wpAny (model prog w) A (binaryOp .Add (.ref t) (.ref b)) Q E s := by
 obtain ⟨⟨cls, dd, data, sl⟩, ho, hc, n, hd⟩ := id ht
 obtain ⟨⟨cls2, dd2, data2, sl2⟩, ho2, hc2, n2, hd2⟩ := id hb
 simp only at hc hd hc2 hd2
 subst hc hd hc2 hd2
 exact concat_meets ⟨_, ho, rfl⟩ ⟨_, ho2, rfl⟩ noFill_tuple_add seq_tuple_add PySem.F.slot_tuple_add PySem.F.entry_tuple_add (PySem.F.args_tuple_add_2 _ _)
  (tuple_addW0 t b ([] : List Value).toArray ws.toArray n n2 dd dd2 sl sl2 (by simp)) ⟨ho, ho2, h⟩
theorem zp6 : OpR X (binaryOp .Add) (fun x y H Q => ∃ a b xs ys, x = .ref a ∧ y = .ref b ∧ H a = some (.tup xs) ∧ H b = some (.tup ys) ∧ xs.length + ys.length ≤ sizeLine ∧ ∀ c H', Same H H' → H' c = some (.tup (xs ++ ys)) → Q (.ref c) H') := by
 intro pins s σ H x y v u Q I rx ry h
 obtain ⟨a, b, xs, ys, rfl, rfl, ha, hb, hz, q⟩ := h
 by_cases hx : xs = []
 ·subst hx
  cases rx
  cases ry
  obtain ⟨its, r1, p1, _⟩ := I.tuple (.inl (.inl ha))
  obtain ⟨its2, r2, p2, _⟩ := I.tuple (.inl (.inl hb))
  cases r1
  exact zp7 p1 p2 ⟨.ref b, H, I, rfl, q b H (Same.refl H) hb⟩
 ·refine zso pins s σ H _ _ v u Q I rx ry ⟨a, b, xs, ys, rfl, rfl, .inl (.inl ha), .inl (.inl hb), hx, hz, fun e => ?_, fun _ p hp => ?_⟩
  ·refine q a H (Same.refl H) ?_
   rw [e, List.append_nil]
   exact ha
  ·exact q p _ (zg0 fun b o e => by rw [zam (zav e hp)]; exact e) zad
end
end L2
namespace Wd
open PySem L2 Ow
def CT.toD : CT → PyData
 | .broken t => .tuple [.str ("broken" : Str), .int (t : Int)]
 | .ware => .tuple [.str ("ware" : Str)]
 | .split k a b => .tuple [.str ("split" : Str), .int (k : Int), a.toD, b.toD]
theorem zpe {H : Hp} {t : Nat} {v : V} (h : Dn H (CT.broken t).toD v) : ∃ p, v = .ref p ∧ H p = some (.tup [.str ("broken" : Str), .int (t : Int)]) := by
 obtain ⟨p, xs, rfl, hp, xu, r1, rfl, hu, xl, r2, rfl, hlo, hnil⟩ := zdp h
 cases (show r2 = [] from hnil)
 cases (show xu = .str ("broken" : Str) from hu)
 cases zd2 hlo
 exact ⟨p, rfl, hp⟩
theorem zsw {H : Hp} {v : V} (h : Dn H CT.ware.toD v) : ∃ p, v = .ref p ∧ H p = some (.tup [.str ("ware" : Str)]) := by
 obtain ⟨p, xs, rfl, hp, xu, r1, rfl, hu, hnil⟩ := zdp h
 cases (show r1 = [] from hnil)
 cases (show xu = .str ("ware" : Str) from hu)
 exact ⟨p, rfl, hp⟩
theorem zqe {H : Hp} {k : Nat} {a b : CT} {v : V} (h : Dn H (CT.split k a b).toD v) : ∃ p va vb, v = .ref p ∧ H p = some (.tup [.str ("split" : Str), .int (k : Int), va, vb]) ∧ Dn H a.toD va ∧ Dn H b.toD vb := by
 obtain ⟨p, xs, rfl, hp, xu, r1, rfl, hu, xl, r2, rfl, hlo, va, r3, rfl, ha, vb, r4, rfl, hb, hnil⟩ := zdp h
 cases (show r4 = [] from hnil)
 cases (show xu = .str ("split" : Str) from hu)
 cases zd2 hlo
 exact ⟨p, va, vb, rfl, hp, ha, hb⟩
theorem zmf : ¬ V.str ("broken" : Str) = V.str ("ware" : Str) := zkd (by decide +kernel)
theorem zk4 : ¬ V.str ("broken" : Str) = V.str ("split" : Str) := zkd (by decide +kernel)
theorem znd : ¬ V.str ("split" : Str) = V.str ("ware" : Str) := zkd (by decide +kernel)
abbrev zak (l : List Nat) : List V := l.map fun k : Nat => V.int (k : Int)
def zr4 : Sp := fun vs H Q _ => ∃ n k : Nat, vs = [.int n, .int k] ∧ k ≤ 1000 ∧ Q (.int ((n ||| 2 ^ k : Nat) : Int)) H
def zur : Sp := fun vs H Q _ => ∃ m y n : Nat, vs = [.int m, .int y, .int n] ∧ m ≤ 900 ∧ ∀ (l : Addr) (H' : Hp), Same H H' → H l = none → H' l = some (.lst (zak (za9 m y n))) → Q (.ref l) H'
def zo2 : Sp := fun vs H Q _ => ∃ (wd : Addr) (m : Nat) (ts : List Tie) (tl : Addr) (il : List Nat) (y n : Nat), vs = [.ref wd, .ref tl, .int y, .int n] ∧ WoodT H wd m ts ∧ H tl = some (.lst (zak il)) ∧ (∀ i ∈ il, i < ts.length) ∧ ∀ H', Same H H' → Q (zgc (zbs ts il y n)) H'
def zrz (f : Nat) : Sp := fun vs H Q _ => ∃ (wd : Addr) (m : Nat) (ts : List Tie) (tl : Addr) (il : List Nat) (y n : Nat), vs = [.ref wd, .ref tl, .int y, .int n] ∧ WoodT H wd m ts ∧ H tl = some (.lst (zak il)) ∧ (∀ i ∈ il, i < ts.length) ∧ (za9 m y n).length ≤ f ∧ ∀ (v : V) (H' : Hp), Same H H' → Dn H' (zb4 ts il m f y n).toD v → Q v H'
def zmu (ts : List Tie) : List Nat := List.range ts.length
theorem zmk (ts : List Tie) (s : Nat) : zll ts (zmu ts) s = ts.all fun t => t.keep s := by
 unfold zll zmu
 rw [Bool.eq_iff_iff, List.all_eq_true, List.all_eq_true]
 constructor
 ·intro h t ht
  obtain ⟨i, hi, rfl⟩ := List.getElem_of_mem ht
  have := h i (List.mem_range.mpr hi)
  unfold zgm at this
  rw [List.getElem?_eq_getElem hi] at this
  exact this
 ·intro h i hi
  unfold zgm
  rw [List.getElem?_eq_getElem (List.mem_range.mp hi)]
  exact h _ (List.getElem_mem _)
def zsn : Sp := fun vs H Q _ => ∃ (wd : Addr) (m : Nat) (ts : List Tie) (y n : Nat), vs = [.ref wd, .int y, .int n] ∧ WoodT H wd m ts ∧ m ≤ 9 ∧ ∀ (v : V) (H' : Hp), Same H H' → Dn H' (zb4 ts (zmu ts) m 9 y n).toD v → Q v H'
def zix (f : Nat) : Sp := fun vs H Q _ => ∃ (y : Nat) (t : CT) (v : V), vs = [.int y, v] ∧ Dn H t.toD v ∧ t.depth ≤ f ∧ f ≤ 9 ∧ CT.small t ∧ ∀ (l : Addr) (H' : Hp), Same H H' → H l = none → H' l = some (.lst (zak (t.leaves y))) → Q (.ref l) H'
end Wd
set_option maxRecDepth 100000
set_option maxHeartbeats 4000000
namespace L2
open PySem PySem.Spec PyProof.Rows
section
variable {X : Cx}
end
end L2
namespace Wd
open PySem L2 Ow
theorem zud {K : PySem.W.Frag} {H : Hp} {pen a : Addr} {xs : List V} {o : HO} (h : SqL K H a xs) (hp : H pen = none) : ∀ H', SameX pen (L2.upd H pen o) H' → SqL K H' a xs := fun H' s => by
 have keep : ∀ u, H a = some u → KpX pen (L2.upd H pen o) H' a u := fun u e => s a u (zav e hp) (by rw [zam (zav e hp)]; exact e)
 rcases h with (h | ⟨u, h⟩) | h
 ·exact .inl (.inl (keep _ h))
 ·exact .inl (.inr ⟨u, keep _ h⟩)
 ·exact .inr h
theorem zs0 {K : PySem.W.Frag} {H : Hp} {pen sp : Addr} {ns : List Int} (h : SqL K H sp (ns.map V.int)) (hl : ns.length ≤ 63) (hp : H pen = none) : Pen K (L2.upd H pen (.lst [.ref sp, .int 0])) pen sp ns 0 := ⟨zad, hl, zud h hp⟩
end Wd
set_option maxRecDepth 100000
set_option maxHeartbeats 4000000
namespace L2
open PySem PySem.Spec PyProof.Rows
theorem zc3 : ∀ (names : List (Str × NameKind)) (n : Nat) (acc : List (Str × Addr)), cellsFrom n names acc = cellsFrom n names [] ++ acc
 | [], _, _ => rfl
 | (x, k) :: r, n, acc => by
  unfold cellsFrom
  split
  ·rw [zc3 r (n + 1) ((x, n) :: acc), zc3 r (n + 1) [(x, n)], List.append_assoc]
   rfl
  ·exact zc3 r n acc
theorem zg5 {x : Str} {c : Addr} : ∀ {names : List (Str × NameKind)} {n : Nat}, (x, c) ∈ cellsFrom n names [] → (x, NameKind.cell) ∈ names
 | [], _, h => nomatch h
 | (y, k) :: r, n, h => by
  unfold cellsFrom at h
  split at h
  ·rename_i hk
   rw [zc3] at h
   rcases List.mem_append.mp h with z | z
   ·exact List.mem_cons_of_mem _ (zg5 z)
   ·have e := List.mem_singleton.mp z
    cases e
    have hk' : k = .cell := by simpa using hk
    rw [hk']
    exact List.mem_cons_self
  ·exact List.mem_cons_of_mem _ (zg5 h)
theorem zg6 {x : Str} : ∀ {names : List (Str × NameKind)} {n : Nat}, (x, NameKind.cell) ∈ names → ∃ c, (x, c) ∈ cellsFrom n names []
 | [], _, h => nomatch h
 | (y, k) :: r, n, h => by
  unfold cellsFrom
  rcases List.mem_cons.mp h with e | h
  ·cases e
   rw [if_pos (by decide), zc3]
   exact ⟨n, List.mem_append_right _ (List.mem_singleton.mpr rfl)⟩
  ·split
   ·obtain ⟨c, hc⟩ := zg6 (n := n + 1) h
    rw [zc3]
    exact ⟨c, List.mem_append_left _ hc⟩
   ·exact zg6 h
theorem zc7 {x : Str} {c : Addr} : ∀ {names : List (Str × NameKind)} {n : Nat}, (x, c) ∈ cellsFrom n names [] → n ≤ c
 | [], _, h => nomatch h
 | (y, k) :: r, n, h => by
  unfold cellsFrom at h
  split at h
  ·rw [zc3] at h
   rcases List.mem_append.mp h with z | z
   ·exact Nat.le_of_succ_le (zc7 z)
   ·have e := List.mem_singleton.mp z
    cases e
    exact Nat.le_refl _
  ·exact zc7 h
theorem zg4 {x y : Str} {c : Addr} : ∀ {names : List (Str × NameKind)} {n : Nat}, (x, c) ∈ cellsFrom n names [] → (y, c) ∈ cellsFrom n names [] → x = y
 | [], _, h, _ => nomatch h
 | (z, k) :: r, n, h1, h2 => by
  unfold cellsFrom at h1 h2
  split at h1
  ·rename_i hk
   rw [if_pos hk] at h2
   rw [zc3] at h1 h2
   rcases List.mem_append.mp h1 with a | a
   ·rcases List.mem_append.mp h2 with b | b
    ·exact zg4 a b
    ·have e := List.mem_singleton.mp b
     cases e
     exact absurd (zc7 a) (Nat.not_succ_le_self _)
   ·have e := List.mem_singleton.mp a
    cases e
    rcases List.mem_append.mp h2 with b | b
    ·exact absurd (zc7 b) (Nat.not_succ_le_self _)
    ·have e := List.mem_singleton.mp b
     cases e
     rfl
  ·rename_i hk
   rw [if_neg hk] at h2
   exact zg4 h1 h2
def lcS : Expr → Scope
 | .ListComp _ _ sc _ => sc
 | _ => { kind := .function, names := [], isGenerator := false, isCoroutine := false }
def zue : Option Stmt → Expr
 | some (Stmt.Return (some e) _) => e
 | _ => .Constant .none 0 ⟨0, 0, 0, 0⟩
theorem zif {x : Str} {l r : List (Str × Addr)} : (l ++ r).lookup x = (l.lookup x).or (r.lookup x) := by
 induction l with
 | nil => simp
 | cons p t ih =>
  obtain ⟨y, c⟩ := p
  rw [List.cons_append, List.lookup_cons, List.lookup_cons]
  cases x == y with
  | true => rfl
  | false => exact ih
def zgy (sc : Scope) (C : Addr) (env : Env) : List (Str × Addr) := cellsFrom (C + 1) sc.names [] ++ zej sc env
theorem zd3 {sc : Scope} {C c : Addr} {env : Env} {x : Str} (h : (zgy sc C env).lookup x = some c) : (x, c) ∈ cellsFrom (C + 1) sc.names [] ∨ (zej sc env).lookup x = some c := by
 unfold zgy at h
 rw [zif] at h
 cases e : (cellsFrom (C + 1) sc.names []).lookup x with
 | some c' =>
  rw [e] at h
  cases h
  exact .inl (PySem.mem_of_lookup e)
 | none =>
  rw [e] at h
  exact .inr h
theorem zoe {sc : Scope} {C : Addr} {env : Env} {x : Str} (h : (x, NameKind.cell) ∈ sc.names) : ∃ c, (zgy sc C env).lookup x = some c ∧ (x, c) ∈ cellsFrom (C + 1) sc.names [] := by
 obtain ⟨c, hc⟩ := zg6 (n := C + 1) h
 obtain ⟨c', e⟩ := zef hc
 refine ⟨c', ?_, PySem.mem_of_lookup e⟩
 unfold zgy
 rw [zif, e]
 rfl
theorem zls {sc : Scope} {C c : Addr} {env : Env} {x : Str} (hn : ¬ (x, NameKind.cell) ∈ sc.names) (h : (zej sc env).lookup x = some c) : (zgy sc C env).lookup x = some c := by
 unfold zgy
 rw [zif]
 cases e : (cellsFrom (C + 1) sc.names []).lookup x with
 | some c' => exact absurd (zg5 (PySem.mem_of_lookup e)) hn
 | none => exact h
def zfk (X : Cx) (N' : List Str) (sc : Scope) (C : Addr) (fp : List Addr) (pins : List (Addr × Obj)) (s : Shared) (H : Hp) : Cx :=
 { X with N := N', s₀ := s, H₀ := H, env := compEnvC sc (zgy sc C X.env) C X.env, outer := X.stack, stack := X.stack, ex := fp, fn := fun x => sc.names.lookup x == some .cell, pn := X.pn ++ pins, xe := NoX }
def zmh (sc0 sc : Scope) (XN N' : List Str) (n : Nat) (kp : List Nat) : Bool :=
 decide (sc.kind = .function) && sc.names.all (fun y => decide (y.2 = .local → sc.names.lookup y.1 = some .local)) &&
 sc.names.all (fun y => decide (y.2 = .free → sc0.names.lookup y.1 = some .cell)) && decide ((sc.names.map (·.1)).Nodup) && decide (N'.length = n + kp.length) &&
 (List.range kp.length).all (fun i => match N'[n + i]?, kp[i]? with
  | some x, some j => decide (XN[j]? = some x ∧ (x, NameKind.free) ∈ sc.names ∧ ((zf9 sc sc0).names.lookup x = some .cell ∨ (zf9 sc sc0).names.lookup x = some .free))
  | _, _ => false)
theorem zhp {sc0 sc : Scope} {XN N' : List Str} {n : Nat} {kp : List Nat} (h : zmh sc0 sc XN N' n kp = true) :
  sc.kind = .function ∧ (∀ y ∈ sc.names, y.2 = .local → sc.names.lookup y.1 = some .local) ∧ (∀ y ∈ sc.names, y.2 = .free → sc0.names.lookup y.1 = some .cell) ∧ (sc.names.map (·.1)).Nodup ∧ N'.length = n + kp.length ∧
  ∀ (i : Nat) (x : Str), N'[n + i]? = some x → ∃ j, kp[i]? = some j ∧ XN[j]? = some x ∧ (x, NameKind.free) ∈ sc.names ∧ ((zf9 sc sc0).names.lookup x = some .cell ∨ (zf9 sc sc0).names.lookup x = some .free) := by
 unfold zmh at h
 simp only [Bool.and_eq_true, List.all_eq_true, decide_eq_true_eq] at h
 obtain ⟨⟨⟨⟨⟨h1, h3⟩, h4⟩, h2⟩, h5⟩, h6⟩ := h
 refine ⟨h1, h3, h4, h2, h5, fun i x hx => ?_⟩
 have hi : i < kp.length := by
  have := (List.getElem?_eq_some_iff.mp hx).1
  omega
 have q := h6 i (List.mem_range.mpr hi)
 rw [hx, List.getElem?_eq_getElem hi] at q
 exact ⟨kp[i], List.getElem?_eq_getElem hi, of_decide_eq_true q⟩
theorem zj5 {names : List (Str × NameKind)} (nd : (names.map (·.1)).Nodup) {x : Str} {k k' : NameKind} (h : (x, k) ∈ names) (h' : (x, k') ∈ names) : k = k' := by
 induction names with
 | nil => cases h
 | cons p r ih =>
  rw [List.map_cons, List.nodup_cons] at nd
  rcases List.mem_cons.mp h with e | h
  ·rcases List.mem_cons.mp h' with e' | h'
   ·rw [← e] at e'
    cases e'
    rfl
   ·exact absurd (List.mem_map.mpr ⟨(x, k'), h', by rw [← e]⟩) nd.1
  ·rcases List.mem_cons.mp h' with e' | h'
   ·exact absurd (List.mem_map.mpr ⟨(x, k), h, by rw [← e']⟩) nd.1
   ·exact ih nd.2 h h'
theorem zmt {M : Model} {A : Around} {E : Value → Shared → Prop} {s : Shared} {scope : Scope} {globals : Addr} {cl : List (Str × Addr)} {qual : Str} {env : Env} {Q : Env → Shared → Prop}
  (h : Q { scope := scope, locals := s.heap.objs.size, globals := globals, cells := cellsFrom (s.heap.objs.size + 1) scope.names cl, qual := qual, func := none, code := env.code, frame := env.frame, builtins := env.builtins } { s with heap := pushCells (s.heap.push { cls := .type "dict", data := .dict #[] }) scope.names }) :
  wpAny M A (newFunctionEnv scope globals cl [] qual none .none (some env)) Q E s := by
 simp only [newFunctionEnv, Option.isSome_some, if_true]
 refine wpAny_bind (wpAny_alloc ?_)
 refine wpAny_bind (wpAny_layCells _ (fun name kind cells => by cases hkc : kind == NameKind.cell <;> simp [hkc]) _ _ _ _ ?_)
 rw [show ({ s with heap := s.heap.push { cls := .type "dict", data := .dict #[] } } : Shared).heap.objs.size = s.heap.objs.size + 1 from Heap.size_push ..]
 refine wpAny_bind ?_
 rw [List.forIn_nil]
 exact wpAny_pure (wpAny_pure h)
section
variable {X : Cx} {tg iter elt : Expr} {cs : List Expr} {sc sc0 : Scope} {pos : Pos} {wi : TI} {g : TG} {tc : TT} {te : TE} {XN N' : List Str} {n : Nat} {kp : List Nat}
theorem zst {pins : List (Addr × Obj)} {σ : St} {H : Hp} {s : Shared} {fp : List Addr} {C : Addr} (I : Inv X pins σ H s) (hk : sc.kind = .function) (nd : (sc.names.map (·.1)).Nodup)
  (hfr : ∀ y ∈ sc.names, y.2 = .free → ∃ c, X.env.cells.lookup y.1 = some c) (hf : ∀ b ∈ fp, zgr X pins H b) (hl : ∀ b ∈ fp, b < s.heap.objs.size) (hC : s.heap.objs.size ≤ C) : (zfk X N' sc C fp pins s H).Ok where
 mod := I.ok.mod
 kind := hk
 glob := I.ok.glob
 blt := I.ok.blt
 above := hC
 inj := fun x y c h1 h2 => by
  have old : ∀ {z : Str}, (zej sc X.env).lookup z = some c → c < s.heap.objs.size := fun {z} e => by
   obtain ⟨v, hv⟩ := I.cell z c (zbj hfr e)
   exact hv.lt
  rcases zd3 h1 with a | a
  ·rcases zd3 h2 with b | b
   ·exact zg4 a b
   ·exact absurd (Nat.lt_of_lt_of_le (old b) (Nat.le_trans hC (Nat.le_of_succ_le (zc7 a)))) (Nat.lt_irrefl _)
  ·rcases zd3 h2 with b | b
   ·exact absurd (Nat.lt_of_lt_of_le (old a) (Nat.le_trans hC (Nat.le_of_succ_le (zc7 b)))) (Nat.lt_irrefl _)
   ·exact I.ok.inj x y c (zbj hfr a) (zbj hfr b)
 has := fun x hx => by
  have hx' : (zf9 sc X.env.scope).names.lookup x = some .cell ∨ (zf9 sc X.env.scope).names.lookup x = some .free := hx
  have go : ∀ k, (zf9 sc X.env.scope).names.lookup x = some k → (k = .cell ∨ k = .free) → (x, NameKind.free) ∈ sc.names ∨ (x, NameKind.cell) ∈ sc.names := fun k e hk' => by
   have hm := PySem.mem_of_lookup e
   obtain ⟨⟨y, ky⟩, hy, ey⟩ := List.mem_map.mp hm
   dsimp only at ey
   split at ey
   ·rename_i hc
    cases ey
    have z : ky = .free := by
     simp only [Bool.and_eq_true] at hc
     simpa using hc.1.1
    subst z
    exact .inl hy
   ·cases ey
    rcases hk' with z | z
    ·subst z
     exact .inr hy
    ·subst z
     exact .inl hy
  have q : (x, NameKind.free) ∈ sc.names ∨ (x, NameKind.cell) ∈ sc.names := by
   rcases hx' with e | e
   ·exact go _ e (.inl rfl)
   ·exact go _ e (.inr rfl)
  rcases q with hm | hm
  ·obtain ⟨c, hc⟩ := hfr _ hm rfl
   exact ⟨c, zls (fun z => by have := zj5 nd hm z; cases this) (zf2 hfr hm hc)⟩
  ·obtain ⟨c, hc, _⟩ := zoe (C := C) (env := X.env) hm
   exact ⟨c, hc⟩
 cab := fun x c h e => by
  have h' : (sc.names.lookup x == some NameKind.cell) = true := h
  have hm := PySem.mem_of_lookup (eq_of_beq h')
  obtain ⟨c', e', m'⟩ := zoe (C := C) (env := X.env) hm
  have e2 : (zgy sc C X.env).lookup x = some c := e
  rw [e'] at e2
  cases e2
  have := zc7 m'
  show s.heap.objs.size ≤ c
  omega
 hd := I.ok.hd
 frames := I.ok.frames
 stk := .inl rfl
 exf := fun b hb => ⟨Nat.ne_of_lt (Nat.lt_of_lt_of_le (hl b hb) hC), fun x c e => by
  rcases zd3 e with z | z
  ·exact fun w => absurd (Nat.lt_of_lt_of_le (hl b hb) (Nat.le_trans hC (Nat.le_of_succ_le (zc7 z)))) (by rw [w]; exact Nat.lt_irrefl _)
  ·exact (hf b hb).2.2.2.2.1 x c (zbj hfr z)⟩
 bs := I.bs
 bsz := Nat.le_trans I.ok.bsz I.sz
 noex := fun b o e hb => by
  rcases (hf b hb).2.2.2.1 with z | z
  ·exact I.ok.noex b o e z
  ·exact absurd (Nat.lt_of_lt_of_le (Heap.lt_size e) (Nat.le_trans I.ok.bsz z)) (Nat.lt_irrefl _)
 exfs := fun b hb z => by
  rcases List.mem_cons.mp (I.stkSub b z) with q | q
  ·exact (hf b hb).2.1 q
  ·exact (hf b hb).2.2.1 q
 funs := I.stack
 frf := I.stkFree
theorem znq {pins : List (Addr × Obj)} {σ : St} {H : Hp} {s : Shared} {fp : List Addr} {C : Addr} {h1 : Heap} {tk : Nat} {m : Str → Option Value} (I : Inv X pins σ H s) (h0 : X.env.scope = sc0) (hN : X.N = XN) (ok : zmh sc0 sc XN N' n kp = true)
  (hf : ∀ b ∈ fp, zgr X pins H b) (hl : ∀ b ∈ fp, b < s.heap.objs.size) (hC : s.heap.objs.size ≤ C) (old : ∀ b o, s.heap.get? b = some o → h1.get? b = some o) (ns : h1.Ns C m) (own : ∀ x c, (x, c) ∈ cellsFrom (C + 1) sc.names [] → h1.IsCell c none) :
  Inv (zfk X N' sc C fp pins s H) [] (List.replicate n none ++ kp.map fun j => (σ[j]?).join) H { s with heap := h1, toks := tk } := by
 obtain ⟨o1, o3, o4, o2, o5, o6⟩ := zhp ok
 subst h0
 subst hN
 have hfr : ∀ y ∈ sc.names, y.2 = .free → ∃ c, X.env.cells.lookup y.1 = some c := fun y hy e => I.ok.has y.1 (.inl (o4 y hy e))
 have below : ∀ b, b < s.heap.objs.size → b ≠ C := fun b hb => Nat.ne_of_lt (Nat.lt_of_lt_of_le hb hC)
 refine ⟨zst I o1 o2 hfr hf hl hC, rfl, I.bare, Un.kept old, ⟨m, ns, fun i x v e1 e2 e3 => ?_⟩, fun x c e => ?_, I.hok.fresh hC, fun x c e => ?_, fun p hp => ?_, I.hok.kept old, ?_⟩
 ·have hi : n ≤ i := by
   by_cases z : n ≤ i
   ·exact z
   ·rw [List.getElem?_append_left (by rw [List.length_replicate]; omega), List.getElem?_replicate] at e2
    split at e2 <;> cases e2
  obtain ⟨j, rfl⟩ : ∃ j, i = n + j := ⟨i - n, by omega⟩
  obtain ⟨q, hq, hx, hm, hkd⟩ := o6 j x e1
  rw [List.getElem?_append_right (by rw [List.length_replicate]; omega), List.length_replicate, Nat.add_sub_cancel_left, List.getElem?_map, hq] at e2
  have e4 : (σ[q]?).join = some v := Option.some.inj e2
  have e2' : σ[q]? = some (some v) := by
   cases z : σ[q]? with
   | none => rw [z] at e4; cases e4
   | some w => rw [z] at e4; cases e4; rfl
  obtain ⟨c, hc⟩ := hfr _ hm rfl
  have kx : X.env.kindOf x = some .cell := o4 _ hm rfl
  obtain ⟨m', hn', hl'⟩ := I.loc
  obtain ⟨u, r, lk⟩ := hl' q x v hx e2' (.inr (.inl kx))
  refine ⟨u, r, .inr ⟨hkd, c, zls (fun z => by have := zj5 o2 hm z; cases this) (zf2 hfr hm hc), ?_⟩⟩
  rcases lk with ⟨k, _⟩ | ⟨_, c', hc', hv⟩
  ·rw [kx] at k
   cases k
  ·rw [hc] at hc'
   cases hc'
   exact hv.keeps old
 ·rcases zd3 e with z | z
  ·exact ⟨none, own x c z⟩
  ·obtain ⟨v, hv⟩ := I.cell x c (zbj hfr z)
   exact ⟨v, hv.keeps old⟩
 ·rcases zd3 e with z | z
  ·exact I.hok.fresh (Nat.le_trans hC (Nat.le_of_succ_le (zc7 z)))
  ·exact I.freeC x c (zbj hfr z)
 ·have hp' : p ∈ X.pn ++ pins := by
   have : p ∈ (X.pn ++ pins) ++ ([] : List (Addr × Obj)) := hp
   rw [List.append_nil] at this
   exact this
  obtain ⟨q1, q2, q3, q4, q5⟩ := I.pin p hp'
  refine ⟨old _ _ q1, q2, below _ (Heap.lt_size q1), fun z => ?_, q5⟩
  rcases List.mem_cons.mp (I.stkSub _ z) with r | r
  ·exact q3 r
  ·exact q4 r
 ·show (List.replicate n none ++ kp.map fun j => (σ[j]?).join).length = N'.length
  rw [List.length_append, List.length_replicate, List.length_map, o5]
theorem zsu {pins : List (Addr × Obj)} {s : Shared} {σ : St} {H : Hp} {Q : VK} {use : Option (Value → Sem Unit)} {Qf : Value → Shared → Prop} (hc : X.calm = true) (hi : PI X tg iter wi) (h0 : X.env.scope = sc0) (hN : X.N = XN) (ok : zmh sc0 sc XN N' n kp = true)
  (hg : ∀ C fp pins s H, PG (zfk X N' sc C fp pins s H) tg g) (ht : ∀ C fp pins s H, PTs (zfk X N' sc C fp pins s H) cs tc) (he : ∀ C fp pins s H, PE (zfk X N' sc C fp pins s H) elt te) (hs : ∀ x, foldedSetIterable iter X.env x = pure x)
  (I : Inv X pins σ H s) (h : tLc n kp wi g tc te σ H Q)
  (fin : ∀ D C ys H' s', Inv X pins σ (upd H' D (.lst ys)) s' → (∃ m, s'.heap.Ns C m) → zgr X pins (upd H' D (.lst ys)) C → Q (.ref D) (upd H' D (.lst ys)) → compPost (model X.prog X.w) X.A X.xe use Qf (.ref D) C (.ok .next) s') {pos' : Pos} :
  wpAny (model X.prog X.w) X.A (comprehension (.ListComp elt [⟨tg, iter, cs, 0⟩] sc pos) sc X.env pos' (newList []) false (firstIter [⟨tg, iter, cs, 0⟩] X.env) use) Qf X.xe s := by
 obtain ⟨o1, o3, o4, o2, o5, o6⟩ := zhp ok
 have hfr : ∀ y ∈ sc.names, y.2 = .free → ∃ c, X.env.cells.lookup y.1 = some c := fun y hy e => I.ok.has y.1 (.inl (by rw [Env.kindOf, h0]; exact o4 y hy e))
 refine wpAny_comprehension_free (use := use) rfl hs (zlk hfr) o1 o3 (thn (hi pins s σ H _ I h) fun v s1 h1 => thn h1 fun itv s2 h2 => ?_)
 obtain ⟨it, fp, tn, J, H2, rfl, I2, T, st2, f2, W, ⟨m0, w0⟩, turn⟩ := h2
 have hl : ∀ b ∈ fp, b < s2.heap.objs.size := fun b hb => by
  obtain ⟨o, e, _⟩ := T.obj 0 _ st2 b hb
  exact Heap.lt_size e
 refine wpAny_newObj_type (zmt ?_)
 dsimp only
 generalize hG : s2.heap.push { cls := .type "list", dict := none, data := .seq ([] : List Value).toArray } = G
 have hGs : G.objs.size = s2.heap.objs.size + 1 := by rw [← hG, Heap.size_push]
 have hCl : s2.heap.objs.size ≤ G.objs.size := by omega
 have hDC : s2.heap.objs.size ≠ G.objs.size := by omega
 generalize hh1 : pushCells (G.push { cls := .type "dict", data := .dict #[] }) sc.names = h1
 have keep1 : ∀ b o, (G.push { cls := .type "dict", data := .dict #[] }).get? b = some o → h1.get? b = some o := fun b o e => by
  rw [← hh1]
  exact pushCells_keeps _ _ b o e
 have ns1 : h1.Ns G.objs.size (fun _ => none) := (Heap.Ns.new G (.type "dict")).keeps keep1
 have old : ∀ b o, s2.heap.get? b = some o → h1.get? b = some o := fun b o e => keep1 b o (Heap.get?_push_of_some _ (hG ▸ Heap.get?_push_of_some _ e))
 have hD1 : h1.get? s2.heap.objs.size = some { cls := .type "list", data := .seq ([] : List Value).toArray 0 } := keep1 _ _ (Heap.get?_push_of_some _ (hG ▸ Heap.get?_push_size _ rfl))
 have own : ∀ x c, (x, c) ∈ cellsFrom (G.objs.size + 1) sc.names [] → h1.IsCell c none := fun x c hm => by
  have okc := cellsFrom_ok sc.names (G.push { cls := .type "dict", data := .dict #[] }) (G.objs.size + 1) [] ⟨fun _ _ hm => (nomatch hm), List.Pairwise.nil⟩ (by rw [Heap.size_push]; exact Nat.le_refl _)
  rw [Heap.size_push, hh1] at okc
  exact (okc.empty x c hm).1
 rw [zc3]
 have nD2 : H2 s2.heap.objs.size = none := I2.hok.fresh (Nat.le_refl _)
 have nC2 : H2 G.objs.size = none := I2.hok.fresh hCl
 have loop : ∀ s3 : Shared, s3 = { s2 with heap := h1, toks := s2.toks } →
   codeAny (model X.prog X.w) X.A (.compLoop (.ListComp elt [⟨tg, iter, cs, 0⟩] sc pos) 0 (.ref it) (.ref s2.heap.objs.size) (compEnvC sc (zgy sc G.objs.size X.env) G.objs.size X.env))
    (compPost (model X.prog X.w) X.A X.xe use Qf (.ref s2.heap.objs.size) G.objs.size) s3 := by
  rintro s3 rfl
  have I3 := znq (fp := fp) (C := G.objs.size) (h1 := h1) (tk := s2.toks) I2 h0 hN ok f2 hl hCl old ns1 own
  have stat : ∀ {H' : Hp} {o : Obj}, (∀ b ∈ fp, H' b = none) → ∀ b ∈ fp, zgr (zfk X N' sc G.objs.size fp pins s2 H2) [(s2.heap.objs.size, o)] H' b := fun hn b hb => by
   have lt := hl b hb
   refine ⟨hn b hb, Nat.ne_of_lt (Nat.lt_of_lt_of_le lt hCl), I3.ok.exfs b hb, .inl hb, (I3.ok.exf b hb).2, fun p hp => ?_⟩
   rcases List.mem_append.mp hp with z | z
   ·exact (f2 b hb).2.2.2.2.2 p z
   ·have e : p.1 = s2.heap.objs.size := by rw [List.mem_singleton.mp z]
    rw [e]
    exact Nat.ne_of_gt lt
  have pinD : ∀ {σ' : St} {H' : Hp} {s' : Shared} {o : Obj}, Inv (zfk X N' sc G.objs.size fp pins s2 H2) [] σ' H' s' → s'.heap.get? s2.heap.objs.size = some o → (∀ v, o.data ≠ .cell v) → H' s2.heap.objs.size = none →
    Inv (zfk X N' sc G.objs.size fp pins s2 H2) [(s2.heap.objs.size, o)] σ' H' s' := fun {σ' H' s' o} J' e hd hn => J'.pins_of fun p hp => by
   rw [List.mem_singleton.mp hp]
   exact ⟨e, hn, hDC, fun z => by
    rcases List.mem_cons.mp (I2.stkSub _ z) with r | r
    ·exact absurd I2.lt (by rw [← r]; exact Nat.lt_irrefl _)
    ·exact I2.nofs (Nat.le_refl _) r, hd⟩
  refine zod (fun k s' => ∃ (i : Nat) (ys : List V) (its : List Value) (c : Nat) (σ' : St) (H' : Hp), Inv (zfk X N' sc G.objs.size fp pins s2 H2) [] σ' H' s' ∧ tn i s'.heap ∧ (∀ b ∈ fp, H' b = none) ∧
   s'.heap.get? s2.heap.objs.size = some { cls := .type "list", data := .seq its.toArray c } ∧ Vals ys its ∧ H' s2.heap.objs.size = none ∧ W i k ys σ' H') ?_ m0 _
   ⟨0, [], [], 0, _, H2, I3, T.keep _ _ _ st2 fun b _ o e => old b o e, fun b hb => (f2 b hb).1, hD1, .nil, nD2, w0⟩
  rintro k s' ⟨i, ys, its, c, σ', H', I', st', fr', hD', hv, nD, w'⟩
  obtain ⟨hz, cases⟩ := turn i k ys σ' H' w'
  have I'' := pinD I' hD' (fun v => by intro z; cases z) nD
  rcases cases with ⟨stop, q⟩ | ⟨go, N, hN2, step⟩
  ·refine thn (T.done (zfk X N' sc G.objs.size fp pins s2 H2) rfl rfl rfl hc i _ s' σ' H' NoX I'' (stat fr') st' stop) fun r s4 ⟨hr, I4⟩ => ?_
   subst hr
   obtain ⟨e4, n4, _⟩ := I4.pin (s2.heap.objs.size, { cls := .type "list", data := .seq its.toArray c }) (List.mem_append_right _ (List.mem_singleton.mpr rfl))
   have u4 : Un (frs X.stack) fp H2 H' s2.heap s4.heap := I4.base
   have nC4 : H' G.objs.size = none := I4.free
   obtain ⟨m4, ns4, _⟩ := I4.loc
   have neD : ∀ b o, s2.heap.get? b = some o → b ≠ s2.heap.objs.size := fun b o e => Nat.ne_of_lt (Heap.lt_size e)
   have u5 : Un (frs X.stack) fp H2 (upd H' s2.heap.objs.size (.lst ys)) s2.heap s4.heap :=
    ⟨u4.keep, u4.slot, fun b o e nb hx => by rw [zam (neD b o e)]; exact u4.free b o e nb hx, u4.there, fun b xs e => by rw [zam (zav e nD2)]; exact u4.tups b xs e,
     fun b o u e => by rw [zam (zav e nD2)]; exact u4.frzs b o u e, fun b ps e => by rw [zam (zav e nD2)]; exact u4.tbls b ps e⟩
   have hok5 : HOk X.prog X.w (upd H' s2.heap.objs.size (.lst ys)) s4.heap := fun a o e => by
    by_cases ea : a = s2.heap.objs.size
    ·subst ea
     rw [zad] at e
     cases e
     exact ⟨hz, its, c, hv, e4⟩
    ·rw [zam ea] at e
     exact (I4.hok a o e).stay (fun _ _ _ q => q) (fun b q => by rw [zam (zav q nD)]; exact q) fun b xs q => by rw [zam (zav q nD)]; exact q
   have I5 : Inv X pins σ (upd H' s2.heap.objs.size (.lst ys)) s4 := I2.call' I4.os u5 hok5 I4.bare fun b hb => ⟨(f2 b hb).2.2.2.1, (f2 b hb).2.1, (f2 b hb).2.2.2.2.1, (f2 b hb).2.2.2.2.2⟩
   refine fin _ _ ys H' s4 I5 ⟨m4, ns4⟩ (I2.fpOk hCl ?_) (q _ nD)
   rw [zam (Ne.symm hDC)]
   exact nC4
  ·refine thn (T.item (zfk X N' sc G.objs.size fp pins s2 H2) rfl rfl rfl hc i _ s' σ' H' NoX I'' (stat fr') st' go) fun r s4 ⟨u, hr, h4⟩ => ?_
   subst hr
   refine thn h4 fun _ s5 ⟨x, H5, I5, r5, y5, st5, fr5⟩ => ?_
   have I5' := I5.pinned (stat fr5) (T.obj _ _ st5)
   refine thn (hg _ _ _ _ _ _ s5 σ' H5 x u _ I5' r5 (step x H5 y5)) fun _ s6 ⟨σ6, H6, I6, q6⟩ => ?_
   refine thn (ht _ _ _ _ _ _ s6 σ6 H6 _ I6 q6) fun b s7 ⟨H7, I7, q7⟩ => ?_
   have back : ∀ {s8 : Shared} {H8 : Hp} (m' : Nat), Inv (zfk X N' sc G.objs.size fp pins s2 H2) ([(s2.heap.objs.size, { cls := .type "list", data := .seq its.toArray c })] ++ zfr fp s5.heap) σ6 H8 s8 →
     tn (i + 1) s8.heap ∧ (∀ b ∈ fp, H8 b = none) ∧ s8.heap.get? s2.heap.objs.size = some { cls := .type "list", data := .seq its.toArray c } ∧ H8 s2.heap.objs.size = none := fun {s8 H8} m' I8 => by
    have pn : ∀ p ∈ [(s2.heap.objs.size, ({ cls := .type "list", data := .seq its.toArray c } : Obj))] ++ zfr fp s5.heap, s8.heap.get? p.1 = some p.2 ∧ H8 p.1 = none := fun p hp =>
     let ⟨a, b, _⟩ := I8.pin p (List.mem_append_right _ hp); ⟨a, b⟩
    refine ⟨T.keep _ _ _ st5 fun b hb o e => (pn (b, o) (List.mem_append_right _ (zdn hb e))).1, fun b hb => ?_, pn _ (List.mem_append_left _ (List.mem_singleton.mpr rfl))⟩
    obtain ⟨o, e, _⟩ := T.obj _ _ st5 b hb
    exact (pn (b, o) (List.mem_append_right _ (zdn hb e))).2
   have bare : ∀ {s8 : Shared} {H8 : Hp} {pl : List (Addr × Obj)}, Inv (zfk X N' sc G.objs.size fp pins s2 H2) pl σ6 H8 s8 → Inv (zfk X N' sc G.objs.size fp pins s2 H2) [] σ6 H8 s8 := fun I8 => I8.pins_of fun p hp => nomatch hp
   cases b with
   | false =>
    rw [if_neg Bool.false_ne_true] at q7 ⊢
    obtain ⟨m', lt, w7⟩ := hN2 _ _ _ q7
    obtain ⟨b1, b2, b3, b4⟩ := back m' I7
    exact ⟨m', lt, i + 1, ys, its, c, σ6, H7, bare I7, b1, b2, b3, hv, b4, w7⟩
   | true =>
    rw [if_pos rfl] at q7 ⊢
    refine thn (he _ _ _ _ _ _ s7 σ6 H7 _ I7 q7) fun y s8 ⟨yv, H8, I8, r8, q8⟩ => ?_
    obtain ⟨m', lt, w8⟩ := hN2 _ _ _ q8
    obtain ⟨b1, b2, b3, b4⟩ := back m' I8
    have hlen := hv.length
    refine append_at (hsz := by rw [List.size_toArray, ← hlen]; exact hz) b3 fun h9 sb9 e9 => ?_
    have I9 : Inv (zfk X N' sc G.objs.size fp pins s2 H2) [] σ6 H8 { s8 with heap := h9 } := (bare I8).turned (t' := s8.toks) (it := s2.heap.objs.size) (fun b o hb e => sb9.extBut b o hb e) b4 hDC (.inr (Nat.le_refl _))
     (fun x c e z => by
      rcases zd3 e with y | y
      ·exact absurd (Nat.lt_of_lt_of_le (Nat.lt_succ_self _) (Nat.le_trans (Nat.succ_le_succ hCl) (zc7 y))) (by rw [z]; exact Nat.lt_irrefl _)
      ·obtain ⟨v, hv⟩ := I2.cell x c (zbj hfr y)
       exact absurd hv.lt (by rw [z]; exact Nat.lt_irrefl _))
     fun p hp z => by
      have hp' : p ∈ X.pn ++ pins := by
       have : p ∈ (X.pn ++ pins) ++ ([] : List (Addr × Obj)) := hp
       rw [List.append_nil] at this
       exact this
      exact absurd (Heap.lt_size (I2.pin p hp').1) (by rw [z]; exact Nat.lt_irrefl _)
    refine ⟨m', lt, i + 1, ys ++ [yv], its ++ [y], c + 1, σ6, H8, I9, T.keep _ _ _ b1 fun b hb o e => sb9.extBut b o (Nat.ne_of_lt (hl b hb)) e, b2, ?_, hv.append (.cons r8 .nil), b4, w8⟩
    rw [e9]
    simp
 exact codeAny_compStart_list (loop _ rfl) (T.self _ 0 _ _ _ (T.keep _ _ _ st2 fun b _ o e => old b o e) (loop _ rfl))
theorem piL {K : PySem.W.Frag} {l : Expr} {tl : TE} (hl : PE X l tl) (h : X.K = K := by rfl) : PI X tg l (ztk K tl) := h ▸ zsk hl
theorem piT {K : PySem.W.Frag} {l : Expr} {tl : TE} (hl : PE X l tl) (h : X.K = K := by rfl) : PI X tg l (zvc K tl) := h ▸ zun hl
theorem zrr (hc : X.calm = true) (hi : PI X tg iter wi) (h0 : X.env.scope = sc0) (hN : X.N = XN) (ok : zmh sc0 sc XN N' n kp = true)
  (hg : ∀ C fp pins s H, PG (zfk X N' sc C fp pins s H) tg g) (ht : ∀ C fp pins s H, PTs (zfk X N' sc C fp pins s H) cs tc) (he : ∀ C fp pins s H, PE (zfk X N' sc C fp pins s H) elt te)
  (hs : ∀ x, foldedSetIterable iter X.env x = pure x := by intro _; rfl) : PE X (.ListComp elt [⟨tg, iter, cs, 0⟩] sc pos) (tLc n kp wi g tc te) := by
 intro pins s σ H Q I h
 rw [eval_ListComp]
 refine zsu hc hi h0 hN ok hg ht he hs I h fun D C ys H' s' I' ns fp q => ?_
 obtain ⟨m, hm⟩ := ns
 refine ⟨m, hm, fun h' sb => ⟨.ref D, _, ?_, rfl, q⟩⟩
 obtain ⟨f1, f2, f3, f4, f5, f6⟩ := fp
 exact I'.turned (t' := s'.toks) (it := C) (fun b o hb e => sb.extBut b o hb e) f1 f2 f4 f5 f6
end
end L2
set_option maxRecDepth 100000
set_option maxHeartbeats 4000000
namespace Wd
open PySem L2 Ow
end Wd
set_option maxRecDepth 100000
set_option maxHeartbeats 4000000
namespace Wd
open PySem L2 Ow
theorem zcw (k : Nat) (op : List Nat) : inV (.int (k : Int)) (zak op) = decide (k ∈ op) := by
 induction op with
 | nil => rfl
 | cons a r ih =>
  have e : inV (.int (k : Int)) (zak (a :: r)) = (eqV (.int (a : Int)) (.int (k : Int)) || inV (.int (k : Int)) (zak r)) := rfl
  rw [e, ih]
  have e2 : eqV (.int (a : Int)) (.int (k : Int)) = decide (k = a) := by
   show ((a : Int) == (k : Int)) = _
   by_cases z : k = a
   ·subst z; simp
   ·rw [decide_eq_false z]
    simpa using fun h => z (by omega)
  rw [e2]
  simp [List.mem_cons, Bool.decide_or]
theorem zcc (op : List Nat) : (zak op).all zfg = true := by
 rw [List.all_eq_true]
 intro x hx
 obtain ⟨i, _, rfl⟩ := List.mem_map.mp hx
 rfl
end Wd
set_option maxRecDepth 100000
set_option maxHeartbeats 4000000
namespace L2
open PySem PySem.Spec PyProof.Rows
def zme (f : Addr) (qual : Str) (params : Arguments) (body : Expr) (scope : Scope) (cl : List (Str × Addr)) (c : Addr) : Heap → Prop :=
 fun h => ∃ (pm ctv : Value), h.get? f = some (PySem.W.kla_obj "<lambda>" qual params body scope cl pm c ctv)
structure zgj (mg : Str → Option Value) (base : Heap) (c P : Addr) : Prop where
 code : PySem.W.CodeHd base c P
 blt : ∃ bm ob, mg "__builtins__" = some (.ref bm) ∧ bm ≠ builtinsNs ∧ base.get? bm = some ob ∧ ob.cls = .type "module" ∧ ob.dict = some builtinsNs ∧ ob.data = .plain
theorem zni {P : Program} {w : World} {H : Hp} {h : Heap} {a : Addr} {φ : Heap → Prop} (hH : H a = some (.ext φ)) (ok : HOk P w H h) : φ h := (ok a _ hH).1
section
variable {X : Cx} {params : Arguments} {body : Expr} {scope : Scope} {pos : Pos} {c P : Addr}
theorem zuw (hc : X.env.code = .ref c) (B : zgj X.mg X.base c P) (hdef : defaultsOf params X.env = ([], [])) (hfr : ∀ y ∈ scope.names, y.2 = .free → ∃ c, X.env.cells.lookup y.1 = some c) :
  PE X (.Lambda params body scope pos) (fun σ H Q => zeh H P ∧ ∀ (f c' : Addr) (H1 : Hp), H f = none → Same H H1 →
   H1 f = some (.ext (zme f (X.env.qual ++ "<lambda>") params body scope (zej scope X.env) c')) → H1 c' = some (.ext (zge c')) → Q (.ref f) H1) := by
 intro pins s σ H Q I hq
 obtain ⟨⟨ps, hP, tr, hps⟩, q⟩ := hq
 refine PySem.W.kla_eval hdef ?_
 have hP' : s.heap.get? P = some (PySem.W.tabObj ps) := I.hok P _ hP
 have hg : s.heap.Ns mainGlobals X.mg := I.mod.glob.keeps I.bk
 have C : PySem.W.CodeHd s.heap c P := B.code.keeps I.bk
 have hgP : mainGlobals ≠ P := fun z => by
  obtain ⟨o, es, ep, e, hd, _⟩ := hg
  rw [z, hP'] at e; cases e; cases hd
 have hb : s.heap.BuiltinsAt X.mg P := by
  obtain ⟨bm, ob, b1, b2, b3, b4, b5, b6⟩ := B.blt
  have b3' := I.bk _ _ b3
  refine ⟨bm, ob, b1, b2, fun z => ?_, fun z => ?_, b3', b4, b5, b6⟩
  ·obtain ⟨o, es, ep, e, hd, _⟩ := hg
   rw [z, e] at b3'; cases b3'; rw [hd] at b6; cases b6
  ·rw [z, hP'] at b3'; cases b3'; cases b4
 have hcl : closureFor scope X.env = pure (zej scope X.env) := zlk hfr
 rcases hps pos with hnf | ⟨c', hf, hc'⟩
 ·refine PySem.W.kla_makeFunction hcl I.ok.glob hg hc C hP' tr hnf hgP hb fun c' ctv h' tk hx hge hlt hrec htb => ?_
  have szP : P < s.heap.objs.size := Heap.lt_size hP'
  have hcn : H c' = none := I.hok.fresh hge
  have hfn : H h'.objs.size = none := I.hok.fresh (Nat.le_trans hge (Nat.le_of_lt hlt))
  have cf : c' ≠ h'.objs.size := Nat.ne_of_lt hlt
  have cP : c' ≠ P := Nat.ne_of_gt (Nat.lt_of_lt_of_le szP hge)
  have fP : h'.objs.size ≠ P := Nat.ne_of_gt (Nat.lt_of_lt_of_le szP (Nat.le_trans hge (Nat.le_of_lt hlt)))
  have keep : ∀ b o, b ≠ P → s.heap.get? b = some o → (h'.push (PySem.W.kla_obj "<lambda>" (X.env.qual ++ "<lambda>") params body scope (zej scope X.env) ((X.mg "__name__").getD .none) c' ctv)).get? b = some o := fun b o hb e => Heap.get?_push_of_some _ (hx b o hb e)
  obtain ⟨c2, oc, vs, t, e2, hoc, hd, hv⟩ := hrec
  cases e2
  let H1 : Hp := upd (upd (upd H P (.tbl (ps ++ #[rawInt pos.line, rawInt pos.col, .ref c']))) c' (.ext (zge c'))) h'.objs.size (.ext (zme h'.objs.size (X.env.qual ++ "<lambda>") params body scope (zej scope X.env) c'))
  have H1f : H1 h'.objs.size = some (.ext (zme h'.objs.size (X.env.qual ++ "<lambda>") params body scope (zej scope X.env) c')) := zad
  have H1c : H1 c' = some (.ext (zge c')) := by show upd _ _ _ c' = _; rw [zam cf, zad]
  have H1P : H1 P = some (.tbl (ps ++ #[rawInt pos.line, rawInt pos.col, .ref c'])) := by show upd _ _ _ P = _; rw [zam (Ne.symm fP), zam (Ne.symm cP), zad]
  have H1o : ∀ b, b ≠ h'.objs.size → b ≠ c' → b ≠ P → H1 b = H b := fun b n1 n2 n3 => by show upd _ _ _ b = _; rw [zam n1, zam n2, zam n3]
  have old : ∀ b u, H b = some u → b ≠ h'.objs.size ∧ b ≠ c' := fun b u e => ⟨zav e hfn, zav e hcn⟩
  have oldE : ∀ b, H b = some (.ext (zge b)) → H1 b = some (.ext (zge b)) := fun b e => by rw [H1o b (old b _ e).1 (old b _ e).2 (fun z => by rw [z, hP] at e; cases e)]; exact e
  have tabs : zeh H1 P := ⟨_, H1P, by rw [Array.toList_append]; exact TriplesOk_snoc _ _ _ _ tr, fun p' => by
   rw [Array.toList_append]
   rcases zit (pos := p') (pos' := pos) (c := .ref c') ps.toList tr with z | z
   ·rcases hps p' with y | ⟨d, y1, y2⟩
    ·exact .inl (z.trans y)
    ·exact .inr ⟨d, z.trans y1, oldE d y2⟩
   ·exact .inr ⟨c', z, H1c⟩⟩
  have same : Same H H1 := fun b o e => by
   by_cases hbP : b = P
   ·subst hbP
    rw [hP] at e
    cases e
    exact ⟨⟨_, H1P⟩, fun _ => tabs⟩
   ·exact Kp.of e (by rw [H1o b (old b _ e).1 (old b _ e).2 hbP]; exact e) oldE
  have un : Un X.fs [] H H1 s.heap (h'.push (PySem.W.kla_obj "<lambda>" (X.env.qual ++ "<lambda>") params body scope (zej scope X.env) ((X.mg "__name__").getD .none) c' ctv)) := by
   have np : ∀ b, H b = none → b ≠ P := fun b n z => by rw [z, hP] at n; cases n
   refine ⟨fun b o e n _ _ => keep b o (np b n) e, fun b o e n _ _ => ⟨o.slots, keep b o (np b n) e⟩, fun b o e n _ => ?_, fun b o e _ => ?_, fun b xs e => ?_, fun b o u e => ?_, fun b qs e => ?_⟩
   ·have l := Heap.lt_size e
    rw [H1o b (Nat.ne_of_lt (Nat.lt_trans (Nat.lt_of_lt_of_le l hge) hlt)) (Nat.ne_of_lt (Nat.lt_of_lt_of_le l hge)) (np b n)]
    exact n
   ·by_cases hbP : b = P
    ·subst hbP
     exact ⟨_, Heap.get?_push_of_some _ htb⟩
    ·exact ⟨o, keep b o hbP e⟩
   ·rw [H1o b (old b _ e).1 (old b _ e).2 (fun z => by rw [z, hP] at e; cases e)]
    exact e
   ·rw [H1o b (old b _ e).1 (old b _ e).2 (fun z => by rw [z, hP] at e; cases e)]
    exact e
   ·by_cases hbP : b = P
    ·subst hbP
     rw [hP] at e
     cases e
     exact ⟨_, H1P⟩
    ·exact ⟨#[], by rw [H1o b (old b _ e).1 (old b _ e).2 hbP, e]; simp⟩
  have hok : HOk X.prog X.w H1 (h'.push (PySem.W.kla_obj "<lambda>" (X.env.qual ++ "<lambda>") params body scope (zej scope X.env) ((X.mg "__name__").getD .none) c' ctv)) := fun b u e => by
   by_cases h1 : b = h'.objs.size
   ·subst h1
    rw [H1f] at e
    cases e
    exact ⟨⟨_, _, Heap.get?_push_size _ rfl⟩, ⟨_, Heap.get?_push_size _ rfl⟩, fun h1 h2 ⟨pm, cv, z⟩ k => ⟨pm, cv, k _ z⟩⟩
   ·by_cases h2 : b = c'
    ·subst h2
     rw [H1c] at e
     cases e
     exact ⟨⟨oc, vs, _, t, Heap.get?_push_of_some _ hoc, hd, hv⟩, ⟨_, Heap.get?_push_of_some _ hoc⟩, fun h1 h2 ⟨o, v, qq, tt, z1, z2, z3⟩ k => ⟨o, v, qq, tt, k _ z1, z2, z3⟩⟩
    ·by_cases h3 : b = P
     ·subst h3
      rw [H1P] at e
      cases e
      exact Heap.get?_push_of_some _ htb
     ·rw [H1o b h1 h2 h3] at e
      refine (I.hok b u e).stay (fun b' o' hb' e' => ?_) (fun b' e' => ?_) fun b' xs e' => ?_
      ·refine keep b' o' ?_ e'
       rcases hb' with z | z
       ·rw [z]; exact h3
       ·intro z2; rw [z2, hP] at z; cases z
      ·rw [H1o b' (old b' _ e').1 (old b' _ e').2 (fun z => by rw [z, hP] at e'; cases e')]; exact e'
      ·rw [H1o b' (old b' _ e').1 (old b' _ e').2 (fun z => by rw [z, hP] at e'; cases e')]; exact e'
  exact ⟨.ref h'.objs.size, H1, I.un un hok, rfl, q _ c' H1 hfn same H1f H1c⟩
 ·refine PySem.W.kla_makeFunctionHit hcl I.ok.glob hg hc C hP' tr hf hb fun ctv h' tk hk hsz => ?_
  have hfn : H h'.objs.size = none := I.hok.fresh hsz
  have keep : ∀ b o, s.heap.get? b = some o → (h'.push { cls := .type "function", data := .func (PySem.W.kla_fn "<lambda>" (X.env.qual ++ "<lambda>") params body scope (zej scope X.env) ((X.mg "__name__").getD .none) (.ref c') ctv) }).get? b = some o := fun b o e => Heap.get?_push_of_some _ (hk b o e)
  have same : Same H (upd H h'.objs.size (.ext (zme h'.objs.size (X.env.qual ++ "<lambda>") params body scope (zej scope X.env) c'))) := zg0 fun b u e => by rw [zam (zav e hfn)]; exact e
  refine ⟨.ref h'.objs.size, _, I.un (Un.laid keep hsz hfn) (I.hok.laid keep hsz ?_), rfl, q _ c' _ hfn same zad (same c' _ hc')⟩
  exact ⟨⟨_, _, Heap.get?_push_size _ rfl⟩, ⟨_, Heap.get?_push_size _ rfl⟩, fun h1 h2 ⟨pm, cv, z⟩ k => ⟨pm, cv, k _ z⟩⟩
end
def zdx (h : Heap) (H : Hp) (st : List Env) : Heap := PySem.W.hideAll h (trk h H ++ frs st)
section
variable {X : Cx} {pins : List (Addr × Obj)} {σ : St} {H : Hp} {s : Shared}
theorem zim {h : Heap} {H : Hp} {st : List Env} {b : Addr} {o : Obj} (e : (zdx h H st).get? b = some o) : h.get? b = some o ∧ H b = none ∧ b ∉ frs st := by
 have e' : h.get? b = some o := PySem.W.of_hideAll _ e
 refine ⟨e', ?_, fun z => ?_⟩
 ·cases q : H b with
  | none => rfl
  | some x =>
   have hm : b ∈ trk h H := List.mem_filter.mpr ⟨List.mem_range.mpr (Heap.lt_size e'), by simp [q]⟩
   have z : (zdx h H st).get? b = none := PySem.W.hideAll_none _ (List.mem_append_left _ hm)
   rw [z] at e; cases e
 ·have y : (zdx h H st).get? b = none := PySem.W.hideAll_none _ (List.mem_append_right _ z)
  rw [y] at e; cases e
theorem zho {h : Heap} {H : Hp} {st : List Env} {b : Addr} {o : Obj} (e : h.get? b = some o) (n : H b = none) (hf : b ∉ frs st) : (zdx h H st).get? b = some o :=
 PySem.W.hideAll_get _ e fun hm => by
  rcases List.mem_append.mp hm with z | z
  ·have q : (H b).isSome = true := (List.mem_filter.mp z).2
   rw [n] at q; simp at q
  ·exact hf z
theorem Inv.noStk (I : Inv X pins σ H s) {b : Addr} {o : Obj} (e : X.base.get? b = some o) : b ∉ frs X.stack := fun hb => by
 have := (I.stack.mem hb).1
 rw [e] at this; cases this
theorem Inv.now (I : Inv X pins σ H s) : zri X.prog X.w X.K X.mg (zdx s.heap H X.stack) X.A X.stack s H := by
 have up : ∀ b o, X.base.get? b = some o → (zdx s.heap H X.stack).get? b = some o := fun b o e => zho (I.bs b o e).1 (I.bs b o e).2 (I.noStk e)
 obtain ⟨mb, h1, h2⟩ := I.mod.blt
 refine ⟨I.ok.frames, ⟨I.mod.kin.keeps up, I.mod.glob.keeps up, ⟨mb, h1.keeps up, h2⟩, I.mod.nolimit.keeps up⟩, fun b o e => ⟨(zim e).1, (zim e).2.1⟩, Nat.le_of_eq (PySem.W.hideAll_size _ _), ?_, I.stkFree, I.hok, I.bare⟩
 have go : ∀ l : List Env, (∀ b ∈ frs l, b ∈ frs X.stack) → s.heap.FunFrames X.base l → s.heap.FunFrames (zdx s.heap H X.stack) l := by
  intro l
  induction l with
  | nil => intro _ _; trivial
  | cons env r ih =>
   intro hs hl
   obtain ⟨hk, ⟨L, o, hf, hn, ho, hd⟩, hr⟩ := hl
   have hL : L ∈ frs X.stack := hs L (by unfold frs; rw [List.filterMap_cons, hf]; exact List.mem_cons_self)
   refine ⟨hk, ⟨L, o, hf, ?_, ho, hd⟩, ih (fun b hb => hs b (by unfold frs; rw [List.filterMap_cons, hf]; exact List.mem_cons_of_mem _ hb)) hr⟩
   exact PySem.W.hideAll_none _ (List.mem_append_right _ hL)
 exact go X.stack (fun _ h => h) I.stack
theorem Inv.nowCell (I : Inv X pins σ H s) {x : Str} {c : Addr} {v : Option Value} (hf : X.fn x = true) (hc : X.env.cells.lookup x = some c) (h : s.heap.IsCell c v) : (zdx s.heap H X.stack).IsCell c v := by
 obtain ⟨o, ho, hd⟩ := h
 refine ⟨o, zho ho (I.freeC x c hc) fun z => ?_, hd⟩
 rcases List.mem_cons.mp (I.stkSub c z) with e | e
 ·exact I.cne x c hc e
 ·obtain ⟨_, ob, e2, _⟩ := I.ok.funs.mem e
  exact absurd (Nat.lt_of_lt_of_le (Heap.lt_size e2) (I.ok.cab x c hf hc)) (Nat.lt_irrefl _)
end
section
variable {X : Cx} {k : Nat} {f : Addr} {fd : FuncData} {ps : List Str} {x : Str} {p pos : Pos} {e : Expr} {es : List Expr} {t : TA}
def zoi (X : Cx) (σ : St) (base : Heap) : Prop := ∀ (i : Nat) (y : Str) (v : V), X.N[i]? = some y → σ[i]? = some (some v) → X.env.kindOf y = some .cell → ∃ c u, X.env.cells.lookup y = some c ∧ RelV v u ∧ base.IsCell c (some u)
theorem zqk (hr : Room k X.A) (hg : Gl X x) (hm : X.mg x = some (.ref f)) (hk : PySem.W.keepIn X.K (.ref f) = true) (hb : Binds X.K fd ps []) (hfn : ∀ y, X.fn y = true)
  (ha : PA X (e :: es) t) (hdb : (x == ("__debug__" : Str)) = false := by decide) (he : starEach (e :: es) X.env = (false, eval e X.env) :: starEach es X.env := by rfl) (hpl : (backTo pos (starEach es X.env)).any (·.1) = false := by rfl) :
  PE X (.Call (.Name x p) (e :: es) [] pos) (fun σ H Q => t σ H fun vs H1 => ∀ base : Heap, zoi X σ base → X.K.In base → base.Ns mainGlobals X.mg → ∃ sp : Sp, zbi X.prog X.w X.K X.mg base CX0 k f fd ps sp ∧ sp vs H1 Q E0) := by
 intro pins s σ H Q I h
 refine wpAny_Call_Name_kw (zhy I hg hm ?_ hdb)
 refine PySem.W.callWith_K (h₀ := X.base) I.ok.mod.kin hk (thn (ha pos pins s σ H _ I h) fun us s1 ⟨vs, H1, I1, r, q⟩ => ⟨I1.kIn, ?_⟩) he hpl
 have e0 := I1.now
 have ci : zoi X σ (zdx s1.heap H1 X.stack) := fun i y v hN hv hk => by
  obtain ⟨m, hn, hl⟩ := I1.loc
  obtain ⟨u, ru, l⟩ := hl i y v hN hv (.inr (.inl hk))
  rcases l with ⟨hk', _⟩ | ⟨_, c, hc, hcell⟩
  ·rw [hk] at hk'; cases hk'
  ·exact ⟨c, u, hc, ru, I1.nowCell (hfn y) hc hcell⟩
 obtain ⟨sp, F, hs⟩ := q _ ci e0.mod.kin e0.mod.glob
 have hl : us.length = ps.length := by rw [← r.length]; exact F.len _ _ _ _ hs
 have hbb := hb s1 us I1.kIn (by rw [List.append_nil]; exact hl)
 rw [List.append_nil] at hbb
 refine wpAny_call (codeAny_mono (F.run X.A X.stack s1 H1 ⟨us, []⟩ us vs Q E0 hr e0 hbb r hs) fun r s' hq => ?_)
 cases r with
 | error e => exact hq.elim
 | ok fl =>
  cases fl with
  | ret u => exact I1.after hq
  | next => exact False.elim hq
  | brk => exact False.elim hq
  | cont => exact False.elim hq
theorem zrh {i : Nat} {φ : Heap → Prop} {sp : Sp} (F : zbi X.prog X.w X.K X.mg X.base CX0 k f fd ps sp) (hr : Room k X.A) (hN : X.N[i]? = some x) (hv : Vis X.env.scope x) (hb : Binds X.K fd ps [])
  (hφ : ∀ h : Heap, φ h → ∃ o fd', h.get? f = some o ∧ o.data = .func fd') (ha : PA X (e :: es) t)
  (hdb : (x == ("__debug__" : Str)) = false := by decide) (hcd : (x == ("__classdict__" : Str)) = false := by decide) (he : starEach (e :: es) X.env = (false, eval e X.env) :: starEach es X.env := by rfl) (hpl : (backTo pos (starEach es X.env)).any (·.1) = false := by rfl) :
  PE X (.Call (.Name x p) (e :: es) [] pos) (fun σ H Q => σ[i]? = some (some (.ref f)) ∧ t σ H fun vs H1 => H1 f = some (.ext φ) ∧ sp vs H1 Q E0) := by
 intro pins s σ H Q I h
 obtain ⟨hσ, h⟩ := h
 refine wpAny_Call_Name_kw (wpAny_mono (zqv hN hv hdb hcd pins s σ H (fun v H' => v = .ref f ∧ H' = H) I ⟨_, hσ, rfl, rfl⟩) (fun u s1 hu => ?_) fun _ _ z => z)
 obtain ⟨v, H', I', rv, e1, e2⟩ := hu
 subst e1
 subst e2
 obtain rfl : u = Value.ref f := rv
 have h2 : wpAny (model X.prog X.w) X.A (spliced (backTo pos (starEach (e :: es) X.env))) (fun vs s₁ => (∃ o fd', s₁.heap.get? f = some o ∧ o.data = .func fd') ∧ wpAny (model X.prog X.w) X.A (call (.ref f) ([] ++ vs)) (EP X pins σ Q) X.xe s₁) X.xe s1 := by
  refine thn (ha pos pins s1 σ _ _ I' h) fun us s2 ⟨vs, H1, I1, r, e3, q⟩ => ⟨hφ _ (zni e3 I1.hok), ?_⟩
  have hq := zqa (ds := []) (dvs := []) (E := E0) F hr hb .nil zan I1 r (by rw [List.append_nil]; exact q)
  exact hq
 rw [he] at h2
 show wpAny _ _ (callWith pos (.ref f) [] (backTo pos (starEach (e :: es) X.env)) []) _ _ s1
 rw [he]
 refine PySem.W.callWith_of (by show ((false || (backTo pos (starEach es X.env)).any (·.1)) || false) = false; rw [hpl]; rfl) (P := fun h => ∃ o fd', h.get? f = some o ∧ o.data = .func fd') (fun h ⟨o, fd', e1, e2⟩ => ?_) (Calls.evalArgs_plain h2)
 obtain ⟨oc, od, od', os⟩ := o
 cases e2
 exact ⟨.frame, .inl rfl, (PySem.W.Looks.ld (part := none) e1).andThen .now⟩
end
structure zlx (ps fr : List Str) (sc : Scope) : Prop where
 kind : sc.kind = .function
 co : sc.isCoroutine = false
 gen : sc.isGenerator = false
 nd : ps.Nodup
 par : ∀ x ∈ ps, sc.names.lookup x = some .local
 fre : ∀ x ∈ fr, sc.names.lookup x = some .free
 nocell : ∀ y ∈ sc.names, y.2 ≠ .cell
theorem zia {ps : List Str} {us : List Value} {i : Nat} {x : Str} {u : Value} (nd : ps.Nodup) (h1 : ps[i]? = some x) (h2 : us[i]? = some u) : (ps.zip us).reverse.lookup x = some u := by
 have hm : (x, u) ∈ (ps.zip us).reverse := List.mem_reverse.mpr (List.mem_of_getElem? (i := i) (by rw [List.getElem?_zip_eq_some]; exact ⟨h1, h2⟩))
 obtain ⟨c, hc⟩ := zef hm
 have h3 := List.mem_reverse.mp (PySem.mem_of_lookup hc)
 obtain ⟨j, hj⟩ := List.getElem?_of_mem h3
 rw [List.getElem?_zip_eq_some] at hj
 have hij : j = i := by
  obtain ⟨l1, e1⟩ := List.getElem?_eq_some_iff.mp h1
  obtain ⟨l2, e2⟩ := List.getElem?_eq_some_iff.mp hj.1
  rw [List.nodup_iff_pairwise_ne, List.pairwise_iff_getElem] at nd
  rcases Nat.lt_trichotomy j i with z | z | z
  ·exact absurd (e2.trans e1.symm) (nd j i l2 l1 z)
  ·exact z
  ·exact absurd (e1.trans e2.symm) (nd i j l1 l2 z)
 rw [hij, h2] at hj
 rw [hc, hj.2]
def zrq (P : Program) (w : World) (K : PySem.W.Frag) (mg : Str → Option Value) (base : Heap) (N : List Str) (q : Str) (scope : Scope) (f c : Addr) (cl : List (Str × Addr)) (A : Around) (outer : List Env) (s : Shared) (H : Hp) : Cx where
 prog := P
 w := w
 K := K
 mg := mg
 base := base
 A := A.deeper (PySem.W.envX q scope s.heap.objs.size f (.ref c) cl)
 N := N
 s₀ := s
 H₀ := H
 env := PySem.W.envX q scope s.heap.objs.size f (.ref c) cl
 outer := outer
 stack := PySem.W.envX q scope s.heap.objs.size f (.ref c) cl :: outer
 ex := []
 calm := true
 fn := fun _ => false
 pn := []
 xe := fun _ _ => False
theorem zqf {prog : Program} {w : World} {A : Around} {R : Result → Shared → Prop} {s : Shared} {a : Addr} {args : Args} {o : Obj} {fd : FuncData} {body : Expr} {q : Str} (hroom : A.depth < recursionLimit)
  (ho : s.heap.get? a = some o)
  (hd' : o.data = .func fd) (hco : fd.scope.isCoroutine = false) (hgen : fd.scope.isGenerator = false) (hbody : fd.body = .expr body) (hcd : ∃ c oc vs t, fd.code = .ref c ∧ s.heap.get? c = some oc ∧ oc.data = .fields vs ∧ vs[1]? = some (.str q t))
  (h : wpAny (model prog w) A.in1 (bindArgs fd args) (fun binds s₁ =>
   wpAny (model prog w) A.in1 (newFunctionEnv fd.scope fd.globals fd.closure binds (q ++ ".<locals>.") (some a) fd.code none fd.builtins)
    (fun env s₂ => s₂.heap.NoLimit ∧ codeAny (model prog w) A (.expr body env) R s₂) (fun e s' => R (.error e) s') s₁) (fun e s' => R (.error e) s') s) :
  codeAny (model prog w) A (.call (.ref a) args) R s := by
 refine codeAny_of_tree ?_
 show wpAny _ A.in1 (callAny (.ref a) args) _ _ s
 simp only [callAny]
 refine wpAny_bind (wpAny_load ho ?_)
 obtain ⟨c, oc, vs, tq, hc, hoc, hdc, hq⟩ := hcd
 simp only [hd', callFunction, hco, hgen, hbody, hc]
 rw [hc] at h
 refine wpAny_bind (m := field (.ref c) 1) (wpAny_field hoc hdc hq (wpAny_bind (wpAny_pure ?_)))
 exact wpAny_bind (wpAny_mono h (fun binds s₁ h₁ => wpAny_bind (wpAny_mono h₁ (fun env s₂ h₂ => wpAny_bind (wpAny_enterFrame h₂.1 hroom
  (wpAny_pure (And.intro rfl h₂.2)))) fun _ _ h' => h')) fun _ _ h' => h')
theorem zuz {P : Program} {w : World} {K : PySem.W.Frag} {mg : Str → Option Value} {base : Heap} {f c : Addr} {qual : Str} {params : Arguments} {body : Expr} {scope : Scope} {cl : List (Str × Addr)} {ps fr : List Str} {fv : List V} {k : Nat} {sp : Sp}
  (S : zlx ps fr scope) (hcl : ∀ x cc, cl.lookup x = some cc → ∃ v, base.IsCell cc v) (inj : ∀ x y cc, cl.lookup x = some cc → cl.lookup y = some cc → x = y) (has : ∀ y ∈ scope.names, y.2 = .free → ∃ cc, cl.lookup y.1 = some cc)
  (hfv : ∀ (i : Nat) (x : Str) (v : V), fr[i]? = some x → fv[i]? = some v → ∃ cc u, cl.lookup x = some cc ∧ RelV v u ∧ base.IsCell cc (some u)) (hlen : fv.length = fr.length)
  (hsame : ∀ pm ctv args, bindArgs (PySem.W.kla_fn "<lambda>" qual params body scope cl pm (.ref c) ctv) args = bindArgs (PySem.W.kla_fn "<lambda>" qual params body scope cl .none (.ref c) .none) args)
  (len : ∀ vs H Q E, sp vs H Q E → vs.length = ps.length)
  (lam : ∀ vs H Q E, sp vs H Q E → H f = some (.ext (zme f qual params body scope cl c)) ∧ H c = some (.ext (zge c)))
  (hbody : ∀ (q : Str) (A : Around) (outer : List Env) (s : Shared) (H : Hp) (vs : List V) (Q : VK) (E : XK), Room k (A.deeper (PySem.W.envX q scope s.heap.objs.size f (.ref c) cl)) → sp vs H Q E →
   ∃ t, PE (zrq P w K mg base (ps ++ fr) q scope f c cl A outer s H) body t ∧ t (vs.map some ++ fv.map some) H Q) :
  zbi P w K mg base CX0 (k + 1) f (PySem.W.kla_fn "<lambda>" qual params body scope cl .none (.ref c) .none) ps sp := by
 refine ⟨len, fun A outer s H args us vs Q E hr e0 hb r hsp => ?_⟩
 have hl := len _ _ _ _ hsp
 obtain ⟨hf, hc⟩ := lam _ _ _ _ hsp
 obtain ⟨pm, ctv, ho⟩ := zni hf e0.hok
 obtain ⟨oc, vsc, q, t, hoc, hdc, hqc⟩ := zni hc e0.hok
 have lim : s.heap.NoLimit := e0.mod.nolimit.keeps fun b o e => (e0.bs b o e).1
 have toS : ∀ {cc v}, base.IsCell cc v → s.heap.IsCell cc v ∧ H cc = none := fun {cc v} ⟨o, e, d⟩ => ⟨⟨o, (e0.bs _ _ e).1, d⟩, (e0.bs _ _ e).2⟩
 refine zqf hr.depth ho rfl S.co S.gen rfl ⟨c, oc, vsc, t, rfl, hoc, hdc, hqc⟩ ?_
 rw [hsame]
 refine hb _ _ _ _ ?_
 have hloc : ∀ y ∈ ps.zip us, scope.names.lookup y.1 = some .local := fun ⟨n, v⟩ hy => S.par n (List.of_mem_zip hy).1
 refine wpAny_newFunctionEnv S.nocell hloc (fun h₁ hns hsb => ?_) S.kind
 have hk₁ : ∀ b o, s.heap.get? b = some o → h₁.get? b = some o := fun b o e => hsb.extBut b o (Nat.ne_of_lt (Heap.lt_size e)) (Heap.get?_push_of_some _ e)
 refine ⟨lim.keeps hk₁, ?_⟩
 obtain ⟨tt, ht, hq⟩ := hbody q A outer s H vs Q E (hr.deeper _) hsp
 have noA : ∀ b : Addr, b ∉ ([] : List Addr) := fun b z => by simp at z
 have kinds : ∀ x, (scope.names.lookup x = some .cell ∨ scope.names.lookup x = some .free) → ∃ cc, cl.lookup x = some cc := fun x hx => by
  rcases hx with z | z
  ·exact absurd rfl (S.nocell _ (PySem.mem_of_lookup z))
  ·exact has _ (PySem.mem_of_lookup z) rfl
 have I : Inv (zrq P w K mg base (ps ++ fr) q scope f c cl A outer s H) [] (vs.map some ++ fv.map some) H { s with heap := h₁, toks := s.toks + (ps.zip us).length } := by
  refine ⟨⟨e0.mod, S.kind, rfl, rfl, Nat.le_refl _, inj, kinds, fun x cc z => (by cases z), fun _ => hr.hd, Around.frames_deeper e0.frames, .inr ⟨rfl, rfl⟩, fun b z => absurd z (noA b), e0.bs, e0.bsz, fun b _ _ => noA b, fun b z => absurd z (noA b), e0.funs, e0.frf⟩,
   rfl, e0.bare, Un.kept hk₁, ⟨_, hns, fun i x v h1 h2 h3 => ?_⟩, fun x cc e => ?_, e0.hok.fresh (Nat.le_refl _), fun x cc e => ?_, fun p hp => absurd (show p ∈ ([] : List (Addr × Obj)) from hp) (by simp), e0.hok.kept hk₁, ?_⟩
  ·have h1' : (ps ++ fr)[i]? = some x := h1
   by_cases hi : i < ps.length
   ·rw [List.getElem?_append_left hi] at h1'
    rw [List.getElem?_append_left (by rw [List.length_map, hl]; exact hi), List.getElem?_map] at h2
    obtain ⟨v', hv, e⟩ := Option.map_eq_some_iff.mp h2
    cases e
    obtain ⟨u, hu, rv⟩ := r.get hv
    exact ⟨u, rv, .inl ⟨S.par x (List.mem_of_getElem? h1'), zia S.nd h1' hu⟩⟩
   ·rw [List.getElem?_append_right (by omega)] at h1'
    rw [List.getElem?_append_right (by rw [List.length_map, hl]; omega), List.getElem?_map, List.length_map, hl] at h2
    obtain ⟨v', hv, e⟩ := Option.map_eq_some_iff.mp h2
    cases e
    obtain ⟨cc, u, e1, ru, ic⟩ := hfv _ _ _ h1' hv
    exact ⟨u, ru, .inr ⟨.inr (S.fre x (List.mem_of_getElem? h1')), cc, e1, (toS ic).1.keeps hk₁⟩⟩
  ·obtain ⟨v, ic⟩ := hcl x cc e
   exact ⟨v, (toS ic).1.keeps hk₁⟩
  ·obtain ⟨v, ic⟩ := hcl x cc e
   exact (toS ic).2
  ·show (vs.map some ++ fv.map some).length = (ps ++ fr).length
   rw [List.length_append, List.length_append, List.length_map, List.length_map, hl, hlen]
 refine PySem.W.kla_codeExpr (wpAny_mono (ht [] _ _ H _ I hq) (fun u s' hs => ?_) fun e s' hs => hs.elim)
 obtain ⟨v, H', J, rv, qq⟩ := hs
 exact ⟨v, H', J.os, J.bare, J.base, J.hok, rv, qq⟩
theorem Fun.okC {P : Program} {w : World} {K : PySem.W.Frag} {mg : Str → Option Value} {base : Heap} {x qual : Str} {st : Stmt} {f : Addr} {fd : FuncData} {N ps : List Str} {k : Nat} {sp : Sp} (F : Fun K x qual st f fd) (S : zay N ps (zab st)) (len : ∀ vs H Q E, sp vs H Q E → vs.length = ps.length)
  (hbody : ∀ (cdv : Value) (A : Around) (outer : List Env) (s : Shared) (H : Hp) (vs : List V) (Q : VK) (E : XK), fd.code = cdv → Room k (A.deeper (envOfC qual (zab st) s.heap.objs.size f cdv)) → sp vs H Q E →
   ∃ t, PSs (zd5 CX0 P w K mg base N qual (zab st) f cdv A outer s H E).nox (zai st) t ∧ t { nx := fun _ H' => Q .non H', rt := Q } (zgf N vs) H) : zbi P w K mg base CX0 (k + 1) f fd ps sp := by
 obtain ⟨oc, od, kV, doc, pm, an, cdv, ct, osl, rfl, lk, hcd⟩ := F.ex
 refine zrd lk hcd S len fun A outer s H vs Q E hr hsp => ?_
 obtain ⟨t, h, q⟩ := hbody cdv A outer s H vs Q E rfl hr hsp
 exact ⟨t, h.nox, q⟩
theorem zpg {P : Program} {w : World} {K : PySem.W.Frag} {mg mb : Str → Option Value} {k : Nat} {fa a : Addr} {fd : FuncData} {x : Str} {sp : Sp} {s₁ : Shared} {vs : List Value} {ns : List Int} {tabs : List (Addr × Addr)}
  (KX : K.In s₁.heap) (hns : s₁.heap.Ns mainGlobals mg) (hb : s₁.heap.Ns builtinsNs mb) (hbb : ∀ x : Str, x ≠ "__name__" → mb x = bootBuiltins x) (hlim : s₁.heap.NoLimit) (hg : s₁.gens = #[])
  (hT : PySem.W.TabsAt tabs s₁.heap) (hK0 : PySem.W.noTabs K = true)
  (hbm : ∃ bm ob, mg "__builtins__" = some (.ref bm) ∧ bm ≠ builtinsNs ∧ s₁.heap.get? bm = some ob ∧ ob.cls = .type "module" ∧ ob.dict = some builtinsNs ∧ ob.data = .plain)
  (ha : s₁.heap.get? a = some { cls := .type "list", data := .seq vs.toArray }) (hi : IntsAre vs ns) (hl : ns.length ≤ sizeLine) (hr : Room k callerA)
  (F : ∀ base : Heap, K.In base → base.Ns mainGlobals mg → (∀ q ∈ tabs, zgj mg base q.1 q.2) → zbi P w K mg base CX0 k fa fd [x] sp) (hbind : ∀ (s : Shared) (u : Value), BindsTo s fd ⟨[u], []⟩ [(x, u)])
  (hsp : ∀ H : Hp, (∀ q ∈ tabs, zeh H q.2) → SqL K H a (ns.map V.int) → sp [.ref a] H (fun v _ => v = .bl true) fun _ _ _ => False) :
  codeAny (model P w) callerA (.call (.ref fa) ⟨[.ref a], []⟩) (fun r s' => r = .ok (.ret (.bool true)) ∧ OldK s₁.heap s'.heap ∧ s'.os = s₁.os ∧ AllBare s'.gens) s₁ := by
 have rv := zha hi
 have lenV := hi.length
 have hPa : ∀ q ∈ tabs, q.2 ≠ a := fun q hq z => by
  have e := (hT q hq).2
  rw [z, ha] at e; cases e
 have hKP : ∀ q ∈ tabs, K.lookup q.2 = none := fun q hq => by
  cases e : K.lookup q.2 with
  | none => rfl
  | some o =>
   have e1 := KX _ _ e
   rw [(hT q hq).2] at e1
   cases e1
   have h2 := List.all_eq_true.mp hK0 (q.2, _) (PySem.W.mem_of_lookupK e)
   exact absurd (show false = true from h2) Bool.false_ne_true
 have core : ∀ H : Hp, (∀ b, H b = none ∨ (∃ o xs, H b = some (.frz o (.lst xs)) ∧ b = a ∧ K.lookup a = none) ∨ (H b = some (.tbl #[]) ∧ b ∈ tabs.map (·.2))) → (∀ q ∈ tabs, H q.2 = some (.tbl #[])) → SqL K H a (ns.map V.int) → HOk P w H s₁.heap →
   codeAny (model P w) callerA (.call (.ref fa) ⟨[.ref a], []⟩) (fun r s' => r = .ok (.ret (.bool true)) ∧ OldK s₁.heap s'.heap ∧ s'.os = s₁.os ∧ AllBare s'.gens) s₁ := by
  intro H hO hTb hS hok
  have noP : ∀ {b : Addr} {o : Obj}, s₁.heap.get? b = some o → o ≠ PySem.W.tabObj #[] → b ≠ a → H b = none := fun {b o} e hne hba => by
   rcases hO b with z | ⟨_, _, _, z, _⟩ | ⟨_, z⟩
   ·exact z
   ·exact absurd z hba
   ·obtain ⟨q, hq, rfl⟩ := List.mem_map.mp z
    rw [(hT q hq).2] at e
    exact absurd (Option.some.inj e).symm hne
  have base_of : ∀ {b : Addr} {o : Obj}, s₁.heap.get? b = some o → H b = none → (zjn s₁.heap H).get? b = some o := fun e n => zru e n
  have noA : ∀ {b : Addr} {o : Obj} {es : Array DictEntry} {ep : Nat}, s₁.heap.get? b = some o → o.data = .dict es ep → H b = none := fun {b o es ep} e d => by
   refine noP e (fun z => by rw [z] at d; cases d) fun z => ?_
   subst z
   rw [ha] at e; cases e; cases d
  have nsK : ∀ {b : Addr} {m : Str → Option Value}, s₁.heap.Ns b m → (zjn s₁.heap H).Ns b m := fun {b m} ⟨o, es, ep, e, d, r⟩ => ⟨o, es, ep, base_of e (noA e d), d, r⟩
  have hKb : K.In (zjn s₁.heap H) := fun b o e => base_of (KX b o e) (by
   rcases hO b with z | ⟨_, _, _, z, y⟩ | ⟨_, z⟩
   ·exact z
   ·rw [z, y] at e; cases e
   ·obtain ⟨q, hq, rfl⟩ := List.mem_map.mp z
    rw [hKP q hq] at e; cases e)
  have hM : Mod K mg (zjn s₁.heap H) := ⟨hKb, nsK hns, ⟨mb, nsK hb, hbb⟩, let ⟨mc, h1, h2⟩ := hlim; ⟨mc, nsK h1, h2⟩⟩
  have hL : ∀ q ∈ tabs, zgj mg (zjn s₁.heap H) q.1 q.2 := fun q hq => by
   refine ⟨?_, ?_⟩
   ·obtain ⟨o, ws, file, tf, flags, tg, inF, text, tt, e, e1, r⟩ := (hT q hq).1
    refine ⟨o, ws, file, tf, flags, tg, inF, text, tt, base_of e (noP e (fun z => by rw [z] at e1; cases e1) fun z => ?_), e1, r⟩
    rw [z, ha] at e; cases e; exact absurd e1 (by simp)
   ·obtain ⟨bm, ob, b1, b2, b3, b4, b5⟩ := hbm
    refine ⟨bm, ob, b1, b2, base_of b3 (noP b3 (fun z => by rw [z] at b4; cases b4) fun z => ?_), b4, b5⟩
    rw [z, ha] at b3; cases b3; exact absurd b4 (by simp)
  have e0 : zri P w K mg (zjn s₁.heap H) callerA [] s₁ H := ⟨rfl, hM, fun b o e => zsv e, Nat.le_of_eq (zp1 _ _), trivial, fun b hb => absurd (show b ∈ ([] : List Addr) from hb) (by simp), hok, .of_eq hg⟩
  have tk : ∀ q ∈ tabs, zeh H q.2 := fun q hq => ⟨#[], hTb q hq, trivial, fun _ => .inl rfl⟩
  refine codeAny_mono ((F _ hKb (nsK hns) hL).run callerA [] s₁ H ⟨[.ref a], []⟩ [.ref a] [.ref a] _ _ hr e0 (hbind s₁ (.ref a)) (.cons rfl .nil) (hsp H tk hS)) fun r s' h => ?_
  cases r with
  | error e => exact h.elim
  | ok fl =>
   cases fl with
   | next => exact False.elim h
   | brk => exact False.elim h
   | cont => exact False.elim h
   | ret u =>
    obtain ⟨v, H', os, bare, un, hok', r', q⟩ := h
    have q' : v = .bl true := q
    subst q'
    obtain rfl : u = Value.bool true := r'
    have cases3 : ∀ b o, s₁.heap.get? b = some o → s'.heap.get? b = some o ∨ (∃ q ∈ tabs, b = q.2 ∧ ∃ ps, s'.heap.get? b = some (PySem.W.tabObj ps)) := fun b o e => by
     rcases hO b with z | ⟨ob, xs, z, _⟩ | ⟨z, y⟩
     ·exact .inl (un.keep b o e z (by intro z; exact absurd (show b ∈ ([] : List Addr) from z) (by simp)) (by simp))
     ·have z2 := un.frzs b ob _ z
      obtain ⟨e1, _⟩ := hok b _ z
      obtain ⟨e2, _⟩ := hok' b _ z2
      rw [e] at e1; cases e1
      exact .inl e2
     ·obtain ⟨q, hq, rfl⟩ := List.mem_map.mp y
      obtain ⟨more, z2⟩ := un.tbls _ _ z
      exact .inr ⟨q, hq, rfl, _, hok' _ _ z2⟩
    refine ⟨rfl, ⟨fun b o e => ?_, fun b o e => ?_⟩, os, bare⟩
    ·rcases cases3 b o e with z | ⟨q, hq, rfl, ps, z⟩
     ·exact .inl z
     ·have e2 := (hT q hq).2
      rw [e] at e2
      cases e2
      exact .inr (.inl ⟨((hT q hq).1.tab (hT q hq).2).isCodeTable, rfl, #[], ps, rfl, by rw [Array.empty_append]; exact z⟩)
    ·rcases cases3 b o e with z | ⟨q, hq, rfl, ps, z⟩
     ·exact ⟨_, z⟩
     ·exact ⟨_, z⟩
 have memT : ∀ b, b ∈ tabs.map (·.2) → s₁.heap.get? b = some (PySem.W.tabObj #[]) := fun b hb => by
  obtain ⟨q, hq, rfl⟩ := List.mem_map.mp hb
  exact (hT q hq).2
 cases hk : K.lookup a with
 | some o =>
  have e := KX a o hk
  rw [ha] at e
  cases e
  refine core (fun b => if b ∈ tabs.map (·.2) then some (.tbl #[]) else none) (fun b => ?_) (fun q hq => if_pos (List.mem_map_of_mem hq)) (.inr ⟨_, vs.toArray, _, hk, rfl, rfl, rfl, by rw [List.size_toArray, lenV]; exact hl, by simpa using rv⟩) (fun b u z => ?_)
  ·by_cases hb : b ∈ tabs.map (·.2)
   ·exact .inr (.inr ⟨if_pos hb, hb⟩)
   ·exact .inl (if_neg hb)
  ·by_cases hb : b ∈ tabs.map (·.2)
   ·have z' := (if_pos hb).symm.trans z
    cases z'
    exact memT b hb
   ·have z' := (if_neg hb).symm.trans z
    cases z'
 | none =>
  refine core (fun b => if b = a then some (.frz { cls := .type "list", data := .seq vs.toArray } (.lst (ns.map V.int))) else if b ∈ tabs.map (·.2) then some (.tbl #[]) else none) (fun b => ?_) (fun q hq => ?_) (.inl (.inr ⟨{ cls := .type "list", data := .seq vs.toArray }, if_pos rfl⟩)) (fun b u z => ?_)
  ·by_cases hb : b = a
   ·exact .inr (.inl ⟨_, _, if_pos hb, hb, hk⟩)
   ·by_cases hb2 : b ∈ tabs.map (·.2)
    ·exact .inr (.inr ⟨(if_neg hb).trans (if_pos hb2), hb2⟩)
    ·exact .inl ((if_neg hb).trans (if_neg hb2))
  ·exact (if_neg (hPa q hq)).trans (if_pos (List.mem_map_of_mem hq))
  ·by_cases hb : b = a
   ·have z' := (if_pos hb).symm.trans z
    cases z'
    subst hb
    exact ⟨ha, by rw [List.length_map]; exact hl, vs, _, rv, ha⟩
   ·have z1 := (if_neg hb).symm.trans z
    by_cases hb2 : b ∈ tabs.map (·.2)
    ·have z' := (if_pos hb2).symm.trans z1
     cases z'
     exact memT b hb2
    ·have z' := (if_neg hb2).symm.trans z1
     cases z'
theorem walk_ofT {l : PySem.W.OpenLaw} {n k : Nat} {q : Program} {loose : List Str} {XP : (Str → Option Value) → Heap → Prop} {YP : World → Heap → Prop} {d : DefRec} {K : Params → PySem.W.Frag} {sp : World → Sp} {x : Str} {tabs : World → List (Addr × Addr)}
  (hn : l.most = some n) (hn2 : n ≤ sizeLine) (hdf : d.params.defaults = []) (hr : Room k callerA)
  (hY : ∀ (w : World) (h : Heap), YP w h → (K w.params).In h) (hK0 : ∀ w : World, PySem.W.noTabs (K w.params) = true)
  (hT : ∀ (w : World) (h : Heap), YP w h → PySem.W.TabsAt (tabs w) h)
  (F : ∀ (w : World) (mg : Str → Option Value) (fa : Addr) (h : Heap), (K w.params).In h → h.Ns mainGlobals mg → mg d.name = some (.ref fa) →
   ∃ fd : FuncData, (∀ (s : Shared) (u : Value), BindsTo s fd ⟨[u], []⟩ [(x, u)]) ∧
    ∀ base : Heap, (K w.params).In base → base.Ns mainGlobals mg → (∀ p ∈ tabs w, zgj mg base p.1 p.2) → zbi l.prog w (K w.params) mg base CX0 k fa fd [x] (sp w))
  (hsp : ∀ (w : World) (H : Hp) (a : Addr) (ns : List Int), ns.length ≤ n → (∀ p ∈ tabs w, zeh H p.2) → SqL (K w.params) H a (ns.map V.int) → sp w [.ref a] H (fun v _ => v = .bl true) fun _ _ _ => False) :
  PySem.W.WalkO q loose XP YP l.row.toRowW d [] (fun f vs => PySem.call f vs) := by
 refine Att.attach_call hn hdf fun w s₀ s₁ mg mb fa o pm cd doc a vs ns G Y ho hd hcd hmg hobj hints hlen hg => ?_
 have KX := hY w _ Y
 obtain ⟨fd, hb, hF⟩ := F w mg fa _ KX G.T.g hmg
 have hTT := hT w _ Y
 exact zpg KX G.T.g G.T.b G.T.builtins G.T.nolimit hg hTT (hK0 w) G.T.bmain hobj hints (Nat.le_trans hlen hn2) hr hF hb fun H hO hS => hsp w H a ns hlen hO hS
def zoh : Expr → Expr
 | .Call _ args _ _ => args.getLastD (.Constant .none 0 ⟨0, 0, 0, 0⟩)
 | e => e
def zmn : Expr → Scope
 | .Lambda _ _ sc _ => sc
 | _ => { kind := .function, names := [], isGenerator := false, isCoroutine := false }
theorem zgl {x y : Str} {c cc : Addr} (h : [(y, c)].lookup x = some cc) : x = y ∧ cc = c := by
 have m := PySem.mem_of_lookup h
 rw [List.mem_singleton] at m
 cases m
 exact ⟨rfl, rfl⟩
end L2
set_option maxRecDepth 100000
set_option maxHeartbeats 4000000
namespace Wd
open PySem L2 Ow
theorem zjq {b : Bool} {A B : Prop} (hb : b = true) (h : A) : if b = true then A else B := by
 rw [if_pos hb]
 exact h
theorem zgi {b : Bool} {A B : Prop} (hb : b = false) (h : B) : if b = true then A else B := by
 rw [if_neg (by rw [hb]; simp)]
 exact h
def spT (P0 : Addr) (sp : Sp) : Sp := fun vs H Q E => zeh H P0 ∧ sp vs H Q E
def zff (ts : List Tie) (il : List Nat) (m : Nat) (leaf : Nat → Nat → Option PyData) : Nat → Nat → Nat → PyData
 | f, y, n => match zbs ts il y n with
  | some t => .tuple [.str ("broken" : Str), .int (t : Int)]
  | none => match leaf y n with
   | some d => d
   | none => match za9 m y n, f with
    | k :: _, f + 1 => .tuple [.str ("split" : Str), .int (k : Int), zff ts il m leaf f (y ||| 2 ^ k) n, zff ts il m leaf f y (n ||| 2 ^ k)]
    | _, _ => .tuple []
section
variable {ts : List Tie} {il : List Nat} {m f y n : Nat} {leaf : Nat → Nat → Option PyData}
theorem zg2 {i : Nat} (hb : zbs ts il y n = some i) : zff ts il m leaf f y n = .tuple [.str ("broken" : Str), .int (i : Int)] := by
 unfold zff
 simp [hb]
theorem zi7 {d : PyData} (hb : zbs ts il y n = none) (hl : leaf y n = some d) : zff ts il m leaf f y n = d := by
 unfold zff
 simp [hb, hl]
theorem zhm {k : Nat} {r : List Nat} (hb : zbs ts il y n = none) (hl : leaf y n = none) (ho : za9 m y n = k :: r) : zff ts il m leaf (f + 1) y n = .tuple [.str ("split" : Str), .int (k : Int), zff ts il m leaf f (y ||| 2 ^ k) n, zff ts il m leaf f y (n ||| 2 ^ k)] := by
 conv => lhs; unfold zff
 simp only [hb, hl, ho]
end
def zkb (leaf : Nat → Nat → Option PyData) (y n : Nat) (H : Hp) (v : V) : Prop := match leaf y n with
 | none => v = .non
 | some d => Dn H d v ∧ ∃ p, v = .ref p
def zus (C : Hp → Prop) (leaf : Nat → Nat → Option PyData) : Sp := fun vs H Q _ => ∃ y n : Nat, vs = [.int y, .int n] ∧ C H ∧ ∀ (v : V) (H' : Hp), Same H H' → zkb leaf y n H' v → Q v H'
def EndsR (ts : List Tie) (il : List Nat) (m : Nat) (leaf : Nat → Nat → Option PyData) (y n : Nat) : Prop := ∃ R : Nat → Nat → Prop, R y n ∧ (∀ y n k, R y n → k ∈ za9 m y n → R (y ||| 2 ^ k) n ∧ R y (n ||| 2 ^ k)) ∧ ∀ y n, R y n → zbs ts il y n = none → za9 m y n = [] → leaf y n ≠ none
theorem EndsR.all {ts : List Tie} {il : List Nat} {m : Nat} {leaf : Nat → Nat → Option PyData} (h : ∀ y n, zbs ts il y n = none → za9 m y n = [] → leaf y n ≠ none) (y n : Nat) : EndsR ts il m leaf y n := ⟨fun _ _ => True, trivial, fun _ _ _ _ _ => ⟨trivial, trivial⟩, fun y n _ => h y n⟩
def zkz (f : Nat) (p : Addr) (C : Hp → Prop) (m : Nat) (leaf : Nat → Nat → Option PyData) : Sp := fun vs H Q _ => ∃ (wd : Addr) (ts : List Tie) (tl : Addr) (il : List Nat) (y n : Nat), vs = [.ref wd, .ref tl, .int y, .int n, .ref p] ∧ WoodT H wd m ts ∧ H tl = some (.lst (zak il)) ∧ (∀ i ∈ il, i < ts.length) ∧ (za9 m y n).length ≤ f ∧ C H ∧ EndsR ts il m leaf y n ∧ ∀ (v : V) (H' : Hp), Same H H' → Dn H' (zff ts il m leaf f y n) v → Q v H'
theorem ztw {P : Program} {w : World} {K : PySem.W.Frag} {mg : Str → Option Value} {base : Heap} {p c : Addr} {qual : Str} {params : Arguments} {body : Expr} {scope : Scope} {cl : List (Str × Addr)} {H1 : Hp} {ps fr : List Str} {fv : List V} {k : Nat} {leaf : Nat → Nat → Option PyData} (C0 : Hp → Prop)
  (hp : H1 p = some (.ext (zme p qual params body scope cl c)))
  (S : zlx ps fr scope) (hcl : ∀ x cc, cl.lookup x = some cc → ∃ v, base.IsCell cc v) (inj : ∀ x y cc, cl.lookup x = some cc → cl.lookup y = some cc → x = y) (has : ∀ y ∈ scope.names, y.2 = .free → ∃ cc, cl.lookup y.1 = some cc)
  (hfv : ∀ (i : Nat) (x : Str) (v : V), fr[i]? = some x → fv[i]? = some v → ∃ cc u, cl.lookup x = some cc ∧ RelV v u ∧ base.IsCell cc (some u)) (hlen : fv.length = fr.length)
  (hsame : ∀ pm ctv args, bindArgs (PySem.W.kla_fn "<lambda>" qual params body scope cl pm (.ref c) ctv) args = bindArgs (PySem.W.kla_fn "<lambda>" qual params body scope cl .none (.ref c) .none) args)
  (len2 : ps.length = 2)
  (hbody : ∀ (q : Str) (A : Around) (outer : List Env) (s : Shared) (H : Hp) (y n : Nat) (Q : VK), Room k (A.deeper (PySem.W.envX q scope s.heap.objs.size p (.ref c) cl)) → C0 H → (∀ (v : V) (H' : Hp), Same H H' → zkb leaf y n H' v → Q v H') →
   ∃ t, PE (zrq P w K mg base (ps ++ fr) q scope p c cl A outer s H) body t ∧ t ([some (.int y), some (.int n)] ++ fv.map some) H Q) :
  zbi P w K mg base CX0 (k + 1) p (PySem.W.kla_fn "<lambda>" qual params body scope cl .none (.ref c) .none) ps (zus (fun H => C0 H ∧ H p = some (.ext (zme p qual params body scope cl c)) ∧ H c = some (.ext (zge c))) leaf) := by
 refine zuz S hcl inj has hfv hlen hsame (fun vs H Q E h => ?_) (fun vs H Q E h => ?_) (fun q A outer s H vs Q E hr h => ?_)
 ·obtain ⟨y, n, rfl, _⟩ := h
  exact len2.symm
 ·obtain ⟨y, n, rfl, ⟨_, h1, h2⟩, _⟩ := h
  exact ⟨h1, h2⟩
 ·obtain ⟨y, n, rfl, ⟨h0, _, _⟩, q'⟩ := h
  exact hbody q A outer s H y n Q hr h0 q'
theorem zr6 {p : Addr} {qual : Str} {params : Arguments} {body : Expr} {scope : Scope} {cl : List (Str × Addr)} {c : Addr} (h : Heap) (x : zme p qual params body scope cl c h) : ∃ o fd', h.get? p = some o ∧ o.data = .func fd' := by
 obtain ⟨pm, ctv, e⟩ := x
 exact ⟨_, _, e, rfl⟩
def zdw (m : Nat) (y n : Nat) : Option PyData := if za9 m y n = [] then some (.tuple [.str ("ware" : Str)]) else none
theorem zgk {ts : List Tie} {il : List Nat} {m : Nat} : ∀ (f y n : Nat), (za9 m y n).length ≤ f → zff ts il m (zdw m) f y n = (zb4 ts il m f y n).toD
 | f, y, n, hf => by
  cases hb : zbs ts il y n with
  | some i => rw [zg2 hb, zgd hb]; rfl
  | none =>
   cases ho : za9 m y n with
   | nil => rw [zi7 hb (by unfold zdw; rw [if_pos ho]), zhn hb ho]; rfl
   | cons k r =>
    cases f with
    | zero => rw [ho] at hf; simp at hf
    | succ f =>
     have hk : k ∈ za9 m y n := by rw [ho]; exact List.mem_cons_self
     have l1 := zfe hk
     have l2 := zfa hk
     rw [zhm hb (by unfold zdw; rw [if_neg (by rw [ho]; simp)]) ho, zgz hb ho, zgk f _ _ (by omega), zgk f _ _ (by omega)]
     rfl
end Wd
set_option maxRecDepth 100000
set_option maxHeartbeats 4000000
namespace Wd
open PySem L2 Ow
def za3 (m : Nat) (ts : List Tie) : List Nat := (List.range (2 ^ m)).filter fun s => zbw ts s
theorem mem_wareL {m : Nat} {ts : List Tie} {s : Nat} : s ∈ za3 m ts ↔ s < 2 ^ m ∧ zbw ts s = true := by
 unfold za3
 rw [List.mem_filter, List.mem_range]
theorem zmp (m : Nat) (ts : List Tie) : (za3 m ts).Pairwise (· < ·) := List.Pairwise.filter _ List.pairwise_lt_range
theorem zf6 {m : Nat} {ts : List Tie} (m9 : m ≤ 9) : (za3 m ts).length ≤ 512 := by
 have h1 : (za3 m ts).length ≤ 2 ^ m := by
  have := List.length_filter_le (fun s => zbw ts s) (List.range (2 ^ m))
  rwa [List.length_range] at this
 exact Nat.le_trans h1 (Nat.pow_le_pow_right (by decide) m9 : 2 ^ m ≤ 2 ^ 9)
theorem ze2 {m : Nat} {ts : List Tie} {il : List Nat} (ok : ∀ t ∈ ts, t.Ok m) : ∀ (f y n : Nat), (za9 m y n).length ≤ f → Stand m y n → ((zb4 ts il m f y n).leaves y).Nodup
 | f, y, n, hf, S => by
  cases hb : zbs ts il y n with
  | some i => rw [zgd hb]; exact List.nodup_nil
  | none =>
   cases ho : za9 m y n with
   | nil => rw [zhn hb ho]; exact List.nodup_cons.mpr ⟨List.not_mem_nil, List.nodup_nil⟩
   | cons k r =>
    have hk : k ∈ za9 m y n := by rw [ho]; exact List.mem_cons_self
    cases f with
    | zero => rw [ho] at hf; simp at hf
    | succ f =>
     have l1 := zfe hk
     have l2 := zfa hk
     rw [zgz hb ho]
     show ((zb4 ts il m f (y ||| 2 ^ k) n).leaves (y ||| 2 ^ k) ++ (zb4 ts il m f y (n ||| 2 ^ k)).leaves y).Nodup
     refine List.nodup_append.mpr ⟨ze2 ok f _ _ (by omega) (S.one hk), ze2 ok f _ _ (by omega) (S.other hk), fun a ha b hb' e => ?_⟩
     subst e
     have h1 := ((zd4 ok f _ _ (by omega) (S.one hk) a).mp ha).2.1.1 k (by rw [Nat.testBit_or, Nat.testBit_two_pow_self, Bool.or_true])
     have h2 := ((zd4 ok f _ _ (by omega) (S.other hk) a).mp hb').2.1.2 k (by rw [Nat.testBit_or, Nat.testBit_two_pow_self, Bool.or_true])
     rw [h1] at h2
     cases h2
theorem zrb {m : Nat} (m1 : 1 ≤ m) : Stand m 1 0 := ⟨fun _ _ => Nat.zero_testBit _, Nat.lt_of_lt_of_le (by decide) (Nat.pow_le_pow_right (by decide) m1 : 2 ^ 1 ≤ 2 ^ m), Nat.two_pow_pos m⟩
theorem znn {m : Nat} {ts : List Tie} (ok : ∀ t ∈ ts, t.Ok m) (m1 : 1 ≤ m) (f : Nat) (hf : (za9 m 1 0).length ≤ f) : ((zb4 ts (zmu ts) m f 1 0).leaves 1).Perm (za3 m ts) := by
 refine (List.perm_ext_iff_of_nodup (ze2 ok f 1 0 hf (zrb m1)) ((zmp m ts).imp fun h => Nat.ne_of_lt h)).mpr fun s => ?_
 rw [zd4 ok f 1 0 hf (zrb m1), mem_wareL, zmk]
 unfold zbw
 rw [Bool.and_eq_true]
 constructor
 ·rintro ⟨h1, h2, h3⟩
  exact ⟨h1, h2.1 0 rfl, h3⟩
 ·rintro ⟨h1, h2, h3⟩
  refine ⟨h1, ⟨fun k hk => ?_, fun k hk => ?_⟩, h3⟩
  ·have : k = 0 := by
    rcases Nat.eq_zero_or_pos k with z | z
    ·exact z
    ·have e : (1 : Nat).testBit k = false := Nat.testBit_lt_two_pow (Nat.lt_of_lt_of_le (by decide : 1 < 2 ^ 1) (Nat.pow_le_pow_right (by decide) z))
     rw [e] at hk; cases hk
   rw [this]; exact h2
  ·rw [Nat.zero_testBit] at hk; cases hk
theorem zmd {ms : List Int} {L M : List Nat} (p : ms.Perm (L.map fun k : Nat => (k : Int))) (so : ms.Pairwise (· ≤ ·)) (q : L.Perm M) (pw : M.Pairwise (· < ·)) : ms = M.map fun k : Nat => (k : Int) := by
 refine List.Perm.eq_of_pairwise (le := (· ≤ ·)) (fun a b _ _ h1 h2 => Int.le_antisymm h1 h2) so ?_ (p.trans (q.map _))
 rw [List.pairwise_map]
 exact pw.imp fun h => by omega
def zs9 : Sp := fun vs H Q _ => ∃ (wd : Addr) (m : Nat) (ts : List Tie), vs = [.ref wd] ∧ WoodT H wd m ts ∧ 1 ≤ m ∧ m ≤ 9 ∧ ∀ (l : Addr) (H' : Hp), Same H H' → H l = none → H' l = some (.lst (zak (za3 m ts))) → Q (.ref l) H'
end Wd
set_option maxHeartbeats 4000000
namespace Srt
open PySem PyProof PyProof.Rows
def zsb : Bool → Keyed → Array Keyed → Nat → Nat → Nat → StateT SortSt Sem (Option Nat) := sortPriv% PySem.Builtin.gallop
def zqj : Array Keyed → Array Keyed → StateT SortSt Sem (Array Keyed) := sortPriv% PySem.Builtin.mergeLo
def zq5 : Array Keyed → Array Keyed → StateT SortSt Sem (Array Keyed) := sortPriv% PySem.Builtin.mergeHi
def kn (p : Keyed) : Int := numOf p.1
def zgb (p : Keyed) : Prop := ∃ n t, p.1 = .int n t
theorem zdd {arr : Array Keyed} {i : Nat} {p : Keyed} (h : arr[i]? = some p) : K arr i = kn p := by unfold K; rw [h]; rfl
def gp (left : Bool) (key : Keyed) (arr : Array Keyed) (base i : Nat) : Bool := if left then decide (K arr (base + i) < kn key) else !decide (kn key < K arr (base + i))
section
variable {prog : Program} {w : World} {A : Around} {E : Value → Shared → Prop} {s : Shared}
theorem zh5 {st : SortSt} {x y : Keyed} {Q : Option Bool → SortSt → Prop} (hk : kindOf st = oneType') (hx : zgb x) (hy : zgb y) (h : Q (some (decide (kn x < kn y))) st) :
  wpS (model prog w) A E s (lt' x y) Q st := by
 obtain ⟨a, t, e1⟩ := hx
 obtain ⟨b, u, e2⟩ := hy
 obtain ⟨x1, x2⟩ := x
 obtain ⟨y1, y2⟩ := y
 cases e1; cases e2
 rw [lt'_eq]
 refine wpS_bind (wpS_get ?_)
 rw [hk, keyLt'_oneType]
 refine wpS_bind (wpS_lift (wpAny_attempt (oneLt_int ⟨rfl, ?_⟩)))
 exact wpS_pure h
theorem zba {st : SortSt} {arr : Array Keyed} {i : Nat} {p : Keyed} {Q : Keyed → SortSt → Prop} (hp : arr[i]? = some p) (h : Q p st) : wpS (model prog w) A E s (elem' arr i) Q st := by
 rw [elem'_eq, hp]; exact wpS_pure h
theorem zdr {st : SortSt} {left : Bool} {key : Keyed} {arr : Array Keyed} {base n hint : Nat} {Q : Option Nat → SortSt → Prop} (hk : kindOf st = oneType') (hkey : zgb key)
  (hall : ∀ i, i < n → ∃ p, arr[base + i]? = some p ∧ zgb p) (hs : ∀ i j, i ≤ j → j < n → K arr (base + i) ≤ K arr (base + j)) (hn : hint < n)
  (h : ∀ k, k ≤ n → (∀ i, i < k → gp left key arr base i = true) → (∀ i, k ≤ i → i < n → gp left key arr base i = false) → Q (some k) st) :
  wpS (model prog w) A E s (zsb left key arr base n hint) Q st := by
 have hb : ∀ (i : Nat) (R : Option Bool → SortSt → Prop), i < n → R (some (gp left key arr base i)) st →
   wpS (model prog w) A E s (elem' arr (base + i) >>= fun x => if left = true then lt' x key else lt' key x >>= fun b => pure (b.map (!·))) R st := by
  intro i R hi hR
  obtain ⟨p, hp, ip⟩ := hall i hi
  refine wpS_bind (zba hp ?_)
  unfold gp at hR
  rw [zdd hp] at hR
  cases left with
  | true => exact zh5 hk ip hkey hR
  | false => exact wpS_bind (zh5 hk hkey ip (wpS_pure hR))
 have mono : ∀ i j, i ≤ j → j < n → gp left key arr base j = true → gp left key arr base i = true := by
  intro i j hij hj hg
  have := hs i j hij hj
  unfold gp at hg ⊢
  cases left <;> simp at hg ⊢ <;> omega
 have anti : ∀ i j, i ≤ j → j < n → gp left key arr base i = false → gp left key arr base j = false := by
  intro i j hij hj hg
  cases hgj : gp left key arr base j with
  | false => rfl
  | true => rw [mono i j hij hj hgj] at hg; cases hg
 refine wpS_bind (hb hint _ hn ?_)
 dsimp only
 cases hr : gp left key arr base hint with
 | true =>
  rw [if_pos rfl]
  refine wpS_bind (wpS_mono (wpS_forRange
   (I := fun x c st' => st = st' ∧ ∃ la of, c = (none, la, of) ∧ la < of ∧ hint + la < n ∧ x + 1 ≤ of ∧ gp left key arr base (hint + la) = true)
   (Q := fun c st' => st = st' ∧ ∃ la of, c = (none, la, of) ∧ la < of ∧ hint + la < n ∧ gp left key arr base (hint + la) = true ∧ (of ≥ n - hint ∨ (hint + of < n ∧ gp left key arr base (hint + of) = false)))
   ?_ ?_ ⟨rfl, 0, 1, rfl, by omega, by omega, by omega, hr⟩) ?_)
  ·rintro x c st' _ hx ⟨rfl, la, of, rfl, k1, k2, k3, k4⟩
   dsimp only
   by_cases hge : of ≥ n - hint
   ·rw [if_pos hge]
    exact wpS_pure ⟨rfl, la, of, rfl, k1, k2, k4, .inl hge⟩
   ·rw [if_neg hge]
    refine wpS_bind (hb _ _ (by omega) ?_)
    dsimp only
    cases hm : gp left key arr base (hint + of) with
    | true => exact wpS_pure ⟨rfl, of, 2 * of + 1, rfl, by omega, by omega, by omega, hm⟩
    | false => exact wpS_pure ⟨rfl, la, of, rfl, k1, k2, k4, .inr ⟨by omega, hm⟩⟩
  ·rintro c st' ⟨rfl, la, of, rfl, k1, k2, k3, k4⟩
   exact ⟨rfl, la, of, rfl, k1, k2, k4, .inl (by omega)⟩
  ·rintro c st' ⟨rfl, la, of, rfl, k1, k2, k4, k5⟩
   dsimp only
   have g1 : hint + la + 1 ≤ hint + min of (n - hint) := by omega
   have g2 : hint + min of (n - hint) ≤ n := by omega
   have g3 : ∀ i, i < hint + la + 1 → gp left key arr base i = true := fun i hi => mono i _ (by omega) k2 k4
   have g4 : ∀ i, hint + min of (n - hint) ≤ i → i < n → gp left key arr base i = false := fun i h1 h2 => by
    rcases k5 with z | ⟨z, hz⟩
    ·omega
    ·exact anti _ i (by omega) h2 hz
   refine wpS_bind (wpS_mono (wpS_forRange
    (I := fun x c st' => st = st' ∧ ∃ lo hi, c = (none, lo, hi) ∧ lo ≤ hi ∧ hi ≤ n ∧ hi - lo ≤ n - x ∧ (∀ i, i < lo → gp left key arr base i = true) ∧ (∀ i, hi ≤ i → i < n → gp left key arr base i = false))
    (Q := fun c st' => st = st' ∧ ∃ hi, c = (none, hi, hi) ∧ hi ≤ n ∧ (∀ i, i < hi → gp left key arr base i = true) ∧ (∀ i, hi ≤ i → i < n → gp left key arr base i = false))
    ?_ ?_ ⟨rfl, _, _, rfl, g1, g2, by omega, g3, g4⟩) ?_)
   ·rintro x c st' _ hx ⟨rfl, lo, hi, rfl, k1, k2, k3, k4, k5⟩
    dsimp only
    by_cases hge : lo ≥ hi
    ·rw [if_pos hge]
     have : lo = hi := by omega
     subst this
     exact wpS_pure ⟨rfl, lo, rfl, k2, k4, k5⟩
    ·rw [if_neg hge]
     refine wpS_bind (hb _ _ (by omega) ?_)
     dsimp only
     by_cases hm : gp left key arr base (lo + (hi - lo) / 2) = true
     ·rw [if_pos hm]
      exact wpS_pure ⟨rfl, _, _, rfl, by omega, k2, by omega, fun i hi' => mono i _ (by omega) (by omega) hm, k5⟩
     ·rw [if_neg hm]
      exact wpS_pure ⟨rfl, _, _, rfl, by omega, by omega, by omega, k4, fun i h1 h2 => anti _ i h1 h2 (by simpa using hm)⟩
   ·rintro c st' ⟨rfl, lo, hi, rfl, k1, k2, k3, k4, k5⟩
    have : lo = hi := by omega
    subst this
    exact ⟨rfl, lo, rfl, k2, k4, k5⟩
   ·rintro c st' ⟨rfl, hi, rfl, k2, k4, k5⟩
    exact wpS_pure (h hi k2 k4 k5)
 | false =>
  rw [if_neg (by decide)]
  refine wpS_bind (wpS_mono (wpS_forRange
   (I := fun x c st' => st = st' ∧ ∃ la of, c = (none, la, of) ∧ la < of ∧ la ≤ hint ∧ x + 1 ≤ of ∧ gp left key arr base (hint - la) = false)
   (Q := fun c st' => st = st' ∧ ∃ la of, c = (none, la, of) ∧ la < of ∧ la ≤ hint ∧ gp left key arr base (hint - la) = false ∧ (of ≥ hint + 1 ∨ (of ≤ hint ∧ gp left key arr base (hint - of) = true)))
   ?_ ?_ ⟨rfl, 0, 1, rfl, by omega, by omega, by omega, hr⟩) ?_)
  ·rintro x c st' _ hx ⟨rfl, la, of, rfl, k1, k2, k3, k4⟩
   dsimp only
   by_cases hge : of ≥ hint + 1
   ·rw [if_pos hge]
    exact wpS_pure ⟨rfl, la, of, rfl, k1, k2, k4, .inl hge⟩
   ·rw [if_neg hge]
    refine wpS_bind (hb _ _ (by omega) ?_)
    dsimp only
    cases hm : gp left key arr base (hint - of) with
    | false => exact wpS_pure ⟨rfl, of, 2 * of + 1, rfl, by omega, by omega, by omega, hm⟩
    | true => exact wpS_pure ⟨rfl, la, of, rfl, k1, k2, k4, .inr ⟨by omega, hm⟩⟩
  ·rintro c st' ⟨rfl, la, of, rfl, k1, k2, k3, k4⟩
   exact ⟨rfl, la, of, rfl, k1, k2, k4, .inl (by omega)⟩
  ·rintro c st' ⟨rfl, la, of, rfl, k1, k2, k4, k5⟩
   dsimp only
   have g1 : hint + 1 - min of (hint + 1) ≤ hint - la := by omega
   have g2 : hint - la ≤ n := by omega
   have g3 : ∀ i, i < hint + 1 - min of (hint + 1) → gp left key arr base i = true := fun i hi => by
    rcases k5 with z | ⟨z, hz⟩
    ·omega
    ·exact mono i _ (by omega) (by omega) hz
   have g4 : ∀ i, hint - la ≤ i → i < n → gp left key arr base i = false := fun i h1 h2 => anti _ i h1 h2 k4
   refine wpS_bind (wpS_mono (wpS_forRange
    (I := fun x c st' => st = st' ∧ ∃ lo hi, c = (none, lo, hi) ∧ lo ≤ hi ∧ hi ≤ n ∧ hi - lo ≤ n - x ∧ (∀ i, i < lo → gp left key arr base i = true) ∧ (∀ i, hi ≤ i → i < n → gp left key arr base i = false))
    (Q := fun c st' => st = st' ∧ ∃ hi, c = (none, hi, hi) ∧ hi ≤ n ∧ (∀ i, i < hi → gp left key arr base i = true) ∧ (∀ i, hi ≤ i → i < n → gp left key arr base i = false))
    ?_ ?_ ⟨rfl, _, _, rfl, g1, g2, by omega, g3, g4⟩) ?_)
   ·rintro x c st' _ hx ⟨rfl, lo, hi, rfl, k1, k2, k3, k4, k5⟩
    dsimp only
    by_cases hge : lo ≥ hi
    ·rw [if_pos hge]
     have : lo = hi := by omega
     subst this
     exact wpS_pure ⟨rfl, lo, rfl, k2, k4, k5⟩
    ·rw [if_neg hge]
     refine wpS_bind (hb _ _ (by omega) ?_)
     dsimp only
     by_cases hm : gp left key arr base (lo + (hi - lo) / 2) = true
     ·rw [if_pos hm]
      exact wpS_pure ⟨rfl, _, _, rfl, by omega, k2, by omega, fun i hi' => mono i _ (by omega) (by omega) hm, k5⟩
     ·rw [if_neg hm]
      exact wpS_pure ⟨rfl, _, _, rfl, by omega, by omega, by omega, k4, fun i h1 h2 => anti _ i h1 h2 (by simpa using hm)⟩
   ·rintro c st' ⟨rfl, lo, hi, rfl, k1, k2, k3, k4, k5⟩
    have : lo = hi := by omega
    subst this
    exact ⟨rfl, lo, rfl, k2, k4, k5⟩
   ·rintro c st' ⟨rfl, hi, rfl, k2, k4, k5⟩
    exact wpS_pure (h hi k2 k4 k5)
end
end Srt
set_option maxHeartbeats 4000000
namespace Srt
open PySem PyProof PyProof.Rows
def kle (x y : Keyed) : Prop := kn x ≤ kn y
theorem zjz {x y z : Keyed} (h : kle x y) (g : kle y z) : kle x z := Int.le_trans h g
structure MI (A B out : List Keyed) (ia ib : Nat) : Prop where
 perm : out.Perm (A.take ia ++ B.take ib)
 srt : out.Pairwise kle
 la : ∀ x ∈ out, ∀ y ∈ A.drop ia, kle x y
 lb : ∀ x ∈ out, ∀ y ∈ B.drop ib, kle x y
def SP (A B R : List Keyed) : Prop := R.Perm (A ++ B) ∧ R.Pairwise kle
theorem MI.swap {A B out : List Keyed} {ia ib : Nat} (m : MI A B out ia ib) : MI B A out ib ia :=
 ⟨m.perm.trans List.perm_append_comm, m.srt, m.lb, m.la⟩
theorem MI.more {A B out : List Keyed} {ia ib : Nat} (hA : A.Pairwise kle) (m : MI A B out ia ib) (k : Nat) (hx : ∀ x ∈ (A.drop ia).take k, ∀ y ∈ B.drop ib, kle x y) :
  MI A B (out ++ (A.drop ia).take k) (ia + k) ib := by
 have hd : (A.drop ia).Pairwise kle := hA.sublist (List.drop_sublist _ _)
 have hs : ((A.drop ia).take k ++ (A.drop ia).drop k).Pairwise kle := by rw [List.take_append_drop]; exact hd
 obtain ⟨p1, p2, p3⟩ := List.pairwise_append.mp hs
 refine ⟨?_, List.pairwise_append.mpr ⟨m.srt, p1, fun x h y g => m.la x h y (List.mem_of_mem_take g)⟩, fun x h y g => ?_, fun x h y g => ?_⟩
 ·rw [List.take_add]
  refine (List.Perm.append_right _ m.perm).trans ?_
  rw [List.append_assoc, List.append_assoc]
  exact List.Perm.append_left _ List.perm_append_comm
 ·rw [← List.drop_drop] at g
  rcases List.mem_append.mp h with z | z
  ·exact m.la x z y (List.mem_of_mem_drop g)
  ·exact p3 x z y g
 ·rcases List.mem_append.mp h with z | z
  ·exact m.lb x z y g
  ·exact hx x z y g
theorem MI.fin {A B out : List Keyed} {ia ib : Nat} (m : MI A B out ia ib) (ha : A.length ≤ ia) (hb : B.length ≤ ib) : SP A B out := by
 have := m.perm
 rw [List.take_of_length_le ha, List.take_of_length_le hb] at this
 exact ⟨this, m.srt⟩
theorem MI.done {A B out : List Keyed} {ia ib : Nat} (hA : A.Pairwise kle) (m : MI A B out ia ib) (hb : B.length ≤ ib) : SP A B (out ++ A.drop ia ++ B.drop ib) := by
 have h := m.more hA A.length (fun x _ y g => by rw [List.drop_of_length_le hb] at g; cases g)
 rw [List.take_of_length_le (by rw [List.length_drop]; omega)] at h
 rw [List.drop_of_length_le hb, List.append_nil]
 exact h.fin (by omega) hb
theorem MI.last {A B out : List Keyed} {ia ib : Nat} (hA : A.Pairwise kle) (hB : B.Pairwise kle) (m : MI A B out ia ib) (hx : ∀ x ∈ B.drop ib, ∀ y ∈ A.drop ia, kle x y) :
  SP A B (out ++ B.drop ib ++ A.drop ia) := by
 have h := (m.swap.more hB B.length (fun x g y g2 => hx x (List.mem_of_mem_take g) y g2)).swap
 rw [List.take_of_length_le (by rw [List.length_drop]; omega)] at h
 have := h.done hA (Nat.le_add_left _ _)
 rwa [List.drop_of_length_le (l := B) (Nat.le_add_left _ _), List.append_nil] at this
theorem zf4 {a : Array Keyed} {i : Nat} : (a.extract i a.size).toList = a.toList.drop i := by
 rw [Array.toList_extract, List.extract_eq_drop_take]
 rw [List.take_of_length_le]
 rw [List.length_drop, Array.length_toList]
 exact Nat.le_refl _
theorem zvb {a : Array Keyed} {i k : Nat} : (a.extract i (i + k)).toList = (a.toList.drop i).take k := by
 rw [Array.toList_extract, List.extract_eq_drop_take, Nat.add_sub_cancel_left]
theorem zeu {a : Array Keyed} {i : Nat} {p : Keyed} (h : a[i]? = some p) : (a.toList.drop i).take 1 = [p] := by
 have hi : i < a.toList.length := by
  rw [Array.length_toList]; exact (Array.getElem?_eq_some_iff.mp h).1
 have e : a.toList[i] = p := by
  obtain ⟨h1, h2⟩ := Array.getElem?_eq_some_iff.mp h
  rw [← h2]; exact Array.getElem_toList h1
 rw [List.drop_eq_getElem_cons hi, e]; rfl
theorem zrj {a : Array Keyed} {i : Nat} {p : Keyed} (h : a[i]? = some p) : p ∈ a.toList := by
 obtain ⟨h1, h2⟩ := Array.getElem?_eq_some_iff.mp h
 rw [← h2]; exact Array.getElem_mem_toList h1
theorem MI.one {a b out : Array Keyed} {ia ib : Nat} {p : Keyed} (hA : a.toList.Pairwise kle) (m : MI a.toList b.toList out.toList ia ib) (hp : a[ia]? = some p) (hx : ∀ y ∈ b.toList.drop ib, kle p y) :
  MI a.toList b.toList (out.push p).toList (ia + 1) ib := by
 have := m.more hA 1 (by rw [zeu hp]; intro x hx' y hy; rw [List.mem_singleton.mp hx']; exact hx y hy)
 rw [zeu hp] at this
 rwa [Array.toList_push]
theorem MI.blk {a b out : Array Keyed} {ia ib k : Nat} (hA : a.toList.Pairwise kle) (m : MI a.toList b.toList out.toList ia ib) (hx : ∀ x ∈ (a.toList.drop ia).take k, ∀ y ∈ b.toList.drop ib, kle x y) :
  MI a.toList b.toList (out ++ a.extract ia (ia + k)).toList (ia + k) ib := by
 rw [Array.toList_append, zvb]
 exact m.more hA k hx
theorem MI.doneA {a b out : Array Keyed} {ia ib : Nat} (hA : a.toList.Pairwise kle) (m : MI a.toList b.toList out.toList ia ib) (hb : b.size ≤ ib) :
  SP a.toList b.toList (out ++ a.extract ia a.size ++ b.extract ib b.size).toList := by
 rw [Array.toList_append, Array.toList_append, zf4, zf4]
 exact m.done hA hb
theorem MI.doneB {a b out : Array Keyed} {ia ib : Nat} (hB : b.toList.Pairwise kle) (m : MI a.toList b.toList out.toList ia ib) (ha : a.size ≤ ia) :
  SP a.toList b.toList (out ++ a.extract ia a.size ++ b.extract ib b.size).toList := by
 rw [Array.toList_append, Array.toList_append, zf4, zf4, List.drop_of_length_le (l := a.toList) (by rw [Array.length_toList]; exact ha), List.append_nil]
 have h := m.swap.done hB (by rw [Array.length_toList]; exact ha)
 rw [List.drop_of_length_le (l := a.toList) (by rw [Array.length_toList]; exact ha), List.append_nil] at h
 exact ⟨h.1.trans List.perm_append_comm, h.2⟩
theorem MI.lastA {a b out : Array Keyed} {ia ib : Nat} (hA : a.toList.Pairwise kle) (hB : b.toList.Pairwise kle) (m : MI a.toList b.toList out.toList ia ib) (hx : ∀ x ∈ b.toList, ∀ y ∈ a.toList.drop ia, kle x y) :
  SP a.toList b.toList (out ++ b.extract ib b.size ++ a.extract ia a.size).toList := by
 rw [Array.toList_append, Array.toList_append, zf4, zf4]
 exact m.last hA hB fun x h => hx x (List.mem_of_mem_drop h)
theorem MI.lastE {a b out : Array Keyed} {ia ib : Nat} (hA : a.toList.Pairwise kle) (hB : b.toList.Pairwise kle) (m : MI a.toList b.toList out.toList ia ib) (e : ia + 1 = a.size)
  (hx : ∀ x ∈ b.toList, ∀ y ∈ a.toList.drop (a.size - 1), kle x y) : SP a.toList b.toList (out ++ b.extract ib b.size ++ a.extract ia a.size).toList :=
 m.lastA hA hB (by rw [show ia = a.size - 1 by omega]; exact hx)
section
variable {prog : Program} {w : World} {A : Around} {E : Value → Shared → Prop} {s : Shared}
theorem zap {α : Type} {c : Prop} [Decidable c] {t e : StateT SortSt Sem α} {Q : α → SortSt → Prop} {st : SortSt} (h1 : c → wpS (model prog w) A E s t Q st) (h2 : ¬ c → wpS (model prog w) A E s e Q st) :
  wpS (model prog w) A E s (if c then t else e) Q st := by
 by_cases hc : c
 ·rw [if_pos hc]; exact h1 hc
 ·rw [if_neg hc]; exact h2 hc
abbrev zes (st : SortSt) (g : Nat) : SortSt := SortSt.mk' (kindOf st) (arrOf st) (pendingOf st) g (failedOf st)
theorem zln {a b : Array Keyed} {i j : Nat} {p q : Keyed} (hB : b.toList.Pairwise kle) (hq : b[j]? = some q) (h : kle p q) : ∀ y ∈ b.toList.drop j, kle p y := by
 intro y hy
 obtain ⟨h1, h2⟩ := Array.getElem?_eq_some_iff.mp hq
 have hi : j < b.toList.length := by rw [Array.length_toList]; exact h1
 have e : b.toList[j] = q := by rw [← h2]; exact Array.getElem_toList h1
 have hd := hB.sublist (List.drop_sublist j b.toList)
 rw [List.drop_eq_getElem_cons hi, e] at hy hd
 rcases List.mem_cons.mp hy with z | z
 ·rw [z]; exact h
 ·exact zjz h ((List.pairwise_cons.mp hd).1 y z)
theorem zqh {a : Array Keyed} (hA : a.toList.Pairwise kle) {i j : Nat} (hij : i ≤ j) (hj : j < a.size) : K a i ≤ K a j := by
 have hi : i < a.size := by omega
 rw [zdd (Array.getElem?_eq_getElem hi), zdd (Array.getElem?_eq_getElem hj)]
 by_cases e : i = j
 ·subst e; exact Int.le_refl _
 ·have := List.pairwise_iff_getElem.mp hA i j (by rw [Array.length_toList]; exact hi) (by rw [Array.length_toList]; exact hj) (by omega)
  rw [Array.getElem_toList, Array.getElem_toList] at this
  exact this
theorem zfm {a : Array Keyed} {i : Nat} {x : Keyed} (h : x ∈ a.toList.drop i) : ∃ j, i ≤ j ∧ j < a.size ∧ a[j]? = some x := by
 obtain ⟨j, hj, e⟩ := List.mem_iff_getElem.mp h
 rw [List.length_drop, Array.length_toList] at hj
 rw [List.getElem_drop, Array.getElem_toList] at e
 exact ⟨i + j, by omega, by omega, by rw [Array.getElem?_eq_getElem (by omega), e]⟩
theorem zed {a : Array Keyed} {i k : Nat} {x : Keyed} (h : x ∈ (a.toList.drop i).take k) : ∃ j, j < k ∧ i + j < a.size ∧ a[i + j]? = some x := by
 obtain ⟨j, hj, e⟩ := List.mem_iff_getElem.mp h
 rw [List.length_take, List.length_drop, Array.length_toList] at hj
 rw [List.getElem_take, List.getElem_drop, Array.getElem_toList] at e
 exact ⟨j, by omega, by omega, by rw [Array.getElem?_eq_getElem (by omega), e]⟩
theorem zic {q : Keyed} {a : Array Keyed} {i j : Nat} {x : Keyed} (h : gp false q a i j = true) (hx : a[i + j]? = some x) : kle x q := by
 unfold gp at h; rw [zdd hx] at h
 simp at h; exact h
theorem zhf {q : Keyed} {a : Array Keyed} {i j : Nat} {x : Keyed} (h : gp false q a i j = false) (hx : a[i + j]? = some x) : kle q x := by
 unfold gp at h; rw [zdd hx] at h
 simp at h; exact Int.le_of_lt h
theorem zk9 {q : Keyed} {a : Array Keyed} {i j : Nat} {x : Keyed} (h : gp true q a i j = true) (hx : a[i + j]? = some x) : kle x q := by
 unfold gp at h; rw [zdd hx] at h
 simp at h; exact Int.le_of_lt h
theorem zi9 {q : Keyed} {a : Array Keyed} {i j : Nat} {x : Keyed} (h : gp true q a i j = false) (hx : a[i + j]? = some x) : kle q x := by
 unfold gp at h; rw [zdd hx] at h
 simp at h; exact h
structure MV (a b out : Array Keyed) (ia ib : Nat) : Prop where
 m : MI a.toList b.toList out.toList ia ib
 ha : ia + 2 ≤ a.size
 hb : ib < b.size
theorem zl9 {st : SortSt} {a b : Array Keyed} {Q : Array Keyed → SortSt → Prop} (hk : kindOf st = oneType') (iA : ∀ x ∈ a.toList, zgb x) (iB : ∀ x ∈ b.toList, zgb x)
  (hA : a.toList.Pairwise kle) (hB : b.toList.Pairwise kle) (na : 0 < a.size) (nb : 0 < b.size)
  (hb0 : ∀ x ∈ b.toList.take 1, ∀ y ∈ a.toList, kle x y) (hla : ∀ x ∈ b.toList, ∀ y ∈ a.toList.drop (a.size - 1), kle x y)
  (h : ∀ r g, SP a.toList b.toList r.toList → Q r (zes st g)) :
  wpS (model prog w) A E s (zqj a b) Q st := by
 refine wpS_bind (wpS_lift (wpAny_rule ⟨rfl, ?_⟩))
 refine wpS_bind (zba (Array.getElem?_eq_getElem nb) ?_)
 have m0 : MI a.toList b.toList (#[b[0]] : Array Keyed).toList 0 1 := by
  have z : MI b.toList a.toList (#[] : Array Keyed).toList 0 0 := ⟨List.Perm.refl _, List.Pairwise.nil, nofun, nofun⟩
  exact (z.one hB (Array.getElem?_eq_getElem nb) (fun y hy => hb0 _ (by have := zeu (Array.getElem?_eq_getElem nb); rw [List.drop_zero] at this; rw [this]; exact List.mem_singleton.mpr rfl) y hy)).swap
 have pA : ∀ {i}, i < a.size → ∃ p, a[i]? = some p ∧ zgb p := fun hi => ⟨_, Array.getElem?_eq_getElem hi, iA _ (Array.getElem_mem_toList hi)⟩
 have pB : ∀ {i}, i < b.size → ∃ p, b[i]? = some p ∧ zgb p := fun hi => ⟨_, Array.getElem?_eq_getElem hi, iB _ (Array.getElem_mem_toList hi)⟩
 refine zap (fun c1 => wpS_pure (h _ (gallopOf st) (m0.doneA hA (Nat.le_of_eq (beq_iff_eq.mp c1).symm)))) (fun c1 => ?_)
 refine zap (fun c2 => wpS_pure (h _ (gallopOf st) (m0.lastE hA hB (beq_iff_eq.mp c2) hla))) (fun c2 => ?_)
 replace c1 : 1 ≠ b.size := fun z => c1 (beq_iff_eq.mpr z)
 replace c2 : 0 + 1 ≠ a.size := fun z => c2 (beq_iff_eq.mpr z)
 refine wpS_bind (wpS_get ?_)
 refine wpS_bind (wpS_mono (wpS_forRange
  (I := fun x c st' => (∃ g, zes st g = st') ∧ ∃ out ia ib mg, c = (none, out, ia, ib, mg) ∧ MV a b out ia ib ∧ x + 1 ≤ ia + ib)
  (Q := fun c st' => (∃ g, zes st g = st') ∧ ∃ r rest, c = (some r, rest) ∧ SP a.toList b.toList r.toList)
  ?_ ?_ ⟨⟨gallopOf st, rfl⟩, _, 0, 1, _, rfl, ⟨m0, by omega, by omega⟩, by omega⟩) ?_)
 ·rintro x0 c st' _ hx0 ⟨⟨g, rfl⟩, out, ia, ib, mg, rfl, v, hx⟩
  refine wpS_bind (wpS_mono (wpS_forRange
   (I := fun x c st' => zes st g = st' ∧ ∃ out ia ib ac bc, c = (none, out, ia, ib, ac, bc) ∧ MV a b out ia ib ∧ x0 + 1 + x ≤ ia + ib)
   (Q := fun c st' => zes st g = st' ∧ ((∃ r rest, c = (some r, rest) ∧ SP a.toList b.toList r.toList) ∨ ∃ out ia ib ac bc, c = (none, out, ia, ib, ac, bc) ∧ MV a b out ia ib ∧ x0 + 2 ≤ ia + ib))
   ?_ ?_ ⟨rfl, out, ia, ib, 0, 0, rfl, v, by omega⟩) ?_)
  ·rintro x c st' _ hx1 ⟨rfl, out, ia, ib, ac, bc, rfl, v, hx⟩
   obtain ⟨p, hp, ip⟩ := pA (show ia < a.size by have := v.ha; omega)
   obtain ⟨q, hq, iq⟩ := pB v.hb
   refine wpS_bind (zba hq (wpS_bind (zba hp (wpS_bind (zh5 hk iq ip ?_)))))
   dsimp only
   have va := v.ha
   have vb := v.hb
   refine zap (fun c3 => ?_) (fun c3 => ?_)
   ·have c3' : kle q p := Int.le_of_lt (of_decide_eq_true c3)
    have m2 := (v.m.swap.one hB hq (zln (a := b) (i := ib) hA hp c3')).swap
    refine wpS_bind (zba hq ?_)
    refine zap (fun c4 => wpS_pure ⟨rfl, .inl ⟨_, _, rfl, m2.doneA hA (Nat.le_of_eq (beq_iff_eq.mp c4).symm)⟩⟩) (fun c4 => ?_)
    have c4' : ib + 1 ≠ b.size := fun z => c4 (beq_iff_eq.mpr z)
    exact zap (fun c5 => wpS_pure ⟨rfl, .inr ⟨_, _, _, _, _, rfl, ⟨m2, va, by omega⟩, by omega⟩⟩) (fun c5 => wpS_pure ⟨rfl, _, _, _, _, _, rfl, ⟨m2, va, by omega⟩, by omega⟩)
   ·have c3' : kle p q := Int.not_lt.mp (fun z => c3 (decide_eq_true z))
    have m2 := v.m.one hA hp (zln (a := a) (i := ia) hB hq c3')
    refine wpS_bind (zba hp ?_)
    refine zap (fun c4 => wpS_pure ⟨rfl, .inl ⟨_, _, rfl, m2.lastE hA hB (beq_iff_eq.mp c4) hla⟩⟩) (fun c4 => ?_)
    have c4' : ia + 1 + 1 ≠ a.size := fun z => c4 (beq_iff_eq.mpr z)
    exact zap (fun c5 => wpS_pure ⟨rfl, .inr ⟨_, _, _, _, _, rfl, ⟨m2, by omega, vb⟩, by omega⟩⟩) (fun c5 => wpS_pure ⟨rfl, _, _, _, _, _, rfl, ⟨m2, by omega, vb⟩, by omega⟩)
  ·rintro c st' ⟨rfl, out, ia, ib, ac, bc, rfl, v, hx⟩
   have va := v.ha
   have vb := v.hb
   omega
  ·rintro c st' ⟨rfl, ⟨r, rest, rfl, hr⟩ | ⟨out, ia, ib, ac, bc, rfl, v, hx⟩⟩
   ·exact wpS_pure ⟨⟨g, rfl⟩, r, _, rfl, hr⟩
   refine wpS_bind (wpS_lift (wpAny_rule ⟨rfl, ?_⟩))
   refine wpS_bind (wpS_mono (wpS_forRange
    (I := fun x c st' => (∃ g, zes st g = st') ∧ ∃ out ia ib mg ac bc, c = (none, out, ia, ib, mg, ac, bc) ∧ MV a b out ia ib ∧ x0 + 2 + x ≤ ia + ib)
    (Q := fun c st' => (∃ g, zes st g = st') ∧ ((∃ r rest, c = (some r, rest) ∧ SP a.toList b.toList r.toList) ∨ ∃ out ia ib mg ac bc, c = (none, out, ia, ib, mg, ac, bc) ∧ MV a b out ia ib ∧ x0 + 2 ≤ ia + ib))
    ?_ ?_ ⟨⟨g, rfl⟩, out, ia, ib, _, ac, bc, rfl, v, by omega⟩) ?_)
   ·rintro x c st' _ hx1 ⟨⟨g, rfl⟩, out, ia, ib, mg, ac, bc, rfl, v, hx⟩
    have va := v.ha
    have vb := v.hb
    obtain ⟨q, hq, iq⟩ := pB vb
    dsimp (config := { zeta := false, zetaHave := false, zetaUnused := false }) only
    extract_lets _ _ _ _ _ _ _ _ _ _ _ _ jp
    suffices hj : ∀ mg', wpS (model prog w) A E s (jp () mg') _ (zes st g) from zap (fun _ => hj _) (fun _ => hj _)
    intro mg'
    refine wpS_bind (wpS_modify ?_)
    refine wpS_bind (zba hq ?_)
    refine wpS_bind (zdr (left := false) (arr := a) (base := ia) (n := a.size - ia) (hint := 0) hk iq (fun i hi => pA (i := ia + i) (by omega)) (fun i j hij hj => zqh hA (by omega) (by omega)) (by omega) fun k k1 k2 k3 => ?_)
    have le1 : ∀ x ∈ (a.toList.drop ia).take k, ∀ y ∈ b.toList.drop ib, kle x y := fun x hx y hy => by
     obtain ⟨j, h1, h2, h3⟩ := zed hx
     exact zln (a := a) (i := 0) hB hq (zic (k2 j h1) h3) y hy
    have le2 : ∀ y ∈ a.toList.drop (ia + k), kle q y := fun y hy => by
     obtain ⟨j, h1, h2, h3⟩ := zfm hy
     exact zhf (k3 (j - ia) (by omega) (by omega)) (by rw [show ia + (j - ia) = j by omega]; exact h3)
    dsimp (config := { zeta := false, zetaHave := false, zetaUnused := false }) only
    extract_lets _ jp2
    suffices hj2 : ∀ (o2 : Array Keyed) (i2 : Nat), MI a.toList b.toList o2.toList i2 ib → i2 + 2 ≤ a.size → ia ≤ i2 → (∀ y ∈ a.toList.drop i2, kle q y) → wpS (model prog w) A E s (jp2 () o2 i2) _ (zes st mg') by
     refine zap (fun c3 => ?_) (fun c3 => hj2 out ia v.m va (Nat.le_refl _) (by rw [show ia = ia + k by omega]; exact le2))
     have m2 := v.m.blk hA le1
     refine zap (fun c4 => wpS_pure ⟨⟨mg', rfl⟩, .inl ⟨_, _, rfl, m2.lastE hA hB (beq_iff_eq.mp c4) hla⟩⟩) (fun c4 => ?_)
     refine zap (fun c5 => wpS_pure ⟨⟨mg', rfl⟩, .inl ⟨_, _, rfl, m2.doneB hB (Nat.le_of_eq (beq_iff_eq.mp c5).symm)⟩⟩) (fun c5 => ?_)
     have c4' : ia + k + 1 ≠ a.size := fun z => c4 (beq_iff_eq.mpr z)
     have c5' : ia + k ≠ a.size := fun z => c5 (beq_iff_eq.mpr z)
     exact hj2 _ (ia + k) m2 (by omega) (by omega) le2
    intro o2 i2 m2 hi2 hle qle
    obtain ⟨p, hp, ip⟩ := pA (show i2 < a.size by omega)
    refine wpS_bind (zba hq ?_)
    have m3 := (m2.swap.one hB hq qle).swap
    refine zap (fun c4 => wpS_pure ⟨⟨mg', rfl⟩, .inl ⟨_, _, rfl, m3.doneA hA (Nat.le_of_eq (beq_iff_eq.mp c4).symm)⟩⟩) (fun c4 => ?_)
    have c4' : ib + 1 ≠ b.size := fun z => c4 (beq_iff_eq.mpr z)
    refine wpS_bind (zba hp ?_)
    refine wpS_bind (zdr (left := true) (arr := b) (base := ib + 1) (n := b.size - (ib + 1)) (hint := 0) hk ip (fun i hi => pB (i := ib + 1 + i) (by omega)) (fun i j hij hj => zqh hB (by omega) (by omega)) (by omega) fun k' l1 l2 l3 => ?_)
    have le3 : ∀ x ∈ (b.toList.drop (ib + 1)).take k', ∀ y ∈ a.toList.drop i2, kle x y := fun x hx y hy => by
     obtain ⟨j, h1, h2, h3⟩ := zed hx
     exact zln (a := a) (i := 0) hA hp (zk9 (l2 j h1) h3) y hy
    have le4 : ∀ y ∈ b.toList.drop (ib + 1 + k'), kle p y := fun y hy => by
     obtain ⟨j, h1, h2, h3⟩ := zfm hy
     exact zi9 (l3 (j - (ib + 1)) (by omega) (by omega)) (by rw [show ib + 1 + (j - (ib + 1)) = j by omega]; exact h3)
    dsimp (config := { zeta := false, zetaHave := false, zetaUnused := false }) only
    extract_lets _ _ jp3
    suffices hj3 : ∀ (o3 : Array Keyed) (i3 : Nat), MI a.toList b.toList o3.toList i2 i3 → i3 < b.size → ib + 1 ≤ i3 → (∀ y ∈ b.toList.drop i3, kle p y) → wpS (model prog w) A E s (jp3 () o3 i3) _ (zes st mg') by
     refine zap (fun c3 => ?_) (fun c3 => hj3 _ (ib + 1) m3 (by omega) (Nat.le_refl _) (by rw [show ib + 1 = ib + 1 + k' by omega]; exact le4))
     have m4 := (m3.swap.blk hB le3).swap
     refine zap (fun c5 => wpS_pure ⟨⟨mg', rfl⟩, .inl ⟨_, _, rfl, m4.doneA hA (Nat.le_of_eq (beq_iff_eq.mp c5).symm)⟩⟩) (fun c5 => ?_)
     have c5' : ib + 1 + k' ≠ b.size := fun z => c5 (beq_iff_eq.mpr z)
     exact hj3 _ (ib + 1 + k') m4 (by omega) (by omega) le4
    intro o3 i3 m4 hi3 hle3 ple
    refine wpS_bind (zba hp ?_)
    have m5 := m4.one hA hp ple
    refine zap (fun c5 => wpS_pure ⟨⟨mg', rfl⟩, .inl ⟨_, _, rfl, m5.lastE hA hB (beq_iff_eq.mp c5) hla⟩⟩) (fun c5 => ?_)
    have c5' : i2 + 1 + 1 ≠ a.size := fun z => c5 (beq_iff_eq.mpr z)
    exact zap (fun c6 => wpS_pure ⟨⟨mg', rfl⟩, .inr ⟨_, _, _, _, _, _, rfl, ⟨m5, by omega, hi3⟩, by omega⟩⟩) (fun c6 => wpS_pure ⟨⟨mg', rfl⟩, _, _, _, _, _, _, rfl, ⟨m5, by omega, hi3⟩, by omega⟩)
   ·rintro c st' ⟨⟨g, rfl⟩, out, ia, ib, mg, ac, bc, rfl, v, hx⟩
    have va := v.ha
    have vb := v.hb
    omega
   ·rintro c st' ⟨⟨g, rfl⟩, ⟨r, rest, rfl, hr⟩ | ⟨out, ia, ib, mg, ac, bc, rfl, v, hx⟩⟩
    ·exact wpS_pure ⟨⟨g, rfl⟩, r, _, rfl, hr⟩
    ·exact wpS_bind (wpS_modify (wpS_pure ⟨⟨_, rfl⟩, _, _, _, _, rfl, v, by omega⟩))
 ·rintro c st' ⟨⟨g, rfl⟩, out, ia, ib, mg, rfl, v, hx⟩
  have va := v.ha
  have vb := v.hb
  omega
 ·rintro c st' ⟨⟨g, rfl⟩, r, rest, rfl, hr⟩
  exact wpS_pure (h r g hr)
end
end Srt
set_option maxHeartbeats 4000000
namespace Srt
open PySem PyProof PyProof.Rows
structure MH (A B out : List Keyed) (na nb : Nat) : Prop where
 perm : out.Perm (A.drop na ++ B.drop nb)
 srt : out.Pairwise fun x y => kle y x
 la : ∀ x ∈ out, ∀ y ∈ A.take na, kle y x
 lb : ∀ x ∈ out, ∀ y ∈ B.take nb, kle y x
theorem MH.swap {A B out : List Keyed} {na nb : Nat} (m : MH A B out na nb) : MH B A out nb na :=
 ⟨m.perm.trans List.perm_append_comm, m.srt, m.lb, m.la⟩
theorem MH.more {A B out : List Keyed} {na nb : Nat} (hA : A.Pairwise kle) (m : MH A B out na nb) {k : Nat} (hk : k ≤ na) (hn : na ≤ A.length) (hx : ∀ x ∈ (A.take na).drop k, ∀ y ∈ B.take nb, kle y x) :
    MH A B (out ++ ((A.take na).drop k).reverse) k nb := by
  have hd : (A.take na).Pairwise kle := hA.sublist (List.take_sublist _ _)
  have hs : ((A.take na).take k ++ (A.take na).drop k).Pairwise kle := by rw [List.take_append_drop]; exact hd
  obtain ⟨p1, p2, p3⟩ := List.pairwise_append.mp hs
  rw [List.take_take, Nat.min_eq_left hk] at p3
  have ed : A.drop k = (A.take na).drop k ++ A.drop na := by
    conv => lhs; rw [← List.take_append_drop na A]
    rw [List.drop_append_of_le_length (by rw [List.length_take]; omega)]
  refine ⟨?_, List.pairwise_append.mpr ⟨m.srt, List.pairwise_reverse.mpr p2, fun x h y g => m.la x h y (List.mem_of_mem_drop (List.mem_reverse.mp g))⟩, fun x h y g => ?_, fun x h y g => ?_⟩
  · rw [ed]
    refine (List.Perm.append m.perm (List.reverse_perm _)).trans ?_
    refine List.perm_append_comm.trans ?_
    rw [List.append_assoc]
  · rcases List.mem_append.mp h with z | z
    · exact m.la x z y (by have : A.take k = (A.take na).take k := by rw [List.take_take, Nat.min_eq_left hk]
                           rw [this] at g; exact List.mem_of_mem_take g)
    · exact p3 y g x (List.mem_reverse.mp z)
  · rcases List.mem_append.mp h with z | z
    · exact m.lb x z y g
    · exact hx x (List.mem_reverse.mp z) y g
theorem MH.fin {A B out : List Keyed} (m : MH A B out 0 0) : SP A B out.reverse :=
 ⟨(List.reverse_perm _).trans m.perm, List.pairwise_reverse.mpr m.srt⟩
theorem MH.allA {A B out : List Keyed} {na : Nat} (hA : A.Pairwise kle) (m : MH A B out na 0) (hn : na ≤ A.length) : SP A B (A.take na ++ out.reverse) := by
 have h := (m.more hA (Nat.zero_le _) hn (fun x _ y g => by rw [List.take_zero] at g; cases g)).fin
 rwa [List.drop_zero, List.reverse_append, List.reverse_reverse] at h
theorem MH.allB {A B out : List Keyed} {nb : Nat} (hB : B.Pairwise kle) (m : MH A B out 0 nb) (hn : nb ≤ B.length) : SP A B (B.take nb ++ out.reverse) := by
 have h := m.swap.allA hB hn
 exact ⟨h.1.trans List.perm_append_comm, h.2⟩
theorem MH.first {A B out : List Keyed} {na nb : Nat} (hA : A.Pairwise kle) (hB : B.Pairwise kle) (m : MH A B out na nb) (ha : na ≤ A.length) (hb : nb ≤ B.length) (hx : ∀ x ∈ B.take nb, ∀ y ∈ A.take na, kle x y) :
  SP A B (B.take nb ++ A.take na ++ out.reverse) := by
 have h := (m.more hA (Nat.zero_le _) ha (fun x g y g2 => hx y g2 x (by rwa [List.drop_zero] at g))).allB hB hb
 rwa [List.drop_zero, List.reverse_append, List.reverse_reverse, ← List.append_assoc] at h
theorem zoy {a : Array Keyed} {k : Nat} : (a.extract 0 k).toList = a.toList.take k := by
 rw [Array.toList_extract, List.extract_eq_drop_take, List.drop_zero, Nat.sub_zero]
theorem zkx {a : Array Keyed} {i k : Nat} : (a.extract i k).toList = (a.toList.take k).drop i := by
 rw [Array.toList_extract, List.extract_eq_drop_take, List.drop_take]
theorem zj8 {a : Array Keyed} {n : Nat} {p : Keyed} (h : a[n - 1]? = some p) (hn : 0 < n) (hs : n ≤ a.size) : (a.toList.take n).drop (n - 1) = [p] := by
 have := zeu h
 rw [List.drop_take, show n - (n - 1) = 1 by omega]
 exact this
theorem MH.one {a b out : Array Keyed} {na nb : Nat} {p : Keyed} (hA : a.toList.Pairwise kle) (m : MH a.toList b.toList out.toList na nb) (hp : a[na - 1]? = some p) (hn : 0 < na) (hs : na ≤ a.size) (hx : ∀ y ∈ b.toList.take nb, kle y p) :
  MH a.toList b.toList (out.push p).toList (na - 1) nb := by
 have := m.more hA (k := na - 1) (by omega) (by rw [Array.length_toList]; exact hs) (by rw [zj8 hp hn hs]; intro x hx' y hy; rw [List.mem_singleton.mp hx']; exact hx y hy)
 rw [zj8 hp hn hs] at this
 rwa [Array.toList_push]
theorem MH.blk {a b out : Array Keyed} {na nb k : Nat} (hA : a.toList.Pairwise kle) (m : MH a.toList b.toList out.toList na nb) (hk : k ≤ na) (hs : na ≤ a.size) (hx : ∀ x ∈ (a.toList.take na).drop k, ∀ y ∈ b.toList.take nb, kle y x) :
  MH a.toList b.toList (out ++ (a.extract k na).reverse).toList k nb := by
 rw [Array.toList_append, Array.toList_reverse, zkx]
 exact m.more hA hk (by rw [Array.length_toList]; exact hs) hx
theorem MH.done0 {a b out : Array Keyed} {na nb : Nat} (hA : a.toList.Pairwise kle) (m : MH a.toList b.toList out.toList na nb) (e : nb = 0) (hs : na ≤ a.size) :
  SP a.toList b.toList (a.extract 0 na ++ b.extract 0 nb ++ out.reverse).toList := by
 subst e
 rw [Array.toList_append, Array.toList_append, Array.toList_reverse, zoy, zoy, List.take_zero, List.append_nil]
 exact m.allA hA (by rw [Array.length_toList]; exact hs)
theorem MH.doneZ {a b out : Array Keyed} {na nb : Nat} (hB : b.toList.Pairwise kle) (m : MH a.toList b.toList out.toList na nb) (e : na = 0) (hs : nb ≤ b.size) :
  SP a.toList b.toList (a.extract 0 na ++ b.extract 0 nb ++ out.reverse).toList := by
 subst e
 rw [Array.toList_append, Array.toList_append, Array.toList_reverse, zoy, zoy, List.take_zero, List.nil_append]
 exact m.allB hB (by rw [Array.length_toList]; exact hs)
theorem MH.firstB {a b out : Array Keyed} {na nb : Nat} (hA : a.toList.Pairwise kle) (hB : b.toList.Pairwise kle) (m : MH a.toList b.toList out.toList na nb) (e : nb = 1) (ha : na ≤ a.size) (hb : 0 < b.size)
  (hx : ∀ x ∈ b.toList.take 1, ∀ y ∈ a.toList, kle x y) : SP a.toList b.toList (b.extract 0 nb ++ a.extract 0 na ++ out.reverse).toList := by
 subst e
 rw [Array.toList_append, Array.toList_append, Array.toList_reverse, zoy, zoy]
 exact m.first hA hB (by rw [Array.length_toList]; exact ha) (by rw [Array.length_toList]; exact hb) fun x h y g => hx x h y (List.mem_of_mem_take g)
theorem zfc {a : Array Keyed} {n : Nat} {x : Keyed} (h : x ∈ a.toList.take n) : ∃ j, j < n ∧ j < a.size ∧ a[j]? = some x := by
 obtain ⟨j, h1, h2, h3⟩ := zed (i := 0) (k := n) (by rw [List.drop_zero]; exact h)
 rw [Nat.zero_add] at h2 h3
 exact ⟨j, h1, h2, h3⟩
theorem ze9 {a : Array Keyed} {n k : Nat} {x : Keyed} (h : x ∈ (a.toList.take n).drop k) : ∃ j, k ≤ j ∧ j < n ∧ j < a.size ∧ a[j]? = some x := by
 rw [List.drop_take] at h
 obtain ⟨j, h1, h2, h3⟩ := zed h
 exact ⟨k + j, by omega, by omega, h2, h3⟩
theorem zk6 {b : Array Keyed} {n : Nat} {p q : Keyed} (hB : b.toList.Pairwise kle) (hq : b[n - 1]? = some q) (h : kle q p) (hn : n ≤ b.size) (h0 : 0 < n) : ∀ y ∈ b.toList.take n, kle y p := by
 intro y hy
 obtain ⟨j, h1, h2, h3⟩ := zfc hy
 have := zqh hB (i := j) (j := n - 1) (by omega) (by omega)
 rw [zdd h3, zdd hq] at this
 exact zjz this h
structure MW (a b out : Array Keyed) (na nb : Nat) : Prop where
 m : MH a.toList b.toList out.toList na nb
 a1 : 1 ≤ na
 a2 : na ≤ a.size
 b1 : 2 ≤ nb
 b2 : nb ≤ b.size
section
variable {prog : Program} {w : World} {A : Around} {E : Value → Shared → Prop} {s : Shared}
theorem zl2 {st : SortSt} {a b : Array Keyed} {Q : Array Keyed → SortSt → Prop} (hk : kindOf st = oneType') (iA : ∀ x ∈ a.toList, zgb x) (iB : ∀ x ∈ b.toList, zgb x)
  (hA : a.toList.Pairwise kle) (hB : b.toList.Pairwise kle) (na0 : 0 < a.size) (nb0 : 0 < b.size)
  (hb0 : ∀ x ∈ b.toList.take 1, ∀ y ∈ a.toList, kle x y) (hla : ∀ x ∈ b.toList, ∀ y ∈ a.toList.drop (a.size - 1), kle x y)
  (h : ∀ r g, SP a.toList b.toList r.toList → Q r (zes st g)) :
  wpS (model prog w) A E s (zq5 a b) Q st := by
 have pA : ∀ {i}, i < a.size → ∃ p, a[i]? = some p ∧ zgb p := fun hi => ⟨_, Array.getElem?_eq_getElem hi, iA _ (Array.getElem_mem_toList hi)⟩
 have pB : ∀ {i}, i < b.size → ∃ p, b[i]? = some p ∧ zgb p := fun hi => ⟨_, Array.getElem?_eq_getElem hi, iB _ (Array.getElem_mem_toList hi)⟩
 obtain ⟨z, hz, iz⟩ := pA (show a.size - 1 < a.size by omega)
 refine wpS_bind (wpS_lift (wpAny_rule ⟨rfl, ?_⟩))
 refine wpS_bind (zba hz ?_)
 have m0 : MH a.toList b.toList (#[z] : Array Keyed).toList (a.size - 1) b.size := by
  have e : MH a.toList b.toList (#[] : Array Keyed).toList a.size b.size := ⟨by rw [List.drop_of_length_le (Nat.le_of_eq Array.length_toList), List.drop_of_length_le (Nat.le_of_eq Array.length_toList)]; exact List.Perm.refl _, List.Pairwise.nil, nofun, nofun⟩
  exact e.one hA hz na0 (Nat.le_refl _) fun y hy => hla y (List.mem_of_mem_take hy) z (List.mem_of_mem_take (i := 1) (by rw [zeu hz]; exact List.mem_singleton.mpr rfl))
 refine zap (fun c1 => wpS_pure (h _ (gallopOf st) (m0.doneZ hB (beq_iff_eq.mp c1) (Nat.le_refl _)))) (fun c1 => ?_)
 refine zap (fun c2 => wpS_pure (h _ (gallopOf st) (m0.firstB hA hB (beq_iff_eq.mp c2) (by omega) nb0 hb0))) (fun c2 => ?_)
 replace c1 : a.size - 1 ≠ 0 := fun z => c1 (beq_iff_eq.mpr z)
 replace c2 : b.size ≠ 1 := fun z => c2 (beq_iff_eq.mpr z)
 refine wpS_bind (wpS_get ?_)
 refine wpS_bind (wpS_mono (wpS_forRange
  (I := fun x c st' => (∃ g, zes st g = st') ∧ ∃ na nb out mg, c = (none, na, nb, out, mg) ∧ MW a b out na nb ∧ x + 1 + na + nb ≤ a.size + b.size)
  (Q := fun c st' => (∃ g, zes st g = st') ∧ ∃ r rest, c = (some r, rest) ∧ SP a.toList b.toList r.toList)
  ?_ ?_ ⟨⟨gallopOf st, rfl⟩, _, _, _, _, rfl, ⟨m0, by omega, by omega, by omega, by omega⟩, by omega⟩) ?_)
 ·rintro x0 c st' _ hx0 ⟨⟨g, rfl⟩, na, nb, out, mg, rfl, v, hx⟩
  refine wpS_bind (wpS_mono (wpS_forRange
   (I := fun x c st' => zes st g = st' ∧ ∃ na nb out ac bc, c = (none, na, nb, out, ac, bc) ∧ MW a b out na nb ∧ x0 + 1 + x + na + nb ≤ a.size + b.size)
   (Q := fun c st' => zes st g = st' ∧ ((∃ r rest, c = (some r, rest) ∧ SP a.toList b.toList r.toList) ∨ ∃ na nb out ac bc, c = (none, na, nb, out, ac, bc) ∧ MW a b out na nb ∧ x0 + 2 + na + nb ≤ a.size + b.size))
   ?_ ?_ ⟨rfl, na, nb, out, 0, 0, rfl, v, by omega⟩) ?_)
  ·rintro x c st' _ hx1 ⟨rfl, na, nb, out, ac, bc, rfl, v, hx⟩
   obtain ⟨vm, a1, a2, b1, b2⟩ := v
   obtain ⟨p, hp, ip⟩ := pA (show na - 1 < a.size by omega)
   obtain ⟨q, hq, iq⟩ := pB (show nb - 1 < b.size by omega)
   refine wpS_bind (zba hq (wpS_bind (zba hp (wpS_bind (zh5 hk iq ip ?_)))))
   dsimp only
   refine zap (fun c3 => ?_) (fun c3 => ?_)
   ·have c3' : kle q p := Int.le_of_lt (of_decide_eq_true c3)
    have m2 := vm.one hA hp a1 a2 (zk6 hB hq c3' b2 (by omega))
    refine wpS_bind (zba hp ?_)
    refine zap (fun c4 => wpS_pure ⟨rfl, .inl ⟨_, _, rfl, m2.doneZ hB (beq_iff_eq.mp c4) b2⟩⟩) (fun c4 => ?_)
    have c4' : na - 1 ≠ 0 := fun z => c4 (beq_iff_eq.mpr z)
    exact zap (fun c5 => wpS_pure ⟨rfl, .inr ⟨_, _, _, _, _, rfl, ⟨m2, by omega, by omega, b1, b2⟩, by omega⟩⟩) (fun c5 => wpS_pure ⟨rfl, _, _, _, _, _, rfl, ⟨m2, by omega, by omega, b1, b2⟩, by omega⟩)
   ·have c3' : kle p q := Int.not_lt.mp (fun z => c3 (decide_eq_true z))
    have m2 := (vm.swap.one hB hq (by omega) b2 (zk6 hA hp c3' a2 a1)).swap
    refine wpS_bind (zba hq ?_)
    refine zap (fun c4 => wpS_pure ⟨rfl, .inl ⟨_, _, rfl, m2.firstB hA hB (beq_iff_eq.mp c4) a2 nb0 hb0⟩⟩) (fun c4 => ?_)
    have c4' : nb - 1 ≠ 1 := fun z => c4 (beq_iff_eq.mpr z)
    exact zap (fun c5 => wpS_pure ⟨rfl, .inr ⟨_, _, _, _, _, rfl, ⟨m2, a1, a2, by omega, by omega⟩, by omega⟩⟩) (fun c5 => wpS_pure ⟨rfl, _, _, _, _, _, rfl, ⟨m2, a1, a2, by omega, by omega⟩, by omega⟩)
  ·rintro c st' ⟨rfl, na, nb, out, ac, bc, rfl, ⟨vm, a1, a2, b1, b2⟩, hx⟩
   omega
  ·rintro c st' ⟨rfl, ⟨r, rest, rfl, hr⟩ | ⟨na, nb, out, ac, bc, rfl, v, hx⟩⟩
   ·exact wpS_pure ⟨⟨g, rfl⟩, r, _, rfl, hr⟩
   refine wpS_bind (wpS_lift (wpAny_rule ⟨rfl, ?_⟩))
   refine wpS_bind (wpS_mono (wpS_forRange
    (I := fun x c st' => (∃ g, zes st g = st') ∧ ∃ na nb out mg ac bc, c = (none, na, nb, out, mg, ac, bc) ∧ MW a b out na nb ∧ x0 + 2 + x + na + nb ≤ a.size + b.size)
    (Q := fun c st' => (∃ g, zes st g = st') ∧ ((∃ r rest, c = (some r, rest) ∧ SP a.toList b.toList r.toList) ∨ ∃ na nb out mg ac bc, c = (none, na, nb, out, mg, ac, bc) ∧ MW a b out na nb ∧ x0 + 2 + na + nb ≤ a.size + b.size))
    ?_ ?_ ⟨⟨g, rfl⟩, na, nb, out, _, ac, bc, rfl, v, by omega⟩) ?_)
   ·rintro x c st' _ hx1 ⟨⟨g, rfl⟩, na, nb, out, mg, ac, bc, rfl, ⟨vm, a1, a2, b1, b2⟩, hx⟩
    obtain ⟨q, hq, iq⟩ := pB (show nb - 1 < b.size by omega)
    dsimp (config := { zeta := false, zetaHave := false, zetaUnused := false }) only
    extract_lets _ _ _ _ _ _ _ _ _ _ _ _ jp
    suffices hj : ∀ mg', wpS (model prog w) A E s (jp () mg') _ (zes st g) from zap (fun _ => hj _) (fun _ => hj _)
    intro mg'
    refine wpS_bind (wpS_modify ?_)
    refine wpS_bind (zba hq ?_)
    refine wpS_bind (zdr (left := false) (arr := a) (base := 0) (n := na) (hint := na - 1) hk iq (fun i hi => by rw [Nat.zero_add]; exact pA (i := i) (by omega)) (fun i j hij hj => by rw [Nat.zero_add, Nat.zero_add]; exact zqh hA hij (by omega)) (by omega) fun k k1 k2 k3 => ?_)
    have le1 : ∀ x ∈ (a.toList.take na).drop k, ∀ y ∈ b.toList.take nb, kle y x := fun x hx y hy => by
     obtain ⟨j, h1, h2, h3, h4⟩ := ze9 hx
     exact zk6 hB hq (zhf (k3 j h1 h2) (by rw [Nat.zero_add]; exact h4)) b2 (by omega) y hy
    have le2 : ∀ y ∈ a.toList.take k, kle y q := fun y hy => by
     obtain ⟨j, h1, h2, h3⟩ := zfc hy
     exact zic (k2 j h1) (by rw [Nat.zero_add]; exact h3)
    dsimp (config := { zeta := false, zetaHave := false, zetaUnused := false }) only
    extract_lets _ _ jp2
    suffices hj2 : ∀ (n2 : Nat) (o2 : Array Keyed), MH a.toList b.toList o2.toList n2 nb → 1 ≤ n2 → n2 ≤ na → (∀ y ∈ a.toList.take n2, kle y q) → wpS (model prog w) A E s (jp2 () n2 o2) _ (zes st mg') by
     refine zap (fun c3 => ?_) (fun c3 => hj2 na out vm a1 (Nat.le_refl _) (by have c3' : ¬ (na - k > 0) := c3; rw [show na = k by omega]; exact le2))
     have m2 := vm.blk hA k1 a2 le1
     refine zap (fun c4 => wpS_pure ⟨⟨mg', rfl⟩, .inl ⟨_, _, rfl, m2.doneZ hB (beq_iff_eq.mp c4) b2⟩⟩) (fun c4 => ?_)
     have c4' : k ≠ 0 := fun z => c4 (beq_iff_eq.mpr z)
     exact hj2 k _ m2 (by omega) k1 le2
    intro n2 o2 m2 hn2 hle qle
    obtain ⟨p, hp, ip⟩ := pA (show n2 - 1 < a.size by omega)
    refine wpS_bind (zba hq ?_)
    have m3 := (m2.swap.one hB hq (by omega) b2 qle).swap
    refine zap (fun c4 => wpS_pure ⟨⟨mg', rfl⟩, .inl ⟨_, _, rfl, m3.firstB hA hB (beq_iff_eq.mp c4) (by omega) nb0 hb0⟩⟩) (fun c4 => ?_)
    have c4' : nb - 1 ≠ 1 := fun z => c4 (beq_iff_eq.mpr z)
    refine wpS_bind (zba hp ?_)
    refine wpS_bind (zdr (left := true) (arr := b) (base := 0) (n := nb - 1) (hint := nb - 1 - 1) hk ip (fun i hi => by rw [Nat.zero_add]; exact pB (i := i) (by omega)) (fun i j hij hj => by rw [Nat.zero_add, Nat.zero_add]; exact zqh hB hij (by omega)) (by omega) fun k' l1 l2 l3 => ?_)
    have le3 : ∀ x ∈ (b.toList.take (nb - 1)).drop k', ∀ y ∈ a.toList.take n2, kle y x := fun x hx y hy => by
     obtain ⟨j, h1, h2, h3, h4⟩ := ze9 hx
     exact zk6 hA hp (zi9 (l3 j h1 h2) (by rw [Nat.zero_add]; exact h4)) (by omega) hn2 y hy
    have le4 : ∀ y ∈ b.toList.take k', kle y p := fun y hy => by
     obtain ⟨j, h1, h2, h3⟩ := zfc hy
     exact zk9 (l2 j h1) (by rw [Nat.zero_add]; exact h3)
    dsimp (config := { zeta := false, zetaHave := false, zetaUnused := false }) only
    extract_lets _ _ _ jp3
    suffices hj3 : ∀ (n3 : Nat) (o3 : Array Keyed), MH a.toList b.toList o3.toList n2 n3 → 2 ≤ n3 → n3 ≤ nb - 1 → (∀ y ∈ b.toList.take n3, kle y p) → wpS (model prog w) A E s (jp3 () n3 o3) _ (zes st mg') by
     refine zap (fun c3 => ?_) (fun c3 => hj3 (nb - 1) _ m3 (by omega) (Nat.le_refl _) (by have c3' : ¬ (nb - 1 - k' > 0) := c3; rw [show nb - 1 = k' by omega]; exact le4))
     have m4 := (m3.swap.blk hB l1 (by omega) le3).swap
     refine zap (fun c5 => wpS_pure ⟨⟨mg', rfl⟩, .inl ⟨_, _, rfl, m4.firstB hA hB (beq_iff_eq.mp c5) (by omega) nb0 hb0⟩⟩) (fun c5 => ?_)
     refine zap (fun c6 => wpS_pure ⟨⟨mg', rfl⟩, .inl ⟨_, _, rfl, m4.done0 hA (beq_iff_eq.mp c6) (by omega)⟩⟩) (fun c6 => ?_)
     have c5' : k' ≠ 1 := fun z => c5 (beq_iff_eq.mpr z)
     have c6' : k' ≠ 0 := fun z => c6 (beq_iff_eq.mpr z)
     exact hj3 k' _ m4 (by omega) l1 le4
    intro n3 o3 m4 hn3 hle3 ple
    refine wpS_bind (zba hp ?_)
    have m5 := m4.one hA hp hn2 (by omega) ple
    refine zap (fun c5 => wpS_pure ⟨⟨mg', rfl⟩, .inl ⟨_, _, rfl, m5.doneZ hB (beq_iff_eq.mp c5) (by omega)⟩⟩) (fun c5 => ?_)
    have c5' : n2 - 1 ≠ 0 := fun z => c5 (beq_iff_eq.mpr z)
    exact zap (fun c6 => wpS_pure ⟨⟨mg', rfl⟩, .inr ⟨_, _, _, _, _, _, rfl, ⟨m5, by omega, by omega, hn3, by omega⟩, by omega⟩⟩) (fun c6 => wpS_pure ⟨⟨mg', rfl⟩, _, _, _, _, _, _, rfl, ⟨m5, by omega, by omega, hn3, by omega⟩, by omega⟩)
   ·rintro c st' ⟨⟨g, rfl⟩, na, nb, out, mg, ac, bc, rfl, ⟨vm, a1, a2, b1, b2⟩, hx⟩
    omega
   ·rintro c st' ⟨⟨g, rfl⟩, ⟨r, rest, rfl, hr⟩ | ⟨na, nb, out, mg, ac, bc, rfl, v, hx⟩⟩
    ·exact wpS_pure ⟨⟨g, rfl⟩, r, _, rfl, hr⟩
    ·exact wpS_bind (wpS_modify (wpS_pure ⟨⟨_, rfl⟩, _, _, _, _, rfl, v, by omega⟩))
 ·rintro c st' ⟨⟨g, rfl⟩, na, nb, out, mg, rfl, ⟨vm, a1, a2, b1, b2⟩, hx⟩
  omega
 ·rintro c st' ⟨⟨g, rfl⟩, r, rest, rfl, hr⟩
  exact wpS_pure (h r g hr)
end
end Srt
set_option maxHeartbeats 4000000
namespace Srt
open PySem PyProof PyProof.Rows
def AllI (xs : Array Keyed) : Prop := ∀ p ∈ xs.toList, zgb p
theorem AllI.perm {xs ys : Array Keyed} (h : AllI xs) (hp : ys.Perm xs) : AllI ys := fun p hm => h p ((Array.perm_iff_toList_perm.mp hp).mem_iff.mp hm)
def za8 (xs : Array Keyed) (i j : Nat) : Prop := ∀ p q, i ≤ p → p ≤ q → q < j → K xs p ≤ K xs q
def zfw (xs : Array Keyed) (at' n : Nat) (l : List Keyed) : Array Keyed := (l.zipIdx n).foldl (fun a (p : Keyed × Nat) => a.setIfInBounds (at' + p.2) p.1) xs
theorem zgp : ∀ (l : List Keyed) (xs : Array Keyed) (at' n : Nat), at' + n + l.length ≤ xs.size → ∀ k : Nat,
  (zfw xs at' n l)[k]? = if at' + n ≤ k ∧ k < at' + n + l.length then l[k - (at' + n)]? else xs[k]?
 | [], xs, at', n, _, k => by
  show xs[k]? = _
  rw [if_neg (by rw [List.length_nil]; omega)]
 | p :: l, xs, at', n, h, k => by
  rw [List.length_cons] at h ⊢
  show (zfw (xs.setIfInBounds (at' + n) p) at' (n + 1) l)[k]? = _
  rw [zgp l _ at' (n + 1) (by rw [Array.size_setIfInBounds]; omega) k]
  by_cases e : k = at' + n
  ·subst e
   rw [if_neg (by omega), if_pos (by omega), Nat.sub_self, List.getElem?_cons_zero, Array.getElem?_setIfInBounds_self_of_lt (by omega)]
  ·by_cases g : at' + n ≤ k ∧ k < at' + n + (l.length + 1)
   ·rw [if_pos g, if_pos (by omega), show k - (at' + n) = (k - (at' + (n + 1))) + 1 by omega, List.getElem?_cons_succ]
   ·rw [if_neg g, if_neg (by omega), Array.getElem?_setIfInBounds_ne (by omega)]
theorem zlw {xs : Array Keyed} {at' : Nat} {l : List Keyed} (h : at' + l.length ≤ xs.size) :
  (zfw xs at' 0 l).toList = xs.toList.take at' ++ (l ++ xs.toList.drop (at' + l.length)) := by
 have hlt : (xs.toList.take at').length = at' := by rw [List.length_take, Array.length_toList]; omega
 apply List.ext_getElem?
 intro k
 have e := zgp l xs at' 0 (by omega) k
 rw [Nat.add_zero] at e
 rw [Array.getElem?_toList, e]
 by_cases h1 : k < at'
 ·rw [if_neg (by omega), List.getElem?_append_left (by omega), List.getElem?_take, if_pos h1, Array.getElem?_toList]
 ·rw [List.getElem?_append_right (by omega), hlt]
  by_cases h2 : k < at' + l.length
  ·rw [if_pos (by omega), List.getElem?_append_left (by omega)]
  ·rw [if_neg (by omega), List.getElem?_append_right (by omega), List.getElem?_drop, Array.getElem?_toList, show at' + l.length + (k - at' - l.length) = k by omega]
theorem zrl {xs : Array Keyed} {i j : Nat} (h : i ≤ j) : xs.toList = xs.toList.take i ++ ((xs.extract i j).toList ++ xs.toList.drop j) := by
 rw [zkx, ← List.append_assoc]
 have : xs.toList.take i ++ (xs.toList.take j).drop i = xs.toList.take j := by
  conv => rhs; rw [← List.take_append_drop i (xs.toList.take j)]
  rw [List.take_take, Nat.min_eq_left h]
 rw [this, List.take_append_drop]
theorem ztg {xs : Array Keyed} {i j : Nat} (h : za8 xs i j) (hj : j ≤ xs.size) : (xs.extract i j).toList.Pairwise kle := by
 rw [List.pairwise_iff_getElem]
 intro p q hp hq hpq
 rw [zkx, List.length_drop, List.length_take, Array.length_toList] at hp hq
 simp only [zkx, List.getElem_drop, List.getElem_take, Array.getElem_toList]
 have := h (i + p) (i + q) (by omega) (by omega) (by omega)
 rw [zdd (Array.getElem?_eq_getElem (by omega)), zdd (Array.getElem?_eq_getElem (by omega))] at this
 exact this
section
variable {prog : Program} {w : World} {A : Around} {E : Value → Shared → Prop} {s : Shared}
theorem zmx {st : SortSt} {i sa na sb nb pw pw2 : Nat} {Q : Bool → SortSt → Prop} (hk : kindOf st = oneType') (hf : failedOf st = none) (hI : AllI (arrOf st))
  (h1 : (pendingOf st)[i]? = some (sa, na, pw)) (h2 : (pendingOf st)[i + 1]? = some (sb, nb, pw2)) (hsb : sb = sa + na) (hna : 1 ≤ na) (hnb : 1 ≤ nb) (hsz : sb + nb ≤ (arrOf st).size)
  (s1 : za8 (arrOf st) sa sb) (s2 : za8 (arrOf st) sb (sb + nb))
  (h : ∀ xs g, xs.Perm (arrOf st) → za8 xs sa (sb + nb) → (∀ k, k < sa ∨ sb + nb ≤ k → K xs k = K (arrOf st) k) →
   Q true (SortSt.mk' oneType' xs (((pendingOf st).setIfInBounds i (sa, na + nb, pw)).eraseIdxIfInBounds (i + 1)) g none)) :
  wpS (model prog w) A E s (mergeAt' i) Q st := by
 obtain ⟨kd, xs, pd, g0, fl⟩ := st
 cases hk
 cases hf
 refine wpS_bind (wpS_get ?_)
 have h1' : pd[i]? = some (sa, na, pw) := h1
 have h2' : pd[i + 1]? = some (sb, nb, pw2) := h2
 replace hI : AllI xs := hI
 replace hsz : sb + nb ≤ xs.size := hsz
 replace s1 : za8 xs sa sb := s1
 replace s2 : za8 xs sb (sb + nb) := s2
 replace h : ∀ ys g, ys.Perm xs → za8 ys sa (sb + nb) → (∀ k, k < sa ∨ sb + nb ≤ k → K ys k = K xs k) →
   Q true (SortSt.mk' oneType' ys ((pd.setIfInBounds i (sa, na + nb, pw)).eraseIdxIfInBounds (i + 1)) g none) := h
 dsimp only
 rw [h1', h2']
 dsimp only
 have pX : ∀ {i}, i < xs.size → ∃ p, xs[i]? = some p ∧ zgb p := fun hi => ⟨_, Array.getElem?_eq_getElem hi, hI _ (Array.getElem_mem_toList hi)⟩
 refine wpS_bind (wpS_modify ?_)
 obtain ⟨q, hq, iq⟩ := pX (show sb < xs.size by omega)
 refine wpS_bind (zba hq ?_)
 refine wpS_bind (zdr (left := false) (arr := xs) (base := sa) (n := na) (hint := 0) rfl iq (fun i hi => pX (i := sa + i) (by omega)) (fun i j hij hj => s1 _ _ (by omega) (by omega) (by omega)) (by omega) fun k k1 k2 k3 => ?_)
 have f1 : ∀ p, sa ≤ p → p < sa + k → K xs p ≤ K xs sb := fun p p1 p2 => by
  obtain ⟨u, hu, _⟩ := pX (show p < xs.size by omega)
  rw [zdd hu, zdd hq]
  exact zic (k2 (p - sa) (by omega)) (by rw [show sa + (p - sa) = p by omega]; exact hu)
 have f2 : ∀ p, sa + k ≤ p → p < sb → K xs sb ≤ K xs p := fun p p1 p2 => by
  obtain ⟨u, hu, _⟩ := pX (show p < xs.size by omega)
  rw [zdd hu, zdd hq]
  exact zhf (k3 (p - sa) (by omega) (by omega)) (by rw [show sa + (p - sa) = p by omega]; exact hu)
 refine zap (fun c1 => wpS_pure ?_) (fun c1 => ?_)
 ·have c1' : na - k = 0 := beq_iff_eq.mp c1
  refine h xs g0 (Array.Perm.refl _) (fun p q' p1 p2 p3 => ?_) (fun _ _ => rfl)
  by_cases hp : q' < sb
  ·exact s1 _ _ p1 p2 hp
  ·by_cases hp2 : p < sb
   ·exact Int.le_trans (f1 p p1 (by omega)) (s2 _ _ (Nat.le_refl _) (by omega) p3)
   ·exact s2 _ _ (by omega) p2 p3
 have c1' : na - k ≠ 0 := fun z => c1 (beq_iff_eq.mpr z)
 obtain ⟨u, hu, iu⟩ := pX (show sb - 1 < xs.size by omega)
 have eu : sa + k + (na - k) - 1 = sb - 1 := by omega
 refine wpS_bind (zba (p := u) (by rw [eu]; exact hu) ?_)
 refine wpS_bind (zdr (left := true) (arr := xs) (base := sb) (n := nb) (hint := nb - 1) rfl iu (fun i hi => pX (i := sb + i) (by omega)) (fun i j hij hj => s2 _ _ (by omega) (by omega) (by omega)) (by omega) fun n' n1 n2 n3 => ?_)
 have f3 : ∀ p, sb ≤ p → p < sb + n' → K xs p ≤ K xs (sb - 1) := fun p p1 p2 => by
  obtain ⟨v, hv, _⟩ := pX (show p < xs.size by omega)
  rw [zdd hv, zdd hu]
  exact zk9 (n2 (p - sb) (by omega)) (by rw [show sb + (p - sb) = p by omega]; exact hv)
 have f4 : ∀ p, sb + n' ≤ p → p < sb + nb → K xs (sb - 1) ≤ K xs p := fun p p1 p2 => by
  obtain ⟨v, hv, _⟩ := pX (show p < xs.size by omega)
  rw [zdd hv, zdd hu]
  exact zi9 (n3 (p - sb) (by omega) (by omega)) (by rw [show sb + (p - sb) = p by omega]; exact hv)
 refine zap (fun c2 => wpS_pure ?_) (fun c2 => ?_)
 ·have c2' : n' = 0 := beq_iff_eq.mp c2
  refine h xs g0 (Array.Perm.refl _) (fun p q' p1 p2 p3 => ?_) (fun _ _ => rfl)
  by_cases hp : q' < sb
  ·exact s1 _ _ p1 p2 hp
  ·by_cases hp2 : p < sb
   ·exact Int.le_trans (s1 p (sb - 1) p1 (by omega) (by omega)) (f4 _ (by omega) p3)
   ·exact s2 _ _ (by omega) p2 p3
 have c2' : n' ≠ 0 := fun z => c2 (beq_iff_eq.mpr z)
 have zX : (xs.extract (sa + k) sb).size = sb - (sa + k) := by rw [Array.size_extract]; omega
 have zY : (xs.extract sb (sb + n')).size = n' := by rw [Array.size_extract]; omega
 have gX : ∀ x ∈ (xs.extract (sa + k) sb).toList, ∃ j, sa + k ≤ j ∧ j < sb ∧ xs[j]? = some x := fun x hx => by
  rw [zkx] at hx
  obtain ⟨j, j1, j2, j3, j4⟩ := ze9 hx
  exact ⟨j, j1, j2, j4⟩
 have gY : ∀ x ∈ (xs.extract sb (sb + n')).toList, ∃ j, sb ≤ j ∧ j < sb + n' ∧ xs[j]? = some x := fun x hx => by
  rw [zkx] at hx
  obtain ⟨j, j1, j2, j3, j4⟩ := ze9 hx
  exact ⟨j, j1, j2, j4⟩
 have iX : ∀ x ∈ (xs.extract (sa + k) sb).toList, zgb x := fun x hx => by
  obtain ⟨j, _, _, hj⟩ := gX x hx
  exact hI x (zrj hj)
 have iY : ∀ x ∈ (xs.extract sb (sb + n')).toList, zgb x := fun x hx => by
  obtain ⟨j, _, _, hj⟩ := gY x hx
  exact hI x (zrj hj)
 have pwX : (xs.extract (sa + k) sb).toList.Pairwise kle := ztg (fun p q p1 p2 p3 => s1 p q (by omega) p2 p3) (by omega)
 have pwY : (xs.extract sb (sb + n')).toList.Pairwise kle := ztg (fun p q p1 p2 p3 => s2 p q p1 p2 (by omega)) (by omega)
 have hb0 : ∀ x ∈ (xs.extract sb (sb + n')).toList.take 1, ∀ y ∈ (xs.extract (sa + k) sb).toList, kle x y := fun x hx y hy => by
  have e0 : (xs.extract sb (sb + n'))[0]? = some q := by
   rw [Array.getElem?_extract, if_pos (by omega), Nat.add_zero]; exact hq
  have := zeu e0
  rw [List.drop_zero] at this
  rw [this] at hx
  rw [List.mem_singleton.mp hx]
  obtain ⟨j, j1, j2, j3⟩ := gX y hy
  have := f2 j j1 j2
  rwa [zdd hq, zdd j3] at this
 have hla : ∀ x ∈ (xs.extract sb (sb + n')).toList, ∀ y ∈ (xs.extract (sa + k) sb).toList.drop ((xs.extract (sa + k) sb).size - 1), kle x y := fun x hx y hy => by
  have e0 : (xs.extract (sa + k) sb)[(xs.extract (sa + k) sb).size - 1]? = some u := by
   rw [zX, Array.getElem?_extract, if_pos (by omega), show sa + k + (sb - (sa + k) - 1) = sb - 1 by omega]; exact hu
  have hy' : y = u := by
   obtain ⟨j, j1, j2, j3⟩ := zfm hy
   have : j = (xs.extract (sa + k) sb).size - 1 := by omega
   rw [this, e0] at j3
   exact (Option.some.inj j3).symm
  rw [hy']
  obtain ⟨j, j1, j2, j3⟩ := gY x hx
  have := f3 j j1 j2
  rwa [zdd hu, zdd j3] at this
 have fin : ∀ (r : Array Keyed) (g : Nat), SP (xs.extract (sa + k) sb).toList (xs.extract sb (sb + n')).toList r.toList →
   Q true (SortSt.mk' oneType' (zfw xs (sa + k) 0 r.toList) ((pd.setIfInBounds i (sa, na + nb, pw)).eraseIdxIfInBounds (i + 1)) g none) := by
  intro r g hr
  have hl : r.toList.length = sb - (sa + k) + n' := by
   rw [hr.1.length_eq, List.length_append, Array.length_toList, Array.length_toList, zX, zY]
  have hget := zgp r.toList xs (sa + k) 0 (by omega)
  have hmid : ∀ p, sa + k ≤ p → p < sb + n' → ∃ x, (zfw xs (sa + k) 0 r.toList)[p]? = some x ∧ r.toList[p - (sa + k)]? = some x ∧ x ∈ r.toList := fun p p1 p2 => by
   have e := hget p
   rw [if_pos (by omega), Nat.add_zero] at e
   have hp : p - (sa + k) < r.toList.length := by omega
   rw [List.getElem?_eq_getElem hp] at e ⊢
   exact ⟨_, e, rfl, List.getElem_mem hp⟩
  have hout : ∀ p, p < sa + k ∨ sb + n' ≤ p → K (zfw xs (sa + k) 0 r.toList) p = K xs p := fun p hp => by
   have e := hget p
   rw [if_neg (by omega)] at e
   exact K_congr e
  have hbd : ∀ x ∈ r.toList, K xs sb ≤ kn x ∧ kn x ≤ K xs (sb - 1) := fun x hx => by
   rcases List.mem_append.mp (hr.1.mem_iff.mp hx) with z | z
   ·obtain ⟨j, j1, j2, j3⟩ := gX x z
    rw [← zdd j3]
    exact ⟨f2 j j1 j2, s1 _ _ (by omega) (by omega) (by omega)⟩
   ·obtain ⟨j, j1, j2, j3⟩ := gY x z
    rw [← zdd j3]
    exact ⟨s2 _ _ (Nat.le_refl _) j1 (by omega), f3 j j1 j2⟩
  have hKm : ∀ p, sa + k ≤ p → p < sb + n' → K xs sb ≤ K (zfw xs (sa + k) 0 r.toList) p ∧ K (zfw xs (sa + k) 0 r.toList) p ≤ K xs (sb - 1) := fun p p1 p2 => by
   obtain ⟨x, x1, x2, x3⟩ := hmid p p1 p2
   rw [zdd x1]
   exact hbd x x3
  refine h _ g ?_ ?_ (fun p hp => hout p (by omega))
  ·refine Array.perm_iff_toList_perm.mpr ?_
   rw [zlw (by omega), hl, show sa + k + (sb - (sa + k) + n') = sb + n' by omega]
   conv => rhs; rw [zrl (xs := xs) (i := sa + k) (j := sb + n') (by omega)]
   refine List.Perm.append_left _ (List.Perm.append_right _ (hr.1.trans ?_))
   rw [zkx, zkx, zkx]
   have e1 : (xs.toList.take (sb + n')).drop (sa + k) = (xs.toList.take sb).drop (sa + k) ++ (xs.toList.take (sb + n')).drop sb := by
    conv => lhs; rw [← List.take_append_drop sb (xs.toList.take (sb + n'))]
    rw [List.take_take, Nat.min_eq_left (by omega), List.drop_append_of_le_length (by rw [List.length_take, Array.length_toList]; omega)]
   rw [e1]
  ·intro p q' p1 p2 p3
   by_cases a1 : q' < sa + k
   ·rw [hout p (.inl (by omega)), hout q' (.inl a1)]
    exact s1 _ _ p1 p2 (by omega)
   ·by_cases a2 : q' < sb + n'
    ·by_cases a3 : p < sa + k
     ·rw [hout p (.inl a3)]
      exact Int.le_trans (f1 p p1 a3) (hKm q' (by omega) a2).1
     ·obtain ⟨x, x1, x2, _⟩ := hmid p (by omega) (by omega)
      obtain ⟨y, y1, y2, _⟩ := hmid q' (by omega) a2
      rw [zdd x1, zdd y1]
      by_cases a4 : p = q'
      ·subst a4
       rw [x1] at y1
       rw [Option.some.inj y1]
       exact Int.le_refl _
      ·obtain ⟨i1, e1⟩ := List.getElem?_eq_some_iff.mp x2
       obtain ⟨i2, e2⟩ := List.getElem?_eq_some_iff.mp y2
       have := List.pairwise_iff_getElem.mp hr.2 _ _ i1 i2 (by omega)
       rwa [e1, e2] at this
    ·rw [hout q' (.inr (by omega))]
     by_cases a3 : p < sa + k
     ·rw [hout p (.inl a3)]
      exact Int.le_trans (f1 p p1 a3) (s2 _ _ (Nat.le_refl _) (by omega) p3)
     ·by_cases a4 : p < sb + n'
      ·exact Int.le_trans (hKm p (by omega) a4).2 (f4 q' (by omega) p3)
      ·rw [hout p (.inr (by omega))]
       exact s2 _ _ (by omega) p2 p3
 refine zap (fun c3 => ?_) (fun c3 => ?_)
 ·refine wpS_bind (zl9 rfl iX iY pwX pwY (by omega) (by omega) hb0 hla fun r g hr => ?_)
  exact wpS_bind (wpS_modify (wpS_bind (wpS_get (wpS_pure (fin r g hr)))))
 ·refine wpS_bind (zl2 rfl iX iY pwX pwY (by omega) (by omega) hb0 hla fun r g hr => ?_)
  exact wpS_bind (wpS_modify (wpS_bind (wpS_get (wpS_pure (fin r g hr)))))
end
end Srt
set_option maxHeartbeats 4000000
namespace Srt
open PySem PyProof PyProof.Rows
theorem zua {xs : Array Keyed} {i : Nat} : za8 xs i (i + 1) := fun p q p1 p2 p3 => by
 have : p = q := by omega
 subst this; exact Int.le_refl _
def zmy (xs : Array Keyed) (i j : Nat) : Prop := ∀ p q, i ≤ p → p ≤ q → q < j → K xs q ≤ K xs p
section
variable {prog : Program} {w : World} {A : Around} {E : Value → Shared → Prop} {s : Shared}
theorem zf5 {st : SortSt} {xs : Array Keyed} {i j : Nat} {Q : Option Bool → SortSt → Prop} (hk : kindOf st = oneType') (hI : AllI xs) (hi : i < xs.size) (hj : j < xs.size)
  (h : Q (some (decide (K xs i < K xs j))) (setArr st xs)) : wpS (model prog w) A E s (ltAt' i j) Q (setArr st xs) := by
 have e1 := Array.getElem?_eq_getElem hi
 have e2 := Array.getElem?_eq_getElem hj
 rw [ltAt'_eq]
 refine wpS_bind (wpS_get ?_)
 refine wpS_bind (zba e1 (wpS_bind (zba e2 (zh5 hk (hI _ (Array.getElem_mem_toList hi)) (hI _ (Array.getElem_mem_toList hj)) ?_))))
 rw [zdd e1, zdd e2] at h
 exact h
theorem zjo {st : SortSt} {xs : Array Keyed} {lo nrem : Nat} {Q : Option Nat → SortSt → Prop} (hk : kindOf st = oneType') (hI : AllI xs) (hn : lo + nrem ≤ xs.size) (h1 : 1 ≤ nrem)
  (h : ∀ m ys, ys.Perm xs → (∀ k, k < lo → K ys k = K xs k) → 1 ≤ m → m ≤ nrem → za8 ys lo (lo + m) → Q (some m) (setArr st ys)) :
  wpS (model prog w) A E s (countRun' lo nrem) Q (setArr st xs) := by
 refine wpS_bind (wpS_mono (wpS_forRange
  (I := fun x c st' => setArr st xs = st' ∧ c = (none, x) ∧ x ≤ nrem ∧ za8 xs lo (lo + x))
  (Q := fun c st' => setArr st xs = st' ∧ ∃ n, c = (none, n) ∧ 1 ≤ n ∧ n ≤ nrem ∧ za8 xs lo (lo + n) ∧ (n = nrem ∨ K xs (lo + n) < K xs (lo + n - 1)))
  ?_ ?_ ⟨rfl, rfl, h1, zua⟩) ?_)
 ·rintro x c st' hx1 hx2 ⟨rfl, rfl, hx, hs⟩
  dsimp only
  refine wpS_bind (zf5 hk hI (by omega) (by omega) ?_)
  dsimp only
  refine zap (fun c1 => wpS_pure ⟨rfl, x, rfl, hx1, by omega, hs, .inr (of_decide_eq_true c1)⟩) (fun c1 => wpS_pure ⟨rfl, rfl, by omega, fun p q p1 p2 p3 => ?_⟩)
  have c1' : K xs (lo + x - 1) ≤ K xs (lo + x) := Int.not_lt.mp fun z => c1 (decide_eq_true z)
  by_cases hq : q < lo + x
  ·exact hs p q p1 p2 hq
  ·have : q = lo + x := by omega
   subst this
   by_cases hp : p = lo + x
   ·subst hp; exact Int.le_refl _
   ·exact Int.le_trans (hs p (lo + x - 1) p1 (by omega) (by omega)) c1'
 ·rintro c st' ⟨rfl, rfl, hx, hs⟩
  rw [show max 1 nrem = nrem by omega] at hs ⊢
  exact ⟨rfl, _, rfl, h1, Nat.le_refl _, hs, .inl rfl⟩
 rintro c st' ⟨rfl, n, rfl, n1, n2, hs, hor⟩
 refine zap (c := (n == nrem) = true) (fun c1 => wpS_pure (h n xs (Array.Perm.refl _) (fun _ _ => rfl) n1 n2 hs)) (fun c1 => ?_)
 have c1' : n ≠ nrem := fun z => c1 (beq_iff_eq.mpr z)
 have hlt := hor.resolve_left c1'
 extract_lets _ _ jp
 suffices hj : ∀ ys, ys.Perm xs → (∀ k, k < lo → K ys k = K xs k) → zmy ys lo (lo + (n + 1)) → wpS (model prog w) A E s (jp ()) Q (setArr st ys) by
  refine zap (fun c2 => ?_) (fun c2 => ?_)
  ·refine wpS_bind (zf5 hk hI (by omega) (by omega) ?_)
   refine zap (c := decide (K xs lo < K xs (lo + n - 1)) = true) (fun c3 => wpS_pure (h n xs (Array.Perm.refl _) (fun _ _ => rfl) n1 n2 hs)) (fun c3 => ?_)
   have c3' : K xs (lo + n - 1) ≤ K xs lo := Int.not_lt.mp fun z => c3 (decide_eq_true z)
   have all : ∀ k, lo ≤ k → k < lo + n → K xs k = K xs (lo + n - 1) := fun k k1 k2 => by
    have a1 := hs lo k (Nat.le_refl _) k1 k2
    have a2 := hs k (lo + n - 1) k1 (by omega) (by omega)
    omega
   refine wpS_bind (wpS_modify ?_)
   have e := K_mirror_equal (i := lo) (j := lo + n) (xs := xs) (by omega) all
   refine hj (mirror xs lo (lo + n) ((lo + n - lo) / 2)) (mirror_perm _ _ _ _) (fun k _ => e k) (fun p q p1 p2 p3 => ?_)
   rw [e, e]
   by_cases hq : q < lo + n
   ·rw [all q (by omega) hq, all p p1 (by omega)]; exact Int.le_refl _
   ·have : q = lo + n := by omega
    subst this
    by_cases hp : p = lo + n
    ·subst hp; exact Int.le_refl _
    ·rw [all p p1 (by omega)]; exact Int.le_of_lt hlt
  ·refine hj xs (Array.Perm.refl _) (fun _ _ => rfl) (fun p q p1 p2 p3 => ?_)
   have c2' : ¬ n > 1 := c2
   have : n = 1 := by omega
   subst this
   by_cases hp : p = q
   ·subst hp; exact Int.le_refl _
   ·have : p = lo := by omega
    have : q = lo + 1 := by omega
    subst p q
    exact Int.le_of_lt hlt
 intro ys yp yl yd
 have yz : ys.size = xs.size := yp.size_eq
 refine wpS_bind (wpS_lift (wpAny_rule ⟨rfl, ?_⟩))
 refine wpS_bind (wpS_mono (wpS_forRange
  (I := fun x c st' => ∃ zs neq, setArr st zs = st' ∧ c = (none, x, neq) ∧ zs.Perm xs ∧ (∀ k, k < lo → K zs k = K xs k) ∧ zmy zs lo (lo + x) ∧ x ≤ nrem ∧ neq + 1 ≤ x ∧ (∀ i, lo + x - (neq + 1) ≤ i → i < lo + x → K zs i = K zs (lo + x - 1)))
  (Q := fun c st' => ∃ zs m neq, setArr st zs = st' ∧ c = (none, m, neq) ∧ zs.Perm xs ∧ (∀ k, k < lo → K zs k = K xs k) ∧ zmy zs lo (lo + m) ∧ 1 ≤ m ∧ m ≤ nrem ∧ neq + 1 ≤ m ∧ (∀ i, lo + m - (neq + 1) ≤ i → i < lo + m → K zs i = K zs (lo + m - 1)))
  ?_ ?_ ⟨ys, 0, rfl, rfl, yp, yl, yd, by omega, by omega, fun i i1 i2 => by rw [show i = lo + (n + 1) - 1 by omega]⟩) ?_)
 ·rintro x c st' hx1 hx2 ⟨zs, neq, rfl, rfl, zp, zl, zd, z1, z2, z3⟩
  have zz : zs.size = xs.size := zp.size_eq
  have hx1' : n + 1 ≤ x := hx1
  refine wpS_bind (zf5 hk (hI.perm zp) (by show lo + x < zs.size; omega) (by show lo + x - 1 < zs.size; omega) ?_)
  have grow : ∀ us : Array Keyed, (∀ k, K us k = K zs k) → K zs (lo + x) ≤ K zs (lo + x - 1) → zmy us lo (lo + (x + 1)) := fun us hu hle p q p1 p2 p3 => by
   rw [hu, hu]
   by_cases hq : q < lo + x
   ·exact zd p q p1 p2 hq
   ·have : q = lo + x := by omega
    subst this
    by_cases hp : p = lo + x
    ·subst hp; exact Int.le_refl _
    ·exact Int.le_trans hle (zd p (lo + x - 1) p1 (by omega) (by omega))
  refine zap (c := decide (K zs (lo + x) < K zs (lo + x - 1)) = true) (fun c3 => ?_) (fun c3 => ?_)
  ·have c3' := of_decide_eq_true c3
   have e := K_mirror_equal (i := lo + x - (neq + 1)) (j := lo + x) (xs := zs) (by omega) z3
   refine zap (c := neq > 0) (fun c4 => ?_) (fun c4 => ?_)
   ·exact wpS_bind (wpS_modify (wpS_pure ⟨mirror zs (lo + x - (neq + 1)) (lo + x) ((lo + x - (lo + x - (neq + 1))) / 2), 0, rfl, rfl, (mirror_perm _ _ _ _).trans zp, fun k hk' => by rw [e]; exact zl k hk', grow _ e (Int.le_of_lt c3'), by omega, by omega, fun i i1 i2 => by rw [show i = lo + (x + 1) - 1 by omega]⟩))
   ·exact wpS_pure ⟨zs, 0, rfl, rfl, zp, zl, grow _ (fun _ => rfl) (Int.le_of_lt c3'), by omega, by omega, fun i i1 i2 => by rw [show i = lo + (x + 1) - 1 by omega]⟩
  ·have c3' := Int.not_lt.mp fun z => c3 (decide_eq_true z)
   refine wpS_bind (zf5 hk (hI.perm zp) (by show lo + x - 1 < zs.size; omega) (by show lo + x < zs.size; omega) ?_)
   refine zap (c := decide (K zs (lo + x - 1) < K zs (lo + x)) = true) (fun c4 => wpS_pure ⟨zs, x, neq, rfl, rfl, zp, zl, zd, by omega, z1, z2, z3⟩) (fun c4 => ?_)
   have c4' := Int.not_lt.mp fun z => c4 (decide_eq_true z)
   have ex : K zs (lo + x) = K zs (lo + x - 1) := by omega
   refine wpS_pure ⟨zs, neq + 1, rfl, rfl, zp, zl, grow _ (fun _ => rfl) c4', by omega, by omega, fun i i1 i2 => ?_⟩
   rw [show lo + (x + 1) - 1 = lo + x by omega]
   by_cases hi : i = lo + x
   ·rw [hi]
   ·rw [ex]; exact z3 i (by omega) (by omega)
 ·rintro c st' ⟨zs, neq, rfl, rfl, zp, zl, zd, z1, z2, z3⟩
  have e : max (n + 1) nrem = nrem := by omega
  rw [e] at zd z2 z3
  exact ⟨zs, nrem, neq, rfl, by rw [e], zp, zl, zd, h1, Nat.le_refl _, z2, z3⟩
 rintro c st' ⟨zs, m, neq, rfl, rfl, zp, zl, zd, m1, z1, z2, z3⟩
 have zz : zs.size = xs.size := zp.size_eq
 dsimp (config := { zeta := false, zetaHave := false, zetaUnused := false }) only
 extract_lets
 rename_i jp2
 suffices hj2 : ∀ us, us.Perm xs → (∀ k, k < lo → K us k = K xs k) → zmy us lo (lo + m) → wpS (model prog w) A E s (jp2 ()) Q (setArr st us) by
  have e := K_mirror_equal (i := lo + m - (neq + 1)) (j := lo + m) (xs := zs) (by omega) z3
  refine zap (fun c4 => ?_) (fun c4 => hj2 zs zp zl zd)
  exact wpS_bind (wpS_modify (hj2 (mirror zs (lo + m - (neq + 1)) (lo + m) ((lo + m - (lo + m - (neq + 1))) / 2)) ((mirror_perm _ _ _ _).trans zp) (fun k hk' => by rw [e]; exact zl k hk') (fun p q p1 p2 p3 => by rw [e, e]; exact zd p q p1 p2 p3)))
 intro us up ul ud
 have uz : us.size = xs.size := up.size_eq
 refine wpS_bind (wpS_modify ?_)
 have hm := K_mirror (xs := us) (i := lo) (j := lo + m) (by omega)
 have vs : za8 (mirror us lo (lo + m) ((lo + m - lo) / 2)) lo (lo + m) := fun p q p1 p2 p3 => by
  rw [hm, hm, if_pos ⟨p1, by omega⟩, if_pos ⟨by omega, p3⟩]
  exact ud _ _ (by omega) (by omega) (by omega)
 have vl : ∀ k, k < lo → K (mirror us lo (lo + m) ((lo + m - lo) / 2)) k = K xs k := fun k hk' => by
  rw [hm, if_neg (by omega)]; exact ul k hk'
 have vp : (mirror us lo (lo + m) ((lo + m - lo) / 2)).Perm xs := (mirror_perm _ _ _ _).trans up
 show wpS _ _ _ _ _ _ (setArr st (mirror us lo (lo + m) ((lo + m - lo) / 2)))
 generalize mirror us lo (lo + m) ((lo + m - lo) / 2) = vv at vs vl vp
 have vz : vv.size = xs.size := vp.size_eq
 refine wpS_bind (wpS_mono (wpS_forRange
  (I := fun x c st' => setArr st vv = st' ∧ c = (none, x) ∧ x ≤ nrem ∧ za8 vv lo (lo + x))
  (Q := fun c st' => setArr st vv = st' ∧ ∃ n, c = (none, n) ∧ 1 ≤ n ∧ n ≤ nrem ∧ za8 vv lo (lo + n))
  ?_ ?_ ⟨rfl, rfl, z1, vs⟩) ?_)
 ·rintro x c st' hx1 hx2 ⟨rfl, rfl, hx, hs'⟩
  have hx1' : m ≤ x := hx1
  refine wpS_bind (zf5 hk (hI.perm vp) (by show lo + x < vv.size; omega) (by show lo + x - 1 < vv.size; omega) ?_)
  refine zap (c := decide (K vv (lo + x) < K vv (lo + x - 1)) = true) (fun c1 => wpS_pure ⟨rfl, x, rfl, by omega, by omega, hs'⟩) (fun c1 => wpS_pure ⟨rfl, rfl, by omega, fun p q p1 p2 p3 => ?_⟩)
  have c1' : K vv (lo + x - 1) ≤ K vv (lo + x) := Int.not_lt.mp fun z => c1 (decide_eq_true z)
  by_cases hq : q < lo + x
  ·exact hs' p q p1 p2 hq
  ·have : q = lo + x := by omega
   subst this
   by_cases hp : p = lo + x
   ·subst hp; exact Int.le_refl _
   ·exact Int.le_trans (hs' p (lo + x - 1) p1 (by omega) (by omega)) c1'
 ·rintro c st' ⟨rfl, rfl, hx, hs'⟩
  have e : max m nrem = nrem := by omega
  rw [e] at hs'
  exact ⟨rfl, nrem, by rw [e], h1, Nat.le_refl _, hs'⟩
 ·rintro c st' ⟨rfl, n', rfl, n1', n2', hs'⟩
  exact wpS_pure (h n' vv vp vl n1' n2' hs')
end
end Srt
set_option maxHeartbeats 4000000
namespace Srt
open PySem PyProof PyProof.Rows
def Chain (xs : Array Keyed) : Nat → List (Nat × Nat × Nat) → Nat → Prop
 | a, [], b => a = b
 | a, p :: l, b => p.1 = a ∧ 1 ≤ p.2.1 ∧ za8 xs a (a + p.2.1) ∧ Chain xs (a + p.2.1) l b
theorem Chain.len {xs : Array Keyed} : ∀ {l : List (Nat × Nat × Nat)} {a b : Nat}, Chain xs a l b → a + l.length ≤ b
 | [], a, b, h => by cases h; exact Nat.le_refl _
 | p :: l, a, b, h => by
  have := Chain.len h.2.2.2
  have := h.2.1
  rw [List.length_cons]; omega
theorem Chain.congr {xs ys : Array Keyed} : ∀ {l : List (Nat × Nat × Nat)} {a b : Nat}, Chain xs a l b → (∀ k, a ≤ k → k < b → K ys k = K xs k) → Chain ys a l b
 | [], a, b, h, _ => h
 | p :: l, a, b, h, e => by
  have hl := Chain.len h.2.2.2
  exact ⟨h.1, h.2.1, fun i j i1 i2 i3 => by rw [e i (by omega) (by omega), e j (by omega) (by omega)]; exact h.2.2.1 i j i1 i2 i3, Chain.congr h.2.2.2 fun k k1 k2 => e k (by omega) k2⟩
theorem Chain.app {xs : Array Keyed} : ∀ {l m : List (Nat × Nat × Nat)} {a b c : Nat}, Chain xs a l b → Chain xs b m c → Chain xs a (l ++ m) c
 | [], m, a, b, c, h, g => by cases h; exact g
 | p :: l, m, a, b, c, h, g => ⟨h.1, h.2.1, h.2.2.1, Chain.app h.2.2.2 g⟩
theorem Chain.split {xs : Array Keyed} : ∀ {l m : List (Nat × Nat × Nat)} {a c : Nat}, Chain xs a (l ++ m) c → ∃ b, Chain xs a l b ∧ Chain xs b m c
 | [], m, a, c, h => ⟨a, rfl, h⟩
 | p :: l, m, a, c, h => by
  obtain ⟨b, h1, h2⟩ := Chain.split h.2.2.2
  exact ⟨b, ⟨h.1, h.2.1, h.2.2.1, h1⟩, h2⟩
theorem Chain.pw {xs : Array Keyed} : ∀ {l m : List (Nat × Nat × Nat)} {a b : Nat}, l.map (fun p => (p.1, p.2.1)) = m.map (fun p => (p.1, p.2.1)) → Chain xs a l b → Chain xs a m b
 | [], [], a, b, _, h => h
 | [], q :: m, a, b, e, h => by cases e
 | p :: l, [], a, b, e, h => by cases e
 | p :: l, q :: m, a, b, e, h => by
  rw [List.map_cons, List.map_cons] at e
  obtain ⟨e1, e2⟩ := List.cons.inj e
  have e3 := (Prod.mk.inj e1)
  refine ⟨e3.1 ▸ h.1, e3.2 ▸ h.2.1, e3.2 ▸ h.2.2.1, ?_⟩
  rw [← e3.2]
  exact Chain.pw e2 h.2.2.2
theorem zo3 {α : Type} {l : List α} {i : Nat} (h : i + 1 < l.length) : ∃ l1 x y l2, l = l1 ++ x :: y :: l2 ∧ l1.length = i := by
 refine ⟨l.take i, l[i], l[i+1], l.drop (i + 2), ?_, by rw [List.length_take]; omega⟩
 rw [← List.drop_eq_getElem_cons, ← List.drop_eq_getElem_cons, List.take_append_drop]
theorem zmw {α : Type} {pd : Array α} {l1 l2 : List α} {x y z : α} (h : pd.toList = l1 ++ x :: y :: l2) :
  ((pd.setIfInBounds l1.length z).eraseIdxIfInBounds (l1.length + 1)).toList = l1 ++ z :: l2 := by
 have hz : pd.size = l1.length + (l2.length + 2) := by rw [← Array.length_toList, h, List.length_append]; rfl
 rw [Array.eraseIdxIfInBounds, dif_pos (by rw [Array.size_setIfInBounds]; omega), Array.toList_eraseIdx, Array.toList_setIfInBounds, h]
 rw [List.set_append_right _ _ (Nat.le_refl _), Nat.sub_self, List.set_cons_zero, List.eraseIdx_append_of_length_le (by omega)]
 rw [show l1.length + 1 - l1.length = 1 by omega]
 rfl
structure SB (a₀ : Array Keyed) (st : SortSt) (lo : Nat) : Prop where
 perm : (arrOf st).Perm a₀
 kind : kindOf st = oneType'
 failed : failedOf st = none
 chain : Chain (arrOf st) 0 (pendingOf st).toList lo
 le : lo ≤ a₀.size
section
variable {prog : Program} {w : World} {A : Around} {E : Value → Shared → Prop} {s : Shared} {a₀ : Array Keyed}
theorem ziq {st : SortSt} {i lo : Nat} {Q : Bool → SortSt → Prop} (h0 : AllI a₀) (hB : SB a₀ st lo) (hi : i + 1 < (pendingOf st).size)
  (h : ∀ st', SB a₀ st' lo → (pendingOf st').size + 1 = (pendingOf st).size → (∀ k, lo ≤ k → K (arrOf st') k = K (arrOf st) k) → Q true st') :
  wpS (model prog w) A E s (mergeAt' i) Q st := by
 obtain ⟨l1, ⟨sa, na, pw⟩, ⟨sb, nb, pw2⟩, l2, hl, rfl⟩ := zo3 (l := (pendingOf st).toList) (by rw [Array.length_toList]; exact hi)
 have hc := hB.chain
 rw [hl] at hc
 obtain ⟨b, c1, e1, n1, s1, e2, n2, s2, c2⟩ := hc.split
 dsimp only at e1 n1 s1 e2 n2 s2 c2
 subst e1
 subst e2
 have hl2 := c2.len
 have hsz : (arrOf st).size = a₀.size := hB.perm.size_eq
 have hle := hB.le
 refine zmx (sa := sa) (na := na) (sb := sa + na) (nb := nb) (pw := pw) (pw2 := pw2) hB.kind hB.failed (h0.perm hB.perm) ?_ ?_ rfl n1 n2 (by omega) s1 s2 fun xs g xp xs1 xk => ?_
 ·rw [← Array.getElem?_toList, hl, List.getElem?_append_right (Nat.le_refl _), Nat.sub_self]; rfl
 ·rw [← Array.getElem?_toList, hl, List.getElem?_append_right (by omega), show l1.length + 1 - l1.length = 1 by omega]; rfl
 have hm := zmw (z := (sa, na + nb, pw)) hl
 refine h _ ⟨xp.trans hB.perm, rfl, rfl, ?_, hle⟩ ?_ fun k hk => xk k (.inr (by omega))
 ·show Chain xs 0 (((pendingOf st).setIfInBounds l1.length (sa, na + nb, pw)).eraseIdxIfInBounds (l1.length + 1)).toList lo
  rw [hm]
  refine (c1.congr fun k _ k2 => xk k (.inl k2)).app ⟨rfl, by dsimp only; omega, ?_, ?_⟩
  ·dsimp only
   rw [← Nat.add_assoc]; exact xs1
  ·dsimp only
   rw [← Nat.add_assoc]; exact c2.congr fun k k1 _ => xk k (.inr k1)
 ·show (((pendingOf st).setIfInBounds l1.length (sa, na + nb, pw)).eraseIdxIfInBounds (l1.length + 1)).size + 1 = _
  rw [← Array.length_toList, hm, ← Array.length_toList, hl, List.length_append, List.length_append]
  rfl
theorem zhv {st : SortSt} {xs : Array Keyed} {lo n ok : Nat} {Q : Bool → SortSt → Prop} (hk : kindOf st = oneType') (hI : AllI xs) (hn : lo + n ≤ xs.size) (hok : ok ≤ n) (h1 : 1 ≤ ok) (hs : za8 xs lo (lo + ok))
  (h : ∀ ys, ys.Perm xs → (∀ k, k < lo → K ys k = K xs k) → za8 ys lo (lo + n) → Q true (setArr st ys)) : wpS (model prog w) A E s (binarySort' lo n ok) Q (setArr st xs) := by
 rw [binarySort'_eq]
 refine wpS_bind (wpS_mono (wpS_forRange (I := fun k c st' => ∃ ys, c = (none, ()) ∧ setArr st ys = st' ∧ ys.Perm xs ∧ (∀ k, k < lo → K ys k = K xs k) ∧ za8 ys lo (lo + min k n))
  (Q := fun c st' => ∃ ys, c = (none, ()) ∧ setArr st ys = st' ∧ ys.Perm xs ∧ (∀ k, k < lo → K ys k = K xs k) ∧ za8 ys lo (lo + n)) ?step ?fin ?init) ?post)
 case post =>
  rintro c st' ⟨ys, rfl, rfl, yp, yl, ys1⟩
  exact wpS_pure (h ys yp yl ys1)
 case init => exact ⟨xs, rfl, rfl, Array.Perm.refl _, fun _ _ => rfl, by rw [show min (max ok 1) n = ok by omega]; exact hs⟩
 case fin =>
  rintro c st' ⟨ys, hc, he, yp, yl, ys1⟩
  refine ⟨ys, hc, he, yp, yl, ?_⟩
  rwa [show min (max (max ok 1) n) n = n by omega] at ys1
 case step =>
  rintro k c st' hak hkn ⟨ys, rfl, rfl, yp, yl, hs'⟩
  rw [show min k n = k by omega] at hs'
  have yz : ys.size = xs.size := yp.size_eq
  have hkz : lo + k < ys.size := by omega
  refine wpS_bind (wpS_mono (wpS_forRange (I := fun x c st'' => setArr st ys = st'' ∧ ∃ l r, c = (none, l, r) ∧ l ≤ r ∧ r ≤ k ∧ r - l ≤ k - x ∧
    (∀ i, i < l → K ys (lo + i) ≤ K ys (lo + k)) ∧ (∀ i, r ≤ i → i < k → K ys (lo + k) < K ys (lo + i)))
   (Q := fun c st'' => setArr st ys = st'' ∧ ∃ l r, c = (none, l, r) ∧ l ≤ k ∧
    (∀ i, i < l → K ys (lo + i) ≤ K ys (lo + k)) ∧ (∀ i, l ≤ i → i < k → K ys (lo + k) < K ys (lo + i))) ?istep ?ifin ?iinit) ?ipost)
  case iinit => exact ⟨rfl, 0, k, rfl, by omega, by omega, by omega, fun i hi => by omega, fun i h1 h2 => by omega⟩
  case ifin =>
   rintro c st'' ⟨rfl, l, r, rfl, hlr, hrk, hm, hlo, hhi⟩
   have : l = r := by omega
   subst this
   exact ⟨rfl, l, l, rfl, hrk, hlo, hhi⟩
  case istep =>
   rintro x c st'' _ hxk ⟨rfl, l, r, rfl, hlr, hrk, hm, hlo, hhi⟩
   refine zap (c := l ≥ r) (fun hge => ?_) (fun hge => ?_)
   ·have : l = r := by omega
    subst this
    exact wpS_pure ⟨rfl, l, l, rfl, hrk, hlo, hhi⟩
   ·refine wpS_bind (zf5 hk (hI.perm yp) hkz (by show lo + (l + r) / 2 < ys.size; omega) ?_)
    refine zap (c := decide (K ys (lo + k) < K ys (lo + (l + r) / 2)) = true) (fun c1 => ?_) (fun c1 => ?_)
    ·have hless := of_decide_eq_true c1
     refine wpS_pure ⟨rfl, l, (l + r) / 2, rfl, by omega, by omega, by omega, hlo, fun i h1 h2 => ?_⟩
     exact Int.lt_of_lt_of_le hless (hs' _ _ (by omega) (by omega) (by omega))
    ·have hless := Int.not_lt.mp fun z => c1 (decide_eq_true z)
     refine wpS_pure ⟨rfl, (l + r) / 2 + 1, r, rfl, by omega, by omega, by omega, fun i h1 => ?_, hhi⟩
     exact Int.le_trans (hs' (lo + i) (lo + (l + r) / 2) (by omega) (by omega) (by omega)) hless
  case ipost =>
   rintro c st'' ⟨rfl, l, r, rfl, hlk, hlo, hhi⟩
   refine wpS_bind (wpS_modify (wpS_pure ⟨bubble ys (lo + k) (lo + k - (lo + l)), rfl, rfl, (bubble_perm _ _ _).trans yp, fun i hi => ?_, ?_⟩))
   ·rw [K_bubble hkz (by omega), if_neg (by omega), if_neg (by omega)]; exact yl i hi
   rw [show min (k + 1) n = k + 1 by omega]
   intro i j i1 hij hj
   rw [K_bubble hkz (by omega), K_bubble hkz (by omega), show lo + k - (lo + k - (lo + l)) = lo + l by omega]
   have lo' : ∀ i, lo ≤ i → i < lo + l → K ys i ≤ K ys (lo + k) := fun i a b => by
    have := hlo (i - lo) (by omega)
    rwa [show lo + (i - lo) = i by omega] at this
   have hi' : ∀ i, lo + l ≤ i → i < lo + k → K ys (lo + k) ≤ K ys i := fun i a b => by
    have := hhi (i - lo) (by omega) (by omega)
    rw [show lo + (i - lo) = i by omega] at this
    exact Int.le_of_lt this
   repeat' split
   all_goals first
    | (exfalso; omega)
    | exact Int.le_refl _
    | exact lo' _ (by omega) (by omega)
    | exact hi' _ (by omega) (by omega)
    | exact hs' _ _ (by omega) (by omega) (by omega)
end
end Srt
set_option maxHeartbeats 4000000
namespace Srt
open PySem PyProof PyProof.Rows
section
variable {prog : Program} {w : World} {A : Around} {E : Value → Shared → Prop} {s : Shared} {a₀ : Array Keyed}
theorem zjh {st : SortSt} {Q : Unit → SortSt → Prop} (h0 : AllI a₀) (hB : SBase a₀ st)
  (h : ∀ st', (arrOf st').Perm a₀ → failedOf st' = none → SortedTo (arrOf st') a₀.size → Q () st') : wpS (model prog w) A E s sortRuns' Q st := by
 rw [sortRuns'_eq]
 refine wpS_bind (wpS_get ?_)
 have hz := hB.size
 extract_lets size mr
 have hz' : size = a₀.size := hz
 clear_value size mr
 subst hz'
 have hS0 : SB a₀ st 0 := ⟨hB.perm, hB.kind, hB.failed, by rw [hB.pend]; rfl, Nat.zero_le _⟩
 refine wpS_bind (wpS_mono (wpS_forRange
  (I := fun x c st' => ∃ lo, c = (none, lo) ∧ x ≤ lo ∧ SB a₀ st' lo)
  (Q := fun c st' => c = (none, a₀.size) ∧ SB a₀ st' a₀.size) ?step ?fin ⟨0, rfl, Nat.le_refl _, hS0⟩) ?post)
 case fin =>
  rintro c st' ⟨lo, rfl, h1, h2⟩
  have := h2.le
  have : lo = a₀.size := by omega
  subst this
  exact ⟨rfl, h2⟩
 case step =>
  rintro x c st' _ hx ⟨lo, rfl, hxl, hS⟩
  have hle := hS.le
  dsimp (config := { zeta := false, zetaHave := false, zetaUnused := false }) only
  refine zap (c := lo ≥ a₀.size) (fun c1 => ?_) (fun c1 => ?_)
  ·have : lo = a₀.size := by omega
   subst this
   exact wpS_pure ⟨rfl, hS⟩
  have hsz : (arrOf st').size = a₀.size := hS.perm.size_eq
  obtain ⟨R, hR⟩ : ∃ R : ForInStep (Option Unit × Nat) → SortSt → Prop, R = fun r st'' => ∃ lo, r = ForInStep.yield (none, lo) ∧ x + 1 ≤ lo ∧ SB a₀ st'' lo := ⟨_, rfl⟩
  refine wpS_mono (Q := R) ?_ (by rw [hR]; rintro r st'' ⟨lo, rfl, h1, h2⟩; exact ⟨lo, rfl, h1, h2⟩)
  refine wpS_bind (zjo (st := st') (xs := arrOf st') hS.kind (h0.perm hS.perm) (by omega) (by omega) fun m ys yp yl m1 m2 ys1 => ?_)
  dsimp (config := { zeta := false, zetaHave := false, zetaUnused := false }) only
  extract_lets n jp force nf
  have hn : n = m := rfl
  clear_value n
  subst hn
  suffices hj : ∀ (n' : Nat) (zs : Array Keyed), zs.Perm (arrOf st') → (∀ k, k < lo → K zs k = K (arrOf st') k) → za8 zs lo (lo + n') → 1 ≤ n' → lo + n' ≤ a₀.size →
    wpS (model prog w) A E s (jp () n') R (setArr st' zs) by
   refine zap (fun c2 => ?_) (fun c2 => hj n ys yp yl ys1 m1 (by omega))
   refine wpS_bind (wpS_lift (wpAny_rule ⟨rfl, ?_⟩))
   have hf : force = min (a₀.size - lo) mr := rfl
   have yz : ys.size = (arrOf st').size := yp.size_eq
   refine wpS_bind (zhv hS.kind ((h0.perm hS.perm).perm yp) (by omega) (by omega) m1 ys1 fun zs zp zl zs1 => ?_)
   exact hj force zs (zp.trans yp) (fun k hk => (zl k hk).trans (yl k hk)) zs1 (by omega) (by omega)
  clear ys yp yl ys1 m1 m2
  intro n' zs zp zl zs1 n1 n2
  have hS1 : SB a₀ (setArr st' zs) lo := ⟨zp.trans hS.perm, hS.kind, hS.failed, hS.chain.congr fun k _ hk => zl k hk, hle⟩
  have hs2 : za8 (arrOf (setArr st' zs)) lo (lo + n') := zs1
  generalize setArr st' zs = st2 at hS1 hs2
  clear zs zp zl zs1
  refine wpS_bind (wpS_get ?_)
  extract_lets lo2 jp2
  suffices hj2 : ∀ st3, SB a₀ st3 lo → za8 (arrOf st3) lo (lo + n') → wpS (model prog w) A E s (jp2 ()) R st3 by
   cases hb : (pendingOf st2).back? with
   | none => exact hj2 st2 hS1 hs2
   | some p =>
    obtain ⟨p1, p2, p3⟩ := p
    dsimp (config := { zeta := false, zetaHave := false, zetaUnused := false }) only
    extract_lets pw
    clear_value pw
    refine wpS_bind (wpS_mono (wpS_forRange (I := fun x c st'' => c = (none, ()) ∧ SB a₀ st'' lo ∧ za8 (arrOf st'') lo (lo + n')) (Q := fun c st'' => c = (none, ()) ∧ SB a₀ st'' lo ∧ za8 (arrOf st'') lo (lo + n')) ?_ (fun _ _ hh => hh) ⟨rfl, hS1, hs2⟩) ?_)
    ·rintro y c st3 _ hy ⟨rfl, hS3, hs3⟩
     refine wpS_bind (wpS_get ?_)
     extract_lets p
     by_cases hp : p.size > 1
     ·have hl : p.size - 2 < p.size := by omega
      rw [if_pos hp, Array.getElem?_eq_getElem hl]
      dsimp (config := { zeta := false, zetaHave := false, zetaUnused := false }) only
      refine zap (fun c3 => wpS_pure ⟨rfl, hS3, hs3⟩) (fun c3 => ?_)
      refine wpS_bind (ziq h0 hS3 (show p.size - 2 + 1 < p.size by omega) fun st4 hS4 hp4 hk4 => ?_)
      exact wpS_pure ⟨rfl, hS4, fun i j i1 i2 i3 => by rw [hk4 i i1, hk4 j (by omega)]; exact hs3 i j i1 i2 i3⟩
     ·rw [if_neg hp]
      exact wpS_pure ⟨rfl, hS3, hs3⟩
    ·rintro c st3 ⟨rfl, hS3, hs3⟩
     refine wpS_bind (wpS_modify (hj2 _ ⟨hS3.perm, hS3.kind, hS3.failed, ?_, hle⟩ hs3))
     refine hS3.chain.pw ?_
     show _ = ((pendingOf st3).modify _ _).toList.map _
     rw [Array.toList_modify]
     generalize (pendingOf st3).toList = l
     generalize (pendingOf st3).size - 1 = i
     apply List.ext_getElem?
     intro k
     rw [List.getElem?_map, List.getElem?_map, List.getElem?_modify]
     cases l[k]? with
     | none => rfl
     | some q =>
      by_cases e : i = k
      ·simp [e]
      ·simp [e]
  intro st3 hS3 hs3
  refine wpS_bind (wpS_modify (wpS_pure ?_))
  rw [hR]
  refine ⟨lo + n', rfl, by omega, hS3.perm, hS3.kind, hS3.failed, ?_, n2⟩
  show Chain (arrOf st3) 0 ((pendingOf st3).push (lo, n', 0)).toList (lo + n')
  rw [Array.toList_push]
  exact hS3.chain.app ⟨rfl, n1, hs3, rfl⟩
 case post =>
  rintro c st' ⟨rfl, hS⟩
  dsimp (config := { zeta := false, zetaHave := false, zetaUnused := false }) only
  refine wpS_bind (wpS_mono (wpS_forRange (I := fun x c st'' => c = (none, ()) ∧ SB a₀ st'' a₀.size ∧ (pendingOf st'').size + x ≤ a₀.size) (Q := fun c st'' => c = (none, ()) ∧ SB a₀ st'' a₀.size ∧ (pendingOf st'').size ≤ 1) ?_ ?_ ?_) ?_)
  ·rintro x c st'' _ hx ⟨rfl, hS', hp⟩
   refine wpS_bind (wpS_get ?_)
   refine zap (c := (pendingOf st'').size ≤ 1) (fun c1 => wpS_pure ⟨rfl, hS', c1⟩) (fun c1 => ?_)
   extract_lets i before i'
   have hi' : i' + 1 < (pendingOf st'').size := by
    have : i' = i - 1 ∨ i' = i := by
     show (if _ then i - 1 else i) = i - 1 ∨ (if _ then i - 1 else i) = i
     split
     ·exact .inl rfl
     ·exact .inr rfl
    have hi : i = (pendingOf st'').size - 2 := rfl
    omega
   clear_value i'
   refine wpS_bind (ziq h0 hS' hi' fun st3 hS3 hp3 _ => ?_)
   exact wpS_pure ⟨rfl, hS3, by omega⟩
  ·rintro c st'' ⟨hc, hS', hp⟩
   have : max 0 a₀.size = a₀.size := by omega
   rw [this] at hp
   exact ⟨hc, hS', by omega⟩
  ·have := hS.chain.len
   rw [Array.length_toList] at this
   exact ⟨rfl, hS, by omega⟩
  ·rintro c st'' ⟨rfl, hS', hp⟩
   refine wpS_pure (h _ hS'.perm hS'.failed ?_)
   have hc := hS'.chain
   have hl : (pendingOf st'').toList.length ≤ 1 := by rw [Array.length_toList]; exact hp
   generalize (pendingOf st'').toList = l at hc hl
   match l, hc, hl with
   | [], hc, _ =>
    have : a₀.size = 0 := hc.symm
    intro i j _ hj; omega
   | [p], hc, _ =>
    obtain ⟨_, _, hs, e⟩ := hc
    have e' : 0 + p.2.1 = a₀.size := e
    intro i j hij hj
    exact hs i j (Nat.zero_le _) hij (by omega)
end
end Srt
set_option maxHeartbeats 4000000
set_option maxRecDepth 100000
namespace Srt
open PySem PyProof PyProof.Rows
section
variable {prog : Program} {w : World} {A : Around} {E : Value → Shared → Prop} {s : Shared}
theorem zry {a : Addr} {vs : List Value} {ns : List Int} {n : Nat} {P : Fin → Shared → Prop} (o0 : s.heap.get? a = some (seqObj "list" vs.toArray n)) (hI : IntsAre vs ns) (hz : vs.length ≤ sizeLine)
  (h : ∀ (out : Array Value) (ns' : List Int), IntsAre out.toList ns' → ns'.Perm ns → ns'.Pairwise (· ≤ ·) → P (.done (.ret .none)) { s with heap := sortedHeap s.heap a vs out }) :
  wpAny (model prog w) A (Builtin.«list.sort» ⟨[.ref a], []⟩) P E s := by
 rw [list_sort_plain]
 have la : a < s.heap.objs.size := Heap.lt_size o0
 obtain ⟨e1, o1⟩ : ∃ e, (s.heap.update a (Obj.mapSeq fun _ => #[])).get? a = some (seqObj "list" #[] e) := ⟨_, get?_update_seq o0 _⟩
 have o6 : (((s.heap.update a (Obj.mapSeq fun _ => #[])).push (seqObj "tuple" vs.toArray 0)).push (seqObj "list" #[] 0)).get? a = some (seqObj "list" #[] e1) := by
  rwa [Heap.get?_push_ne _ _ _ (by rw [size_push', Heap.size_update]; exact Nat.ne_of_lt (Nat.lt_succ_of_lt la)), Heap.get?_push_ne _ _ _ (by rw [Heap.size_update]; exact Nat.ne_of_lt la)]
 refine wpAny_bind (listItems_at o0 rfl (wpAny_bind (listUpdate_at o0 rfl ?_ (by simpa using hz) (Nat.zero_le _))))
 refine wpAny_bind (seqEpoch_at o1 rfl (wpAny_bind (wpAny_newTuple (wpAny_bind (wpAny_newList (wpAny_holding ?_))))))
 have fit : ∀ xs : Array Keyed, xs.Perm (pairsOf vs) → (xs.map (·.2)).size ≤ sizeLine := fun xs p => Nat.le_trans (Nat.le_of_eq ((Array.size_map ..).trans (p.size_eq.trans (pairsOf_size vs)))) hz
 have fin : ∀ xs : Array Keyed, xs.Perm (pairsOf vs) → SortedTo xs (pairsOf vs).size → P (.done (.ret .none)) { s with heap := sortedHeap s.heap a vs (xs.map (·.2)) } := fun xs p so => by
  obtain ⟨ms, m1, m2, m3⟩ := sorted_out hI p so
  exact h _ ms m1 m2 m3
 by_cases c : vs.toArray.size < 2
 ·rw [if_pos c, if_pos c]
  refine wpAny_bind (wpAny_pure (wpAny_bind (wpAny_pure ?_)))
  refine wpAny_bind (seqEpoch_at o6 rfl (wpAny_bind (listUpdate_at o6 rfl ?_ (Nat.zero_le _) (Nat.le_succ_of_le (fit _ (Array.Perm.refl _))))))
  simp only [bne_self_eq_false, Bool.false_eq_true, if_false]
  refine wpAny_pure (fin (pairsOf vs) (Array.Perm.refl _) fun i j i1 i2 => ?_)
  have hl : vs.length < 2 := by simpa using c
  have : i = j := by rw [pairsOf_size] at i2; omega
  subst this
  exact Int.le_refl _
 ·rw [if_neg c, if_neg c]
  obtain ⟨x, y, r, rfl⟩ : ∃ x y r, vs = x :: y :: r := by
   cases vs with
   | nil => exact absurd (show 0 < 2 by decide) c
   | cons x r => cases r with
    | nil => exact absurd (show 1 < 2 by decide) c
    | cons y r => exact ⟨x, y, r, rfl⟩
  rw [keyKind_ints hI]
  refine wpAny_bind (wpAny_pure (wpAny_bind (wpAny_mono (zjh (a₀ := pairsOf (x :: y :: r)) (st := SortSt.mk' oneType' (pairsOf (x :: y :: r)) #[] 7 none)
   (Q := fun _ st' => (arrOf st').Perm (pairsOf (x :: y :: r)) ∧ failedOf st' = none ∧ SortedTo (arrOf st') (pairsOf (x :: y :: r)).size) hI.intKeys ⟨Array.Perm.refl _, rfl, rfl, rfl⟩ fun _ b1 b2 b3 => ⟨b1, b2, b3⟩) ?_ fun _ _ e => e)))
  rintro ⟨u, st'⟩ s' ⟨rfl, b1, b2, b3⟩
  refine wpAny_bind (seqEpoch_at o6 rfl (wpAny_bind (listUpdate_at o6 rfl ?_ (Nat.zero_le _) (Nat.le_succ_of_le (fit _ b1)))))
  rw [b2]
  simp only [bne_self_eq_false, Bool.false_eq_true, if_false]
  exact wpAny_pure (fin _ b1 b3)
theorem sorted_any {l : Addr} {vs : List Value} {ns : List Int} {Q : Value → Shared → Prop} (hl : s.heap.IsList l vs.toArray) (hI : IntsAre vs ns) (hz : vs.length ≤ sizeLine)
  (h : ∀ (out : Array Value) (ns' : List Int), IntsAre out.toList ns' → ns'.Perm ns → ns'.Pairwise (· ≤ ·) → Q (.ref (s.heap.objs.size + 1)) { s with heap := sortedAll s.heap vs out }) :
  wpAny (model prog w) A (call (.builtin "sorted") [.ref l]) Q E s := by
 have ez : ((s.heap.push (seqObj "list" #[] 0)).update s.heap.objs.size (Obj.mapSeq (· ++ vs.toArray))).objs.size = s.heap.objs.size + 1 := by rw [Heap.size_update, size_push']
 have oL : (((s.heap.push (seqObj "list" #[] 0)).update s.heap.objs.size (Obj.mapSeq (· ++ vs.toArray))).push (seqObj "list" vs.toArray 0)).get? (s.heap.objs.size + 1) = some (seqObj "list" vs.toArray 0) := by
  rw [← ez]; exact Heap.get?_push_size _ rfl
 refine Calls.call_function_entry kind_sorted plain_sorted entry_sorted (args_sorted1 _) (wpAny_bind (m := checkCount "sorted" 1 1 _) (wpAny_pure (wpAny_bind (collect_list hl ?_ hz))))
 refine wpAny_bind (wpAny_newList ?_)
 rw [ez]
 refine wpAny_bind (wpAny_holding (wpAny_call_entry slot_list_sort ⟨_, oL, rfl⟩ entry_list_sort (zry oL hI hz fun out ns' a1 a2 a3 => ⟨_, rfl, ?_⟩) (args_list_sort _)))
 exact wpAny_pure ⟨_, rfl, h out ns' a1 a2 a3⟩
end
end Srt
namespace L2
open PySem PySem.Spec PyProof.Rows
variable {X : Cx}
theorem zkn : zdh X (.builtin "sorted") (fun xs H Q => ∃ (p : Addr) (ns : List Int), xs = [.ref p] ∧ SqL X.K H p (ns.map V.int) ∧ ∀ ms : List Int, ms.Perm ns → ms.Pairwise (· ≤ ·) → ∀ l, H l = none → Q (.ref l) (upd H l (.lst (ms.map V.int)))) := by
 intro pins s σ H xs us Q I r h
 obtain ⟨p, ns, rfl, hq, q⟩ := h
 obtain ⟨u, rfl, rx⟩ := zen r
 cases rx
 obtain ⟨its, rv, pl, hz'⟩ := I.list hq
 have hlen := rv.length
 rw [List.length_map] at hlen hz'
 refine Srt.sorted_any pl.isList (ze3 rv) (by omega) fun out ms a1 a2 a3 => ?_
 obtain ⟨e, he⟩ := sortedAll_at s.heap its out
 have hm : ms.length = ns.length := a2.length_eq
 refine ⟨.ref (s.heap.objs.size + 1), _, I.laid (t' := s.toks) (fun b o => sortedAll_old) (Nat.le_succ _) (show ObjOk X.prog X.w _ _ _ (.lst (ms.map V.int)) from ⟨by rw [List.length_map, hm]; exact hz', out.toList, e, zha a1, he⟩), rfl, q ms a2 a3 _ (I.hok.fresh (Nat.le_succ _))⟩
end L2
set_option maxRecDepth 100000
set_option maxHeartbeats 4000000
namespace L2
open PySem PySem.Spec PyProof.Rows
section
variable {prog : Program} {w : World} {A : Around} {E : Value → Shared → Prop} {s : Shared}
end
end L2
namespace Wd
open PySem L2 Ow
end Wd
set_option maxRecDepth 100000
set_option maxHeartbeats 4000000
namespace Wd
open PySem L2 Ow
structure Bg where
 u : Nat
 lo : Int
 hi : Int
 ks : List Nat
def Bg.tie (b : Bg) : Tie := .bough b.u b.lo b.hi b.ks
end Wd
set_option maxRecDepth 100000
set_option maxHeartbeats 4000000
namespace L2
open PySem PySem.Spec PyProof.Rows
end L2
set_option maxRecDepth 100000
set_option maxHeartbeats 4000000
namespace Wd
open PySem L2 Ow
end Wd
set_option maxRecDepth 100000
set_option maxHeartbeats 4000000
namespace L2
open PySem PySem.Spec PyProof.Rows
section
variable {X : Cx}
end
end L2
set_option maxRecDepth 100000
set_option maxHeartbeats 4000000
namespace Wd
open PySem L2 Ow
theorem zrm {m : Nat} : ∀ {bs : List PyData}, (∀ b ∈ bs, zey m b = true) → ∃ L : List Bg, bs = L.map (fun b => b.tie.toD) ∧ ∀ b ∈ L, Tie.BoughOk m b.u b.lo b.hi b.ks
 | [], _ => ⟨[], rfl, fun _ h => nomatch h⟩
 | b :: bs, h => by
  obtain ⟨u, lo, hi, ks, e, ok⟩ := zlg (h b List.mem_cons_self)
  obtain ⟨L, e2, ok2⟩ := zrm fun x hx => h x (List.mem_cons_of_mem _ hx)
  refine ⟨⟨u, lo, hi, ks⟩ :: L, ?_, fun x hx => ?_⟩
  ·rw [e, e2]; rfl
  ·rcases List.mem_cons.mp hx with rfl | hx
   ·exact ok
   ·exact ok2 x hx
theorem zem {α β : Type} {g : α → β} {l : List α} {i : Nat} {x : α} (h : l[i]? = some x) : (l.take (i + 1)).map g = (l.take i).map g ++ [g x] := by
 rw [List.take_add_one, h, Option.toList_some, List.map_append]
 rfl
theorem zcx (A B : List Nat) : zak (A ++ B) = zak A ++ zak B := List.map_append
end Wd
namespace Wd
open PySem L2 Ow
end Wd
namespace Wd
open PySem L2 Ow
end Wd
set_option maxRecDepth 100000
set_option maxHeartbeats 4000000
namespace L2
open PySem PySem.Spec PyProof.Rows
section
variable {prog : Program} {w : World} {A : Around} {E : Value → Shared → Prop} {s : Shared}
end
section
variable {X : Cx} {pos : Pos}
end
section
variable {X : Cx}
def zsf : V → List V → Hp → VK → Prop := fun x vs H Q => ∃ (l : Addr) (xs : List V) (i : Int) (y : V), x = .ref l ∧ vs = [.int i, y] ∧ H l = some (.lst xs) ∧ 0 ≤ i ∧ i ≤ xs.length ∧ xs.length < sizeLine ∧ Q .non (upd H l (.lst (xs.take i.toNat ++ y :: xs.drop i.toNat)))
theorem zpx : MtM X "list.insert" zsf := by
 intro pins s σ H x vs v us Q I rx rv h
 obtain ⟨l, xs, i, y, rfl, rfl, hH, h0, hk, hz, q⟩ := h
 cases rx
 obtain ⟨u1, us1, rfl, r1, rr⟩ : ∃ u1 us1, us = u1 :: us1 ∧ RelV (.int i) u1 ∧ Vals [y] us1 := by
  cases rv with
  | cons a b => exact ⟨_, _, rfl, a, b⟩
 obtain ⟨u2, rfl, ru⟩ := rr.one
 obtain ⟨t, rfl⟩ := r1
 obtain ⟨z, its, n, r, hl, e⟩ := I.lstM hH
 have hsz : its.toArray.size ≤ sizeLine := by rw [List.size_toArray, ← hl]; exact z
 have b1 : -(2 ^ 63) ≤ i := Int.le_trans (by decide) h0
 have b2 : i < 2 ^ 63 := by
  have h63 : ((xs.length : Nat) : Int) < ((2 ^ 63 : Nat) : Int) := Int.ofNat_lt.mpr (Nat.lt_of_le_of_lt z zhd)
  exact Int.lt_of_le_of_lt hk h63
 have fit : ¬ (!Builtin.List.listFitsIndex i) = true := by
  rw [fitsIndex_both b1 b2]
  exact Bool.false_ne_true
 refine call_meets F.slot_list_insert ⟨_, e, rfl⟩ F.entry_list_insert (F.args_list_insert_3 _ _ _) (AutoListH.list_insert_list_int_val_1 l its.toArray n i t u2 fit hsz) ⟨e, ?_⟩
 have r2 : Vals (xs.take i.toNat ++ y :: xs.drop i.toNat) (its.take i.toNat ++ u2 :: its.drop i.toNat) := (r.take i.toNat).append (.cons ru (r.drop i.toNat))
 refine ⟨.non, _, I.lset (its' := its.take i.toNat ++ u2 :: its.drop i.toNat) hH e ?_ r2 ?_, rfl, q⟩
 ·have hn : ¬ (i < 0) := Int.not_lt.mpr h0
  have hm : i.toNat ≤ its.length := by omega
  simp [hn, Nat.min_eq_left hm]
  exact List.take_of_length_le (by rw [List.length_drop]; exact Nat.le_refl _)
 ·rw [List.length_append, List.length_cons, List.length_take, List.length_drop]
  omega
end
end L2
set_option maxRecDepth 100000
set_option maxHeartbeats 4000000
namespace Wd
open PySem L2 Ow
def zox (K : PySem.W.Frag) : Sp := fun vs H Q _ => ∃ (pen sp : Addr) (ns : List Int) (m : Nat) (k : Int), vs = [.ref pen, .int (m : Int)] ∧ Pen K H pen sp ns k ∧ 0 ≤ k ∧ k ≤ 900000 ∧ 1 ≤ m ∧ m ≤ 9 ∧
 ∀ (l : Addr) (bs : List PyData) (xs : List V) (k' : Int) (H' : Hp), SameX pen H H' → H' pen = some (.lst [.ref sp, .int k']) → k ≤ k' → k' ≤ k + 80 → H' l = some (.lst xs) → H l = none → DnL H' bs xs → zqy m bs → bs.length ≤ 8 → bs.all (zbh 3) = true → Q (.ref l) H'
end Wd
set_option maxRecDepth 100000
set_option maxHeartbeats 4000000
namespace Wd
open PySem L2 Ow
theorem _root_.Ow.GAt.ins {H0 H : Hp} {g l t : Addr} {pre post : List Grp} {u k : Int} (G : GAt H0 H g (pre ++ post)) (hf : H0 l = none) (hl : H l = none) (ht : upd H l (.lst [.int k]) t = none) :
  GAt H0 (upd (upd (upd H l (.lst [.int k])) t (.tup [.int u, .ref l])) g (.lst ((pre.map fun x => V.ref x.t) ++ V.ref t :: (post.map fun x => V.ref x.t)))) g (pre ++ ⟨t, u, l, [k]⟩ :: post) := by
 have A := GAt.add2 (u := u) (k := k) G hf hl ht
 have mem : ∀ x, x ∈ pre ++ ⟨t, u, l, [k]⟩ :: post ↔ x ∈ (pre ++ post) ++ [⟨t, u, l, [k]⟩] := fun x => by
  simp only [List.mem_append, List.mem_cons, List.not_mem_nil, or_false]
  constructor
  ·rintro (h | h | h)
   ·exact .inl (.inl h)
   ·exact .inr h
   ·exact .inl (.inr h)
  ·rintro ((h | h) | h)
   ·exact .inl h
   ·exact .inr (.inr h)
   ·exact .inr (.inl h)
 have other : ∀ (o o' : HO) (b : Addr), b ≠ g → (upd (upd (upd H l (.lst [.int k])) t (.tup [.int u, .ref l])) g o) b = (upd (upd (upd H l (.lst [.int k])) t (.tup [.int u, .ref l])) g o') b := fun o o' b n => by rw [zam n, zam n]
 refine ⟨?_, A.new, fun x hx => ?_, fun x hx => ?_, ?_⟩
 ·rw [zad, List.map_append]
  rfl
 ·have h := A.tup x ((mem x).mp hx)
  have n : x.t ≠ g := fun z => by rw [z, zad] at h; cases h
  rw [other _ _ _ n]
  exact h
 ·have h := A.lst x ((mem x).mp hx)
  refine ⟨?_, h.2⟩
  rw [other _ _ _ (Ne.symm h.2.2)]
  exact h.1
 ·have p : (pre ++ (⟨t, u, l, [k]⟩ : Grp) :: post).Perm ((pre ++ post) ++ [⟨t, u, l, [k]⟩]) := by
   rw [List.append_assoc]
   exact List.Perm.append_left _ (List.perm_append_singleton _ _).symm
  exact ((p.map (·.l)).nodup_iff).mpr A.nd
theorem _root_.Ow.GOk.ins {k : Nat} {pre post : List Grp} {t l : Addr} {u : Int} (G : GOk ((k : Int) + 1) (pre ++ post)) (u0 : 0 ≤ u) (u1 : u < (k : Int) + 1) : GOk ((k : Int) + 2) (pre ++ ⟨t, u, l, [(k : Int) + 1]⟩ :: post) := by
 have A := GOk.new (t := t) (l := l) G u0 u1
 have p : (pre ++ (⟨t, u, l, [(k : Int) + 1]⟩ : Grp) :: post).Perm ((pre ++ post) ++ [⟨t, u, l, [(k : Int) + 1]⟩]) := by
  rw [List.append_assoc]
  exact List.Perm.append_left _ (List.perm_append_singleton _ _).symm
 exact ⟨fun x hx => A.each x (p.mem_iff.mp hx), (List.Perm.flatMap_right _ p).trans A.perm⟩
theorem zi5 : SeqAt.shaped (.list []) = true := by decide
theorem zta : ∀ ds : List PyData, PyData.eqv (.list ds) (.list []) = decide (ds = [])
 | [] => by simp [PyData.eqv, PyData.eqvAll]
 | d :: ds => by simp [PyData.eqv, PyData.eqvAll]
end Wd
set_option maxRecDepth 100000
set_option maxHeartbeats 4000000
namespace HT
open PySem PySem.Spec PyProof.Rows
section
variable {prog : Program} {w : World} {A : Around} {E : Value → Shared → Prop} {s : Shared}
theorem tup_whole {t sl : Addr} {items : Array Value} {vl vu : Value} {lo hi : Option Int} {Q : Value → Shared → Prop} (ht : IsTup s.heap t items) (hs : s.heap.IsSliceOf sl vl vu .none) (pl : IsPart vl lo) (pu : IsPart vu hi)
  (h0 : sIx items.size 0 lo = 0) (h1 : sIx items.size items.size hi = items.size) (h : Q (.ref t) s) : wpAny (model prog w) A (getItem (.ref t) (.ref sl)) Q E s := by
 obtain ⟨os, hos, hcs, hds⟩ := id hs
 have hTs : s.TypeIs (.ref sl) "slice" := ⟨os, hos, hcs⟩
 unfold getItem
 refine wpAny_holding ?_
 refine wpAny_bind (wpAny_sequenceKey ht.typeIs (by decide) ?_)
 refine wpAny_bind (wpAny_callSpecial?_slot (name := Str.ofString "__getitem__") ht.typeIs PyProof.Rows.slot_tuple_getitem (wpAny_call_entry PyProof.Rows.slot_tuple_getitem ht.typeIs entry_tuple_getitem ?_ (args_tuple_getitem _ _)))
 show wpAny _ _ (Builtin.Tuple.tupleItemsOf (.ref t) >>= _) _ _ s
 refine wpAny_bind (tupleItemsOf_ ht ?_)
 refine wpAny_bind (wpAny_typeOf hTs ?_)
 rw [if_pos (by decide)]
 refine wpAny_bind (zev hs pl pu ?_)
 have hyes : (((sIx items.size 0 lo : Nat) : Int) == 0 && (1 : Int) == 1 && (sIx items.size items.size hi - sIx items.size 0 lo) == items.size) = true := by
  rw [h0, h1, Nat.sub_zero]
  simp
 show wpAny _ _ (if (((sIx items.size 0 lo : Nat) : Int) == 0 && (1 : Int) == 1 && (sIx items.size items.size hi - sIx items.size 0 lo) == items.size) = true then _ else _) _ _ s
 rw [if_pos hyes]
 refine wpAny_bind (wpAny_bind (wpAny_typeOf ht.typeIs (wpAny_pure ?_)))
 show wpAny _ _ (if (Value.type "tuple" == Value.type "tuple") = true then _ else _) _ _ s
 rw [if_pos (by decide)]
 refine wpAny_bind (wpAny_rule ?_)
 exact wpAny_pure ⟨_, rfl, wpAny_pure h⟩
end
end HT
namespace HT
open PySem PySem.Spec PyProof.Rows
section
variable {prog : Program} {w : World} {A : Around} {E : Value → Shared → Prop} {s : Shared}
end
end HT
namespace L2
open PySem PySem.Spec PyProof.Rows
section
variable {X : Cx} {e st : Expr} {te tst : TE} {pos p2 : Pos}
theorem zn1 : SlR X (fun x lo hi H Q => ∃ a xs, x = .ref a ∧ H a = some (.tup xs) ∧ ∀ p H', Same H H' → H' p = some (.tup (zji xs lo hi)) → Q (.ref p) H') := by
 intro pins s σ H x v vl vu lo hi sl Q I rx hs pl pu h
 obtain ⟨a, xs, rfl, hx, q⟩ := h
 by_cases hw : HT.sIx xs.length 0 lo = 0 ∧ HT.sIx xs.length xs.length hi = xs.length
 ·cases rx
  obtain ⟨its, r, ht, hz⟩ := I.tuple (.inl (.inl hx))
  have hlen : its.toArray.size = xs.length := by rw [List.size_toArray]; exact r.length.symm
  refine ⟨"tuple", _, PyProof.Rows.slot_tuple_getitem.lookup, ht.typeIs, ?_⟩
  refine HT.tup_whole ht hs pl pu (by rw [hlen]; exact hw.1) (by rw [hlen]; exact hw.2) ⟨.ref a, H, I, rfl, q a H (Same.refl H) ?_⟩
  rw [hx]
  unfold zji
  rw [hw.1, hw.2, List.drop_zero, Nat.sub_zero, List.take_length]
 ·exact ztx pins s σ H _ v vl vu lo hi sl Q I rx hs pl pu ⟨a, xs, rfl, .inl (.inl hx), hw, fun p hp => q p _ (zg0 fun b o e => by rw [zam (zav e hp)]; exact e) zad⟩
theorem zgo (hu : X.A.units + 64 < cLine) : OpR X (compareOp .Eq) (fun x y H Q => ∃ d e : PyData, Dn H d x ∧ Dn H e y ∧ SeqAt.shaped d = true ∧ SeqAt.shaped e = true ∧ Q (.bl (PyData.eqv d e)) H) := by
 intro pins s σ H x y v u Q I rx ry h
 obtain ⟨d, e, hd, he, sd, se, q⟩ := h
 obtain ⟨as, ra⟩ := Dn.reads I d x v hd (SeqAt.canLay_of_shaped sd) rx
 obtain ⟨bs, rb⟩ := Dn.reads I e y u he (SeqAt.canLay_of_shaped se) ry
 exact SeqAt.compareEq_shaped ra rb sd se hu ⟨.bl _, H, I, rfl, q⟩
end
end L2
namespace L2
open PySem PySem.Spec PyProof.Rows
section
variable {X : Cx}
end
end L2
namespace Wd
open PySem L2 Ow
mutual
theorem zp4 : ∀ (n : Nat) (d : PyData), zbh n d = true → PyData.canLay0 d = true ∧ PyData.depth d ≤ n + 1
 | _, .int i, _ => ⟨by simp [PyData.canLay0], by simp only [PyData.depth]; omega⟩
 | n, .str s, h => ⟨by cases n <;> simpa [PyData.canLay0] using (show PyData.strOk s = true from h), by simp only [PyData.depth]; omega⟩
 | n + 1, .tuple ds, h => by
  have z : (decide (ds.length ≤ 1000) && ds.all (zbh n)) = true := h
  rw [Bool.and_eq_true] at z
  obtain ⟨a, b⟩ := zfv n ds z.2
  exact ⟨by simpa [PyData.canLay0] using a, by simp only [PyData.depth]; omega⟩
 | 0, .tuple _, h => by cases h
 | 0, .none, h => by cases h
 | n + 1, .none, h => by cases h
 | 0, .bool _, h => by cases h
 | n + 1, .bool _, h => by cases h
 | 0, .list _, h => by cases h
 | n + 1, .list _, h => by cases h
 | 0, .dict _, h => by cases h
 | n + 1, .dict _, h => by cases h
theorem zfv : ∀ (n : Nat) (ds : List PyData), ds.all (zbh n) = true → PyData.canLayAll0 ds = true ∧ PyData.depthAll ds ≤ n + 1
 | _, [], _ => ⟨by simp [PyData.canLayAll0], by simp only [PyData.depthAll]; omega⟩
 | n, d :: ds, h => by
  rw [List.all_cons, Bool.and_eq_true] at h
  obtain ⟨a1, b1⟩ := zp4 n d h.1
  obtain ⟨a2, b2⟩ := zfv n ds h.2
  exact ⟨by simp [PyData.canLayAll0, a1, a2], by simp only [PyData.depthAll]; omega⟩
end
theorem zp9 (xs : List V) (t : Nat) (h : t ≤ xs.length) : zji xs none (some (t : Int)) = xs.take t := by
 unfold zji
 rw [HT.sIx_nat, HT.sIx_none, Nat.min_eq_left h, List.drop_zero, Nat.sub_zero]
theorem zq9 (xs : List V) (t : Nat) (h : t ≤ xs.length) : zji xs (some (t : Int)) none = xs.drop t := by
 unfold zji
 rw [HT.sIx_nat, HT.sIx_none, Nat.min_eq_left h, List.take_of_length_le]
 rw [List.length_drop]
 exact Nat.le_refl _
end Wd
set_option maxRecDepth 100000
set_option maxHeartbeats 4000000
namespace Wd
open PySem L2 Ow
end Wd
set_option maxRecDepth 100000
set_option maxHeartbeats 4000000
namespace Wd
open PySem L2 Ow
end Wd
set_option maxRecDepth 100000
set_option maxHeartbeats 4000000
namespace Wd
open PySem L2 Ow
end Wd
set_option maxRecDepth 100000
set_option maxHeartbeats 4000000
namespace L2
open PySem PySem.Spec PyProof.Rows
section
variable {κ : Type} [DecidableEq κ]
end
section
variable {P : Program} {w : World} {H : Hp} {h : Heap} {a : Addr}
end
section
variable {X : Cx} {pins : List (Addr × Obj)} {σ : St} {H : Hp} {s : Shared} {a : Addr} {y v : V} {u r : Value} {o : Option V} {A : Around} {E : Value → Shared → Prop}
end
section
variable {X : Cx} {pins : List (Addr × Obj)} {σ : St} {H : Hp} {s : Shared} {a : Addr} {kvs : List (Key × V)} {k : Key} {u : Value} {A : Around} {E : Value → Shared → Prop}
end
section
variable {X : Cx} {o i e value : Expr} {pos pos' tpos : Pos} {td ty tv : TE}
end
section
variable {X : Cx} {pos : Pos}
end
section
variable {X : Cx} {pins : List (Addr × Obj)} {σ : St} {H : Hp} {s : Shared} {a : Addr} {y d : V} {u r : Value} {o : Option V} {A : Around} {E : Value → Shared → Prop}
end
section
variable {X : Cx} {o e f : Expr} {apos cpos : Pos} {td ty tx : TE}
end
section
variable {X : Cx} {pins : List (Addr × Obj)} {σ : St} {H : Hp} {s : Shared} {a : Addr} {kvs : List (Key × V)} {A : Around} {E : Value → Shared → Prop}
end
section
variable {X : Cx} {pins : List (Addr × Obj)} {σ : St} {H : Hp} {s : Shared} {a : Addr} {y : V} {u : Value} {A : Around} {E : Value → Shared → Prop}
end
end L2
namespace L2
open PySem PySem.Spec PyProof.Rows
section
variable {X : Cx}
end
section
variable {κ : Type} [DecidableEq κ]
end
end L2
set_option maxRecDepth 100000
set_option maxHeartbeats 4000000
namespace L2
open PySem PySem.Spec
@[irreducible] def PEi (X : Cx) (e : Expr) (t : TE) : Prop := PE X e t
@[irreducible] def PSi (X : Cx) (e : Stmt) (t : TS) : Prop := PS X e t
@[irreducible] def PLi (X : Cx) (l : List Stmt) (t : TS) : Prop := PSs X l t
end L2
namespace Wd
open PySem L2 Ow
end Wd
set_option maxRecDepth 100000
set_option maxHeartbeats 4000000
namespace Wd
open PySem L2 Ow
end Wd
set_option maxRecDepth 100000
set_option maxHeartbeats 4000000
namespace L2
open PySem PySem.Spec PyProof.Rows
end L2
namespace Wd
open PySem L2 Ow
end Wd
set_option maxRecDepth 100000
set_option maxHeartbeats 4000000
namespace Wd
open PySem L2 Ow
section
variable {t1 t2 : List Tie} {m f y n : Nat}
end
end Wd
set_option maxRecDepth 100000
set_option maxHeartbeats 4000000
namespace L2
open PySem PySem.Spec PyProof.Rows
end L2
namespace Wd
open PySem L2 Ow
theorem zda {H H1 H2 : Hp} (a : zh9 H H1) (b : zh9 H1 H2) : zh9 H H2 := fun c xs h => b c xs (a c xs h)
end Wd
set_option maxRecDepth 100000
set_option maxHeartbeats 4000000
namespace L2
open PySem PySem.Spec PyProof.Rows
abbrev znh : List Value := [.type "ValueError", .type "Exception", .type "BaseException", .type "object"]
abbrev zl5 : String := "ValueError.__new__"
structure XCls (h : Heap) (C : Addr) (bm : List Value) : Prop where
 ex : ∃ N nm qn bs hd sn sub ab col dd k0 k1 k2 k3 k5 mN, h.get? C = some (excClassObj nm qn C N bs bm hd sn sub ab col dd k0 k1 k2 k3 k5 zl5) ∧ h.Ns N mN ∧ mN "__init__" = none ∧ OwnTail h znh bm
theorem XCls.mk' {K : PySem.W.Frag} {h : Heap} {C : Addr} (X : K.In h) (q : PySem.W.excIn K C znh zl5 = true) : ∃ bm, XCls h C bm := by
 unfold PySem.W.excIn at q
 split at q
 case h_2 => cases q
 case h_1 od cd sl hl =>
  split at q
  case h_2 => cases q
  case h_1 C2 bm a0 a1 a2 a3 nw a5 hm hs =>
   rw [Bool.and_eq_true, Bool.and_eq_true, Bool.and_eq_true, Bool.and_eq_true, Bool.and_eq_true, beq_iff_eq, beq_iff_eq, beq_iff_eq, Bool.not_eq_true'] at q
   obtain ⟨⟨⟨⟨⟨q1, q2⟩, q3⟩, q4⟩, q5⟩, q6⟩ := q
   subst q1 q2
   obtain ⟨f1, f2, f3, f4, f5, f6, f7, f8, f9, fa, fb⟩ := cd
   replace hm : f3 = .ref C2 :: bm := hm
   replace q3 : fb = false := q3
   subst hm q3
   obtain ⟨ls⟩ := sl
   replace hs : ls = [a0, a1, a2, a3, some (.builtin zl5), a5] := hs
   subst hs
   exact ⟨bm, ⟨_, _, _, _, _, _, _, _, _, _, _, _, _, _, _, _, X _ _ hl, .of_isNs (PySem.W.isNs_of_in X q5), PySem.W.nsMap_none_of_in X q5 q6, PySem.W.tail_of_in X q4⟩⟩
theorem zm9 {M : Model} {A : Around} {E : Value → Shared → Prop} {s : Shared} {C D e : Addr} {bC bD : List Value} {oe : Obj} {Q : Bool → Shared → Prop} (xC : XCls s.heap C bC) (xD : XCls s.heap D bD)
  (he : s.heap.get? e = some oe) (hcls : oe.cls = .ref D) (hin : (Value.ref D :: bD).contains (.ref C) = true) (hq : Q true s) : wpAny M A (excMatches (.ref e) (.ref C)) Q E s := by
 obtain ⟨N, nm, qn, bs, hd, sn, sub, ab, col, dd, k0, k1, k2, k3, k5, mN, hC, _, _, tC⟩ := xC.ex
 obtain ⟨N', nm', qn', bs', hd', sn', sub', ab', col', dd', k0', k1', k2', k3', k5', mN', hD, _, _, tD⟩ := xD.ex
 obtain ⟨h, g, d, t, os⟩ := s
 have hB : (Value.ref C :: bC).contains (.type "BaseException") = true := by rw [List.contains_cons, tC.hasType (b := true) (by decide), Bool.or_true]
 have f := tc_notTuple
 unfold excMatches
 repeat (first | (with_reducible refine wpAny_loadPart_at he ?_; rw [hcls]) | with_reducible refine wpAny_loadPart_at hC ?_ | (with_reducible refine wpAny_isSubtype_exc hC ?_; rw [hB]) | (with_reducible refine wpAny_isSubtype_exc hD ?_; rw [hin]) | wp_step)
 exact hq
section
variable {X : Cx} {pins : List (Addr × Obj)} {σ : St} {H H' : Hp} {s s' : Shared} {h2 : Heap}
theorem zob {h h' : Heap} {c : Addr} {v : Option Value} (u : h.UpToSlots h') (x : h.IsCell c v) : h'.IsCell c v := by
 obtain ⟨o, e, d⟩ := x
 obtain ⟨sl, e'⟩ := u c o e fun vs q => by rw [d] at q; cases q
 exact ⟨_, e', d⟩
theorem Inv.upto (I0 : Inv X pins σ H s) (I1 : Inv X pins σ H' s') (k : ∀ b o, s'.heap.get? b = some o → b ∉ frs X.stack → (H' b ≠ none ∨ ∃ u, s.heap.get? b = some u) → h2.get? b = some o) (u : s'.heap.UpToSlots h2) : Inv X pins σ H' { s' with heap := h2 } where
 ok := I1.ok
 os := I1.os
 bare := I1.bare
 base := by
  have nst : ∀ b o, X.s₀.heap.get? b = some o → b ∉ X.fs → b ∉ frs X.stack := fun b o e n z => by
   rcases List.mem_cons.mp (I1.stkSub b z) with r | r
   ·have h1 := Heap.lt_size e
    have h2 := I1.ok.above
    rw [r] at h1
    exact absurd (Nat.lt_of_lt_of_le h1 h2) (Nat.lt_irrefl _)
   ·exact n r
  refine ⟨fun b o e n hf hx => ?_, fun b o e n hf hx => ?_, I1.base.free, fun b o e hx => ?_, I1.base.tups, I1.base.frzs, I1.base.tbls⟩
  ·exact k b o (I1.base.keep b o e n hf hx) (nst b o e hf) (.inr ⟨_, I0.base.keep b o e n hf hx⟩)
  ·obtain ⟨sl, e1⟩ := I1.base.slot b o e n hf hx
   obtain ⟨_, o2, e2, d2⟩ := I1.funs.mem hf
   rw [e1] at e2
   cases e2
   obtain ⟨sl', e3⟩ := u b _ e1 d2
   exact ⟨sl', e3⟩
  ·obtain ⟨o1, e1⟩ := I1.base.there b o e hx
   by_cases hb : b ∈ frs X.stack
   ·obtain ⟨_, o2, e2, d2⟩ := I1.stack.mem hb
    obtain ⟨sl, e3⟩ := u b o2 e2 d2
    exact ⟨_, e3⟩
   ·obtain ⟨o0, e0⟩ := I0.base.there b o e hx
    exact ⟨o1, k b o1 e1 hb (.inr ⟨_, e0⟩)⟩
 loc := by
  obtain ⟨m, hn, hl⟩ := I1.loc
  refine ⟨m, u.ns hn, fun i x v h1 h2 h3 => ?_⟩
  obtain ⟨w, r, l⟩ := hl i x v h1 h2 h3
  refine ⟨w, r, ?_⟩
  rcases l with l | ⟨l, c, h4, h5⟩
  ·exact .inl l
  ·exact .inr ⟨l, c, h4, zob u h5⟩
 cell := fun x c e => let ⟨v, h⟩ := I1.cell x c e; ⟨v, zob u h⟩
 free := I1.free
 freeC := I1.freeC
 pin := fun p hp => by
  obtain ⟨h1, h2, h3, h4, h5⟩ := I1.pin p hp
  have nst : p.1 ∉ frs X.stack := fun z => by
   rcases List.mem_cons.mp (I1.stkSub _ z) with r | r
   ·exact h3 r
   ·exact h4 r
  exact ⟨k _ _ h1 nst (.inr ⟨_, (I0.pin p hp).1⟩), h2, h3, h4, h5⟩
 hok := fun a o e => by
  refine (I1.hok a o e).stay (fun b w hb q => ?_) (fun _ q => q) fun _ _ q => q
  have hn : H' b ≠ none := by
   rcases hb with rfl | hb
   ·rw [e]; exact Option.some_ne_none _
   ·rw [hb]; exact Option.some_ne_none _
  exact k b w q (fun z => hn (I1.stkFree b z)) (.inl hn)
 len := I1.len
end
def CXR (P : Program) (w : World) : CXT := fun outer H s E e s' => ∃ (ea D : Addr) (a0 : Value) (H' : Hp) (B : Heap), e = .ref ea ∧ s'.os = s.os ∧ AllBare s'.gens ∧ Un (frs outer) [] H H' s.heap s'.heap ∧ HOk P w H' s'.heap ∧
 Heap.FlyingW B outer ea (.ref D) a0 s'.heap ∧ (∀ b o, s'.heap.get? b = some o → b ∉ frs outer → (H' b ≠ none ∨ ∃ u, s.heap.get? b = some u) → B.get? b = some o) ∧ H' ea = none ∧ E (.ref D) none H'
theorem zt2 {P : Program} {w : World} {H : Hp} {h : Heap} {a : Addr} {o : HO} (x : ObjOk P w H h a o) : ∃ u, h.get? a = some u := by
 cases o with
 | lst xs => obtain ⟨_, _, _, _, e⟩ := x; exact ⟨_, e⟩
 | tup xs => obtain ⟨_, _, _, ob, e, _⟩ := x; exact ⟨_, e⟩
 | dK kvs => obtain ⟨_, _, _, _, ob, _, _, e, _⟩ := x; exact ⟨_, e⟩
 | dT kvs => obtain ⟨_, _, _, _, ob, _, _, e, _⟩ := x; exact ⟨_, e⟩
 | set S n => obtain ⟨ob, _, _, _, e, _⟩ := x; exact ⟨_, e⟩
 | ins C dx fs => obtain ⟨_, _, _, e, _⟩ := x; exact ⟨_, e⟩
 | own y => exact x
 | xd fs => obtain ⟨_, ⟨_, _, _, e, _⟩, _⟩ := x; exact ⟨_, e⟩
 | rng lo hi => obtain ⟨_, _, _, e⟩ := x; exact ⟨_, e⟩
 | frz ob u => obtain ⟨e, _⟩ := x; exact ⟨_, e⟩
 | tbl ps => exact ⟨_, (show h.get? a = some _ from x)⟩
 | met f y => exact ⟨_, (show h.get? a = some _ from x)⟩
 | ext φ => obtain ⟨_, e, _⟩ := x; exact e
theorem zs5 {l : List Env} : ∀ env ∈ l, ∀ b, env.frame = some b → b ∈ frs l := fun env he b hb => List.mem_filterMap.mpr ⟨env, he, hb⟩
theorem zse {P : Program} {w : World} {K : PySem.W.Frag} {mg : Str → Option Value} {base : Heap} {N : List Str} {qual : Str} {scope : Scope} {f : Addr} {cd : Value} {A : Around} {outer : List Env} {s0 : Shared} {H0 : Hp} {E : XK}
  {pins : List (Addr × Obj)} {σ : St} {H : Hp} {s : Shared} (I : Inv (zd5 (CXR P w) P w K mg base N qual scope f cd A outer s0 H0 E) pins σ H s) {h1 : Heap} {e D : Addr} {vs : List Value} (hx : Heap.MadeExcOf s.heap h1 e (.ref D) vs) (hE : E (.ref D) none H) :
  (zd5 (CXR P w) P w K mg base N qual scope f cd A outer s0 H0 E).xe (.ref e) { s with heap := h1 } := by
 have nst : ∀ b o, s0.heap.get? b = some o → b ∉ frs outer → b ∉ frs (envOfC qual scope s0.heap.objs.size f cd :: outer) := fun b o e n z => by
  rcases List.mem_cons.mp (I.stkSub b z) with r | r
  ·have h1 := Heap.lt_size e
   rw [r] at h1
   exact absurd h1 (Nat.lt_irrefl _)
  ·exact n r
 have hB : ∀ b o, s.heap.get? b = some o → b ∉ frs (envOfC qual scope s0.heap.objs.size f cd :: outer) → (PySem.W.hideAll s.heap (frs (envOfC qual scope s0.heap.objs.size f cd :: outer))).get? b = some o := fun b o e n => PySem.W.hideAll_get _ e n
 refine wpAny_leaves_madeW (base := PySem.W.hideAll s.heap (frs (envOfC qual scope s0.heap.objs.size f cd :: outer))) (h := s.heap) (L := s0.heap.objs.size) I.ok.frames rfl (fun b o q => PySem.W.of_hideAll _ q) (PySem.W.funFrames_hide I.stack zs5) hx fun h2 t x1 x2 x3 x4 => ?_
 have tr : ∀ b o, H b = some o → ∃ u, s.heap.get? b = some u ∧ (PySem.W.hideAll s.heap (frs (envOfC qual scope s0.heap.objs.size f cd :: outer))).get? b = some u := fun b o q => by
  obtain ⟨u, hu⟩ := zt2 (I.hok b o q)
  exact ⟨u, hu, hB b u hu fun z => by have := I.stkFree b z; rw [q] at this; cases this⟩
 refine ⟨e, D, .ref t, H, _, rfl, I.os, I.bare, ⟨fun b o q n hf hx => ?_, fun b o q n hf hx' => ?_, fun b o q n hx => I.base.free b o q n hx, fun b o q hx' => ?_, I.base.tups, I.base.frzs, I.base.tbls⟩, fun a o q => ?_, x1, fun b o q hf hb => ?_, ?_, hE⟩
 ·exact x1.1 _ _ (hB b o (I.base.keep b o q n hf hx) (nst b o q hf))
 ·obtain ⟨sl, e1⟩ := I.base.slot b o q n hf hx'
  obtain ⟨_, o2, e2, d2⟩ := I.funs.mem hf
  rw [e1] at e2
  cases e2
  obtain ⟨sl', e3⟩ := x4 b _ (hx.keeps _ _ e1) d2
  exact ⟨sl', e3⟩
 ·obtain ⟨o1, e1⟩ := I.base.there b o q hx'
  by_cases hb : b ∈ frs (envOfC qual scope s0.heap.objs.size f cd :: outer)
  ·obtain ⟨_, o2, e2, d2⟩ := I.stack.mem hb
   obtain ⟨sl, e3⟩ := x4 b o2 (hx.keeps _ _ e2) d2
   exact ⟨_, e3⟩
  ·exact ⟨o1, x1.1 _ _ (hB b o1 e1 hb)⟩
 ·refine (I.hok a o q).stay (fun b u hb r => ?_) (fun _ r => r) fun _ _ r => r
  have hn : b ∉ frs (envOfC qual scope s0.heap.objs.size f cd :: outer) := fun z => by
   have fr := I.stkFree b z
   rcases hb with rfl | hb
   ·rw [q] at fr; cases fr
   ·rw [hb] at fr; cases fr
  exact x1.1 _ _ (hB b u r hn)
 ·rcases hb with hb | ⟨u, hu⟩
  ·cases hq : H b with
   | none => exact absurd hq hb
   | some ho =>
    obtain ⟨u, _, h2'⟩ := tr b ho hq
    have := x1.1 _ _ h2'
    rw [q] at this
    cases this
    exact h2'
  ·obtain ⟨o1, e1⟩ := I.base.there b u hu (by intro z; cases z)
   have h2' := hB b o1 e1 (nst b u hu hf)
   have := x1.1 _ _ h2'
   rw [q] at this
   cases this
   exact h2'
 ·cases hq : H e with
  | none => rfl
  | some ho =>
   obtain ⟨u, hu, _⟩ := tr e ho hq
   rw [hx.new] at hu
   cases hu
theorem Fun.okR {P : Program} {w : World} {K : PySem.W.Frag} {mg : Str → Option Value} {base : Heap} {x qual : Str} {st : Stmt} {f : Addr} {fd : FuncData} {N ps : List Str} {k : Nat} {sp : Sp} (F : Fun K x qual st f fd) (S : zay N ps (zab st)) (len : ∀ vs H Q E, sp vs H Q E → vs.length = ps.length)
  (hb : ∀ (cdv : Value) (A : Around) (outer : List Env) (s : Shared) (H : Hp) (vs : List V) (Q : VK) (E : XK), Room k (A.deeper (envOfC qual (zab st) s.heap.objs.size f cdv)) → sp vs H Q E →
   ∃ t, PSs (zd5 (CXR P w) P w K mg base N qual (zab st) f cdv A outer s H E) (zai st) t ∧ t { nx := fun _ H' => Q .non H', rt := Q } (zgf N vs) H) : zbi P w K mg base (CXR P w) (k + 1) f fd ps sp := by
 obtain ⟨_, _, _, _, _, _, cdv, _, _, rfl, lk, hcd⟩ := F.ex
 refine zrd lk hcd S len fun A outer s H vs Q E hr hsp => ?_
 exact hb cdv A outer s H vs Q E hr hsp
def zts (D : Addr) (W : XK) (t : TA) : TS := fun _ σ H => t σ H fun vs H1 => vs.length ≤ 1000 ∧ W (.ref D) none H1
theorem zr2 {X : Cx} {x : Str} {D : Addr} {np cpos pos : Pos} {e : Expr} {es : List Expr} {ta : TA} {W : XK} (hc : X.calm = true) (hg : Gl X x) (hm : X.mg x = some (.ref D)) (hD : PySem.W.excIn X.K D znh zl5 = true) (ha : PA X (e :: es) ta)
  (hxe : ∀ (pins : List (Addr × Obj)) (σ : St) (H : Hp) (s : Shared) (h1 : Heap) (ea : Addr) (vs : List Value), Inv X pins σ H s → Heap.MadeExcOf s.heap h1 ea (.ref D) vs → W (.ref D) none H → X.xe (.ref ea) { s with heap := h1 })
  (he : starEach (e :: es) X.env = (false, eval e X.env) :: starEach es X.env := by rfl) (hplain : (backTo cpos (starEach es X.env)).any (·.1) = false := by rfl) (hd : (x == ("__debug__" : Str)) = false := by decide) :
  PS X (.Raise (some (.Call (.Name x np) (e :: es) [] cpos)) none pos) (zts D W ta) := by
 intro pins s σ H Dn I h
 obtain ⟨bm, xc⟩ := XCls.mk' I.mod.kin hD
 obtain ⟨N, nm, qn, bs, hdd, sn, sub, ab, col, dd, k0, k1, k2, k3, k5, mN, eC, eN, ei, eT⟩ := xc.ex
 have hs := ha cpos pins s σ H _ I h
 refine wpAny_Raise_call_subT (C := D) (nm := nm) (q := qn) (N := N) (bs := bs) (bm := bm) (hdct := hdd) (sn := sn) (sub := sub) (ab := ab) (col := col) (dd := dd) (k0 := k0) (k1 := k1) (k2 := k2) (k3 := k3) (k5 := k5) PySem.F.excBase_ValueError (mN := mN) (eT.hasType (b := true) (by decide)) (I.ok.hd hc)
  (by rw [he]; show (false || (backTo cpos (starEach es X.env)).any (·.1)) = false; rw [hplain]; rfl) ei (zhy I hg hm ⟨rfl, ?_⟩ hd)
 rw [he] at hs ⊢
 refine Calls.evalArgs_plain (wpAny_mono hs (fun us s2 ⟨vs, H1, I1, r, q1, q2⟩ => ?_) fun _ _ z => z)
 refine ⟨rfl, ?_, I1.bk _ _ eC, eN.keeps I1.bk, eT.keeps I1.bk, fun h1 ea hx => hxe pins σ H1 s2 h1 ea _ I1 hx q2⟩
 rw [← r.length]
 exact Nat.le_of_lt (zcg q1)
section
variable {X : Cx} {pins : List (Addr × Obj)} {σ : St} {H H' : Hp} {s s' : Shared} {h2 : Heap}
def XE (X : Cx) (pins : List (Addr × Obj)) (W : XK) : Value → Shared → Prop := fun e s' => ∃ (σ : St) (H : Hp) (s : Shared) (H' : Hp) (ea D : Addr) (a0 : Value) (B : Heap), e = .ref ea ∧ Inv X pins σ H s ∧ Inv X pins σ H' s' ∧ Heap.FlyingW B X.stack ea (.ref D) a0 s'.heap ∧
 (∀ b o, s'.heap.get? b = some o → b ∉ frs X.stack → (H' b ≠ none ∨ ∃ u, s.heap.get? b = some u) → B.get? b = some o) ∧ H' ea = none ∧ W (.ref D) none H'
abbrev Cx.tryX (X : Cx) (pins : List (Addr × Obj)) (W : XK) : Cx := { X with pn := X.pn ++ pins, xe := XE X pins W }
abbrev Cx.markX (X : Cx) (ea : Addr) : Cx := { X with A := X.A.mark (some (.ref ea)), calm := false, xe := fun _ _ => False }
theorem Inv.toTry (I : Inv X pins σ H s) (W : XK) : Inv (X.tryX pins W) [] σ H s :=
 ⟨⟨I.ok.mod, I.ok.kind, I.ok.glob, I.ok.blt, I.ok.above, I.ok.inj, I.ok.has, I.ok.cab, I.ok.hd, I.ok.frames, I.ok.stk, I.ok.exf, I.ok.bs, I.ok.bsz, I.ok.noex, I.ok.exfs, I.ok.funs, I.ok.frf⟩, I.os, I.bare, I.base, I.loc, I.cell, I.free, I.freeC, fun p hp => I.pin p (by rw [List.append_nil] at hp; exact hp), I.hok, I.len⟩
theorem Inv.ofTry {W : XK} {pins' : List (Addr × Obj)} (I : Inv (X.tryX pins W) pins' σ H s) : Inv X pins σ H s :=
 ⟨⟨I.ok.mod, I.ok.kind, I.ok.glob, I.ok.blt, I.ok.above, I.ok.inj, I.ok.has, I.ok.cab, I.ok.hd, I.ok.frames, I.ok.stk, I.ok.exf, I.ok.bs, I.ok.bsz, I.ok.noex, I.ok.exfs, I.ok.funs, I.ok.frf⟩, I.os, I.bare, I.base, I.loc, I.cell, I.free, I.freeC, fun p hp => I.pin p (List.mem_append_left _ hp), I.hok, I.len⟩
theorem Inv.toMark (I : Inv X pins σ H s) (ea : Addr) : Inv (X.markX ea) pins σ H s :=
 ⟨⟨I.ok.mod, I.ok.kind, I.ok.glob, I.ok.blt, I.ok.above, I.ok.inj, I.ok.has, I.ok.cab, fun z => (by cases z), I.ok.frames, I.ok.stk, I.ok.exf, I.ok.bs, I.ok.bsz, I.ok.noex, I.ok.exfs, I.ok.funs, I.ok.frf⟩, I.os, I.bare, I.base, I.loc, I.cell, I.free, I.freeC, I.pin, I.hok, I.len⟩
theorem Inv.ofMark {ea : Addr} (I : Inv (X.markX ea) pins σ H s) (hd : X.calm = true → X.A.handled = none) : Inv X pins σ H s :=
 ⟨⟨I.ok.mod, I.ok.kind, I.ok.glob, I.ok.blt, I.ok.above, I.ok.inj, I.ok.has, I.ok.cab, hd, I.ok.frames, I.ok.stk, I.ok.exf, I.ok.bs, I.ok.bsz, I.ok.noex, I.ok.exfs, I.ok.funs, I.ok.frf⟩, I.os, I.bare, I.base, I.loc, I.cell, I.free, I.freeC, I.pin, I.hok, I.len⟩
theorem SP.ofTry {W : XK} {D : zis} {f : Flow} (h : SP (X.tryX pins W) [] D f s') : SP X pins D f s' := by
 cases f with
 | next => obtain ⟨a, b, I, q⟩ := h; exact ⟨a, b, I.ofTry, q⟩
 | brk => obtain ⟨a, b, I, q⟩ := h; exact ⟨a, b, I.ofTry, q⟩
 | cont => obtain ⟨a, b, I, q⟩ := h; exact ⟨a, b, I.ofTry, q⟩
 | ret u => obtain ⟨v, a, b, I, r, q⟩ := h; exact ⟨v, a, b, I.ofTry, r, q⟩
theorem zvs {W : XK} : zk2 (CXR X.prog X.w) (X.tryX pins W) W := fun pins' σ H s e s' I h => by
 obtain ⟨ea, D, a0, H', B, rfl, os, bare, un, hok, fl, kB, hn, hW⟩ := h
 exact ⟨σ, H, s, H', ea, D, a0, B, rfl, I.ofTry, I.ofTry.call' os un hok bare (fun b z => by cases z), fl, kB, hn, hW⟩
end
def zrk (K : PySem.W.Frag) (D C : Addr) : Bool := match K.lookup D with
 | some ⟨_, _, .cls cd, _⟩ => cd.mro.contains (.ref C)
 | _ => false
theorem zsa {K : PySem.W.Frag} {h : Heap} {D C : Addr} {bD : List Value} (X : K.In h) (x : XCls h D bD) (q : zrk K D C = true) : (Value.ref D :: bD).contains (.ref C) = true := by
 unfold zrk at q
 split at q
 case h_2 => cases q
 case h_1 oc od cd sl hl =>
  obtain ⟨_, _, _, _, _, _, _, _, _, _, _, _, _, _, _, _, e, _⟩ := x.ex
  have := X _ _ hl
  rw [e] at this
  cases this
  exact q
end L2
set_option maxRecDepth 100000
set_option maxHeartbeats 4000000
namespace L2
open PySem PySem.Spec PyProof.Rows
structure zv1 (K : PySem.W.Frag) (D : Addr) : Prop where
 cl : PySem.W.excIn K D znh zl5 = true
 ga : PySem.W.findIn K (.ref D) "__getattribute__" = some (some (.builtin "BaseException.__getattribute__"))
 gt : PySem.W.findIn K (.ref D) "__getattr__" = some none
 ck : PySem.W.findIn K (.ref D) "__class__" = some (some (.builtin "object.__class__"))
section
variable {prog : Program} {w : World} {A : Around} {E : Value → Shared → Prop} {h : Heap} {g : Array GenState} {d : Drawn} {t : Nat} {os : OsState} {a D : Addr} {o : Obj} {K : PySem.W.Frag} {bD : List Value}
end
theorem zot (bs : List Bool) : ((List.range bs.length).any fun i => (bs[i]?).getD false) = bs.any id := by
 rw [Bool.eq_iff_iff, List.any_eq_true, List.any_eq_true]
 constructor
 ·rintro ⟨i, hi, h⟩
  have hl := List.mem_range.mp hi
  rw [List.getElem?_eq_getElem hl] at h
  exact ⟨_, List.getElem_mem hl, h⟩
 ·rintro ⟨b, hb, h⟩
  obtain ⟨i, hi, e⟩ := List.mem_iff_getElem.mp hb
  exact ⟨i, List.mem_range.mpr hi, by rw [List.getElem?_eq_getElem hi, e]; exact h⟩
theorem zm6 {X : Cx} {K : PySem.W.Frag} (hc : X.calm = true) (hK : X.K = K := by rfl) : zdh X (.builtin "any") (fun xs H Q => ∃ (p : Addr) (bs : List Bool), xs = [.ref p] ∧ SqL K H p (bs.map V.bl) ∧ Q (.bl (bs.any id)) H) := by
 subst hK
 intro pins s σ H xs us Q I r h
 obtain ⟨p, bs, rfl, hq, q⟩ := h
 obtain ⟨u, rfl, rx⟩ := zen r
 cases rx
 obtain ⟨its, rv, pl, hz⟩ := I.list hq
 have hl := pl.isList
 have hlt : p < s.heap.objs.size := by obtain ⟨_, e, _⟩ := hl; exact Heap.lt_size e
 have hlen := rv.length
 rw [List.length_map] at hlen
 refine call_any_walk (wpAny_pyIter_list hl ?_)
 refine ⟨s.heap.objs.size, [s.heap.objs.size, p], [s.heap.objs.size], its.toArray.size, _, _, fun i => (bs[i]?).getD false, rfl, Walks.list (A := X.A.in1) (I.ok.hd hc) _ p (Nat.ne_of_lt hlt) its.toArray,
  ⟨⟨_, Heap.get?_push_size _ rfl, rfl, rfl⟩, hl.push _⟩, fun i v s' Q' E' hP hQ => ?_, fun h' tk hk => ?_⟩
 ·have e : its[i]? = some v := by simpa using hP
  have hi : i < bs.length := by
   have := (List.getElem?_eq_some_iff.mp e).1
   omega
  obtain ⟨u, hu, ru⟩ := rv.get (i := i) (x := .bl bs[i]) (by rw [List.getElem?_map, List.getElem?_eq_getElem hi]; rfl)
  rw [e] at hu
  cases hu
  cases (show v = Value.bool bs[i] from ru)
  dsimp only at hQ
  rw [List.getElem?_eq_getElem hi] at hQ
  exact wpAny_truthy_bool hQ
 ·have e : ((List.range its.toArray.size).any fun i => (bs[i]?).getD false) = bs.any id := by
   rw [List.size_toArray, ← hlen]
   exact zot bs
  rw [e]
  refine ⟨.bl _, H, I.kept (t' := tk) fun b o eb => hk b o (fun hm => ?_) (Heap.get?_push_of_some _ eb), rfl, q⟩
  rw [List.mem_singleton.mp hm] at eb
  exact Nat.lt_irrefl _ (Heap.lt_size eb)
end L2
namespace Wd
open PySem L2 Ow
end Wd
set_option maxRecDepth 100000
set_option maxHeartbeats 4000000
namespace Wd
open PySem L2 Ow
end Wd
set_option maxRecDepth 100000
set_option maxHeartbeats 4000000
namespace L2
open PySem PySem.Spec PyProof.Rows
end L2
set_option maxRecDepth 100000
set_option maxHeartbeats 4000000
namespace L2
open PySem PySem.Spec PyProof.Rows
section
variable {X : Cx} {k : Nat} {f : Addr} {fd : FuncData} {ps : List Str} {x : Str} {p pos : Pos} {e : Expr} {es : List Expr} {t : TA}
end
end L2
set_option maxRecDepth 100000
set_option maxHeartbeats 4000000
namespace Wd
open PySem L2 Ow
end Wd
set_option maxRecDepth 100000
set_option maxHeartbeats 4000000
namespace Ow
open PySem
end Ow
namespace Wd
open PySem L2 Ow
theorem zet {H : Hp} {a : Addr} {o o' : HO} (h : H a = some o) (no : ∀ xs, o ≠ .tup xs) : zh9 H (upd H a o') := fun b xs hb => by
 have n : b ≠ a := fun z => by
  rw [z, h] at hb
  exact no xs (Option.some.inj hb)
 rw [zam n]
 exact hb
theorem zv2 {x : V} {xs : List V} : atI (x :: xs) 0 = some x := by
 unfold atI ixN
 rw [if_pos (by decide)]
 simp
end Wd
set_option maxRecDepth 100000
set_option maxHeartbeats 4000000
namespace L2
open PySem PySem.Spec PyProof.Rows
end L2
namespace Wd
open PySem L2 Ow
end Wd
set_option maxRecDepth 100000
set_option maxHeartbeats 4000000
namespace Wd
open PySem L2 Ow
end Wd
set_option maxRecDepth 100000
set_option maxHeartbeats 4000000
namespace L2
open PySem PySem.Spec PyProof.Rows
end L2
namespace Wd
open PySem L2 Ow
theorem Pen.same {K : PySem.W.Frag} {H H' : Hp} {pen sp : Addr} {ns : List Int} {k : Int} (p : Pen K H pen sp ns k) (s : Same H H') : Pen K H' pen sp ns k := p.to (Same.x s) (s _ _ p.at_)
end Wd
set_option maxRecDepth 100000
set_option maxHeartbeats 4000000
namespace Wd
open PySem L2 Ow
theorem zjc : ∀ {m : Nat} {l : List Nat}, l.Nodup → (∀ k ∈ l, k < m) → l.length ≤ m
 | 0, [], _, _ => Nat.le_refl _
 | 0, k :: l, _, h => absurd (h k List.mem_cons_self) (Nat.not_lt_zero _)
 | m + 1, l, nd, h => by
  have h1 : (l.filter (· ≠ m)).length ≤ m := zjc (nd.filter _) fun k hk => by
   obtain ⟨a, b⟩ := List.mem_filter.mp hk
   have := h k a
   have : k ≠ m := by simpa using b
   omega
  have h2 : l.length ≤ (l.filter (· ≠ m)).length + 1 := by
   clear h1 h
   induction l with
   | nil => exact Nat.zero_le _
   | cons x l ih =>
    obtain ⟨hx, nd'⟩ := List.nodup_cons.mp nd
    by_cases e : x = m
    ·have : l.filter (· ≠ m) = l := List.filter_eq_self.mpr fun k hk => by
      have : k ≠ m := fun z => hx (by rw [e, ← z]; exact hk)
      simpa using this
     rw [List.filter_cons_of_neg (by simpa using e), this]
     exact Nat.le_refl _
    ·rw [List.filter_cons_of_pos (by simpa using e)]
     have := ih nd'
     simp only [List.length_cons]
     omega
  omega
end Wd
set_option maxRecDepth 100000
set_option maxHeartbeats 4000000
namespace L2
open PySem PySem.Spec
theorem zup {X : Cx} {K : PySem.W.Frag} (h : X.K = K := by rfl) : zdh X (.type "tuple") (fun xs H Q => ∃ p ys, xs = [V.ref p] ∧ ((SqL K H p ys ∧ ∀ l, H l = none → Q (.ref l) (upd H l (.tup ys))) ∨ SqT K H p ys ∧ Q (.ref p) H)) := h ▸ zb1
end L2
namespace Wd
open PySem L2 Ow
def zrs (K : PySem.W.Frag) : Sp := fun vs H Q _ => ∃ (pen sp : Addr) (ns : List Int) (tk : Addr) (u : Int) (kids : List Int) (m : Int) (k : Int), vs = [.ref pen, .int u, .ref tk] ∧ Pen K H pen sp ns k ∧ 0 ≤ k ∧ k ≤ 950000 ∧ H tk = some (.tup (kids.map V.int)) ∧ kids.length ≤ 9 ∧ 0 ≤ u ∧ kids ≠ [] ∧ zb5 m (kids.map PyData.int) u = true ∧
 ∀ (d : PyData) (v : V) (k' : Int) (H' : Hp), SameX pen H H' → H' pen = some (.lst [.ref sp, .int k']) → k ≤ k' → k' ≤ k + 3 → Dn H' d v → zey m d = true → zbh 3 d = true → zlo d = kids → Q v H'
def zmo (K : PySem.W.Frag) : Sp := fun vs H Q _ => ∃ (pen sp : Addr) (ns : List Int) (m : Nat) (k : Int), vs = [.ref pen, .int (m : Int)] ∧ Pen K H pen sp ns k ∧ 0 ≤ k ∧ k ≤ 900000 ∧ 1 ≤ m ∧ m ≤ 9 ∧
 ∀ (c : PyData) (v : V) (k' : Int) (H' : Hp), SameX pen H H' → H' pen = some (.lst [.ref sp, .int k']) → k ≤ k' → k' ≤ k + 30 → Dn H' c v → zh8 m c = true → zbh 3 c = true → Q v H'
def zqb (K : PySem.W.Frag) : Sp := fun vs H Q _ => ∃ (pen sp : Addr) (ns : List Int) (m : Nat) (k : Int), vs = [.ref pen, .int (m : Int)] ∧ Pen K H pen sp ns k ∧ 0 ≤ k ∧ k ≤ 800000 ∧ 1 ≤ m ∧ m ≤ 9 ∧
 ∀ (c : PyData) (v : V) (k' : Int) (H' : Hp), SameX pen H H' → H' pen = some (.lst [.ref sp, .int k']) → k ≤ k' → k' ≤ k + 31 → Dn H' c v → zh8 m c = true → zbh 3 c = true → Q v H'
def zs7 (K : PySem.W.Frag) : Sp := fun vs H Q _ => ∃ (pen sp : Addr) (ns : List Int) (k : Int), vs = [.ref pen] ∧ Pen K H pen sp ns k ∧ 0 ≤ k ∧ k ≤ 700000 ∧
 ∀ (wd : Addr) (m : Nat) (bs cs : List PyData) (k' : Int) (H' : Hp), SameX pen H H' → H' pen = some (.lst [.ref sp, .int k']) → k ≤ k' → k' ≤ k + 400 → 1 ≤ m → m ≤ 9 → WoodX H' wd m bs cs → cs.length ≤ 8 → Q (.ref wd) H'
def ztu : Sp := fun vs H Q _ => ∃ (n k : Nat), vs = [.int (n : Int), .int (k : Int)] ∧ k ≤ 20 ∧ Q (.bl (n.testBit k)) H
theorem zsh (n k : Nat) : decide (V.int ((n : Int) / ((2 ^ k : Nat) : Int) % 2) = V.int 1) = n.testBit k := by
 have e : (n : Int) / ((2 ^ k : Nat) : Int) % 2 = ((n / 2 ^ k % 2 : Nat) : Int) := by
  rw [Int.natCast_emod, Int.natCast_ediv]
  rfl
 rw [e, Nat.testBit_eq_decide_div_mod_eq, Bool.eq_iff_iff, decide_eq_true_iff, decide_eq_true_iff]
 constructor
 ·intro h
  injection h with h
  omega
 ·intro h
  rw [h]
  rfl
theorem zro {m : Nat} {top : Int} {ps : List PyData} (pok : ps.all zhc = true) (pri : zb5 (m : Int) (ps.map zpu) (-1) = true) (p0 : 0 < ps.length) : zh8 m (.tuple [.str ("most" : Str), .int top, .tuple ps]) = true := by
 show zo1 m ("most" : Str) (.int top) (.tuple ps) = true
 unfold zo1
 rw [if_pos rfl]
 show (true && (decide (0 < ps.length) && ps.all zhc && zb5 m (ps.map zpu) (-1))) = true
 rw [decide_eq_true p0, pok, pri]
 rfl
theorem zjv {m : Nat} {top : Int} {ps : List PyData} (pfl : ps.all (zbh 1) = true) (pfw : ps.length ≤ 1000) : zbh 3 (.tuple [.str ("most" : Str), .int top, .tuple ps]) = true := by
 have f2 : zbh 2 (.tuple ps) = true := by
  show (decide (ps.length ≤ 1000) && ps.all (zbh 1)) = true
  rw [decide_eq_true pfw, pfl]
  rfl
 show (true && (zbh 2 (.str ("most" : Str)) && (zbh 2 (.int top) && (zbh 2 (.tuple ps) && true)))) = true
 rw [show zbh 2 (.str ("most" : Str)) = true from zny, f2]
 rfl
theorem _root_.Ow.PairsTo.snoc {H : Hp} {i : Nat} {ps : List PyData} {xs : List V} {tp : Addr} {x : Int} (pt : PairsTo H i ps xs) (h : H tp = some (.tup [.int (i : Int), .int x])) : PairsTo H (i + 1) (ps ++ [.tuple [.int (i : Int), .int x]]) (xs ++ [.ref tp]) := by
 refine ⟨?_, ?_, ?_, ?_, ?_⟩
 ·exact pt.dn.append ⟨_, [], rfl, ⟨tp, _, rfl, h, _, _, rfl, rfl, _, _, rfl, rfl, rfl⟩, rfl⟩
 ·rw [List.all_append, pt.ok]
  rfl
 ·rw [List.all_append, pt.flat]
  rfl
 ·rw [List.map_append]
  show zb5 ((i + 1 : Nat) : Int) (ps.map zpu ++ [.int (i : Int)]) (-1) = true
  exact zec (by omega) pt.ris (by omega)
 ·rw [List.length_append, List.length_singleton]
  have := pt.few
  omega
theorem _root_.Ow.PairsTo.up {H : Hp} {i : Nat} {ps : List PyData} {xs : List V} (pt : PairsTo H i ps xs) : PairsTo H (i + 1) ps xs := ⟨pt.dn, pt.ok, pt.flat, zeg (by omega) pt.ris, Nat.le_succ_of_le pt.few⟩
theorem _root_.Ow.PairsTo.tupS {H H' : Hp} (t : zh9 H H') {i : Nat} {ps : List PyData} {xs : List V} (pt : PairsTo H i ps xs) : PairsTo H' i ps xs := ⟨DnL.tupS t pt.flat pt.dn, pt.ok, pt.flat, pt.ris, pt.few⟩
theorem zpk {H : Hp} {m : Nat} {tp : Addr} {o x : Int} (o0 : 0 ≤ o) (o1 : o < m) (h : H tp = some (.tup [.int o, .int x])) : PairsTo H m [.tuple [.int o, .int x]] [.ref tp] := by
 refine ⟨⟨_, [], rfl, ⟨tp, _, rfl, h, _, _, rfl, rfl, _, _, rfl, rfl, rfl⟩, rfl⟩, rfl, rfl, ?_, by show 1 ≤ m; omega⟩
 have := zec (m := (m : Int)) (j := o) o1 (ks := []) (u := -1) rfl (by omega)
 exact this
end Wd
set_option maxRecDepth 100000
set_option maxHeartbeats 4000000
namespace L2
open PySem PySem.Spec PyProof.Rows
section
variable {X : Cx}
theorem zm2 {ns : List Int} {i : Nat} (h : i < ns.length) : ns.getD i 0 = ns[i] := by
 rw [List.getD_eq_getElem?_getD, List.getElem?_eq_getElem h]
 rfl
theorem zfh {s : Shared} {p : Addr} {its : List Value} (pl : s.heap.IsList p its.toArray) : p < s.heap.objs.size := by
 obtain ⟨o, e, _⟩ := pl
 exact Heap.lt_size e
theorem zpp {K : PySem.W.Frag} (hc : X.calm = true) (hK : X.K = K := by rfl) : zdh X (.builtin "min") (fun xs H Q => ∃ (p : Addr) (ns : List Int), xs = [.ref p] ∧ SqL K H p (ns.map V.int) ∧ 0 < ns.length ∧ ∀ M, M ∈ ns → (∀ a ∈ ns, M ≤ a) → Q (.int M) H) := by
 intro pins s σ H xs us Q I r h
 subst hK
 obtain ⟨p, ns, rfl, hq, hne, q⟩ := h
 obtain ⟨u, rfl, rx⟩ := zen r
 cases rx
 obtain ⟨its, rv, pl, hz'⟩ := I.list hq
 have hi := ze3 rv
 have hl := rv.length
 rw [List.length_map] at hl
 have T := pl.isList
 have lt := zfh T
 refine call_min_walk (wpAny_pyIter_list T ?_)
 refine ⟨_, _, _, _, _, _, fun i j => decide (ns.getD i 0 < ns.getD j 0), rfl, Walks.list (A := X.A.in1) (I.ok.hd hc) s.heap.objs.size p (Nat.ne_of_lt lt) its.toArray, ⟨⟨_, Heap.get?_push_size _ rfl, rfl, rfl⟩, T.push _⟩, fun b hb => ?_, by rw [List.size_toArray]; omega, CmpOf.ints_lt (fun i => ns.getD i 0) (fun i v hv => ?_), fun v h' tk hP hk => ?_⟩
 ·show b < (s.heap.push _).objs.size
  rw [Heap.size_push]
  simp only [List.mem_cons, List.not_mem_nil, or_false] at hb
  rcases hb with rfl | rfl
  ·exact Nat.lt_succ_self _
  ·exact Nat.lt_succ_of_lt lt
 ·exact IntsAre.int_at hi i v (by rw [List.getElem?_toArray] at hv; exact hv)
 ·obtain ⟨t, rfl⟩ := IntsAre.int_at hi _ v (by rw [List.getElem?_toArray] at hP; exact hP)
  obtain ⟨b1, b2⟩ := argBest_lt (fun i => ns.getD i 0) (its.toArray.size - 1)
  rw [List.size_toArray] at b1 b2
  have hj : argBest (fun i j => decide (ns.getD i 0 < ns.getD j 0)) (its.toArray.size - 1) < ns.length := by
   rw [List.size_toArray]
   have : its.length - 1 < ns.length := by omega
   exact Nat.lt_of_le_of_lt b1 this
  refine ⟨.int _, H, I.kept (t' := tk) fun b o e => hk b o (fun hm => ?_) (Heap.get?_push_of_some _ e), ⟨t, rfl⟩, q _ (getD_mem hj) fun a ha => ?_⟩
  ·have : b = s.heap.objs.size := by simpa using hm
   exact absurd (this ▸ Heap.lt_size e) (Nat.lt_irrefl _)
  ·obtain ⟨j, hjl, rfl⟩ := List.getElem_of_mem ha
   have := b2 j (by omega)
   rw [← zm2 hjl]
   rw [List.size_toArray]
   exact this
theorem zp2 {K : PySem.W.Frag} (hc : X.calm = true) (hK : X.K = K := by rfl) : zdh X (.builtin "max") (fun xs H Q => ∃ (p : Addr) (ns : List Int), xs = [.ref p] ∧ SqL K H p (ns.map V.int) ∧ 0 < ns.length ∧ ∀ M, M ∈ ns → (∀ a ∈ ns, a ≤ M) → Q (.int M) H) := by
 intro pins s σ H xs us Q I r h
 subst hK
 obtain ⟨p, ns, rfl, hq, hne, q⟩ := h
 obtain ⟨u, rfl, rx⟩ := zen r
 cases rx
 obtain ⟨its, rv, pl, hz'⟩ := I.list hq
 have hi := ze3 rv
 have hl := rv.length
 rw [List.length_map] at hl
 have T := pl.isList
 have lt := zfh T
 refine call_max_walk (wpAny_pyIter_list T ?_)
 refine ⟨_, _, _, _, _, _, fun i j => decide (ns.getD i 0 > ns.getD j 0), rfl, Walks.list (A := X.A.in1) (I.ok.hd hc) s.heap.objs.size p (Nat.ne_of_lt lt) its.toArray, ⟨⟨_, Heap.get?_push_size _ rfl, rfl, rfl⟩, T.push _⟩, fun b hb => ?_, by rw [List.size_toArray]; omega, CmpOf.ints_gt (fun i => ns.getD i 0) (fun i v hv => ?_), fun v h' tk hP hk => ?_⟩
 ·show b < (s.heap.push _).objs.size
  rw [Heap.size_push]
  simp only [List.mem_cons, List.not_mem_nil, or_false] at hb
  rcases hb with rfl | rfl
  ·exact Nat.lt_succ_self _
  ·exact Nat.lt_succ_of_lt lt
 ·exact IntsAre.int_at hi i v (by rw [List.getElem?_toArray] at hv; exact hv)
 ·obtain ⟨t, rfl⟩ := IntsAre.int_at hi _ v (by rw [List.getElem?_toArray] at hP; exact hP)
  obtain ⟨b1, b2⟩ := argBest_gt (fun i => ns.getD i 0) (its.toArray.size - 1)
  rw [List.size_toArray] at b1 b2
  have hj : argBest (fun i j => decide (ns.getD i 0 > ns.getD j 0)) (its.toArray.size - 1) < ns.length := by
   rw [List.size_toArray]
   have : its.length - 1 < ns.length := by omega
   exact Nat.lt_of_le_of_lt b1 this
  refine ⟨.int _, H, I.kept (t' := tk) fun b o e => hk b o (fun hm => ?_) (Heap.get?_push_of_some _ e), ⟨t, rfl⟩, q _ (getD_mem hj) fun a ha => ?_⟩
  ·have : b = s.heap.objs.size := by simpa using hm
   exact absurd (this ▸ Heap.lt_size e) (Nat.lt_irrefl _)
  ·obtain ⟨j, hjl, rfl⟩ := List.getElem_of_mem ha
   have := b2 j (by omega)
   rw [← zm2 hjl]
   rw [List.size_toArray]
   exact this
def ztt : V → List V → Hp → VK → Prop := fun x vs H Q => ∃ (l : Addr) (xs : List V) (y : V) (j : Nat), x = .ref l ∧ vs = [y] ∧ H l = some (.lst xs) ∧ zfg y = true ∧ xs.all zfg = true ∧ (xs[j]?.map fun z => eqV z y) = some true ∧ (∀ i, i < j → (xs[i]?.map fun z => eqV z y) = some false) ∧ Q (.int (j : Int)) H
theorem zfz : MtM X "list.index" ztt := by
 intro pins s σ H x vs v us Q I rx rv h
 obtain ⟨l, xs, y, j, rfl, rfl, hH, fy, fs, hj, hno, q⟩ := h
 cases rx
 obtain ⟨u, rfl, ru⟩ := rv.one
 obtain ⟨z, its, n, r, hl, e⟩ := I.lstM hH
 have lxs := r.length
 have jl : j < xs.length := by
  rcases Nat.lt_or_ge j xs.length with z | z
  ·exact z
  ·rw [List.getElem?_eq_none z] at hj
   cases hj
 have at_ : ∀ i (h1 : i < xs.length) (h2 : i < its.length), eqU y its[i] = eqV xs[i] y := by
  intro i h1 h2
  obtain ⟨w, hw, rr⟩ := r.get (List.getElem?_eq_getElem h1)
  rw [List.getElem?_eq_getElem h2] at hw
  cases hw
  exact znw rr (List.all_eq_true.mp fs _ (List.getElem_mem h1))
 have j63 : (j : Int) < 2 ^ 63 - 1 := by
  have h63 : ((xs.length : Nat) : Int) < ((2 ^ 63 : Nat) : Int) := Int.ofNat_lt.mpr (Nat.lt_of_le_of_lt z zhd)
  have e63 : ((2 ^ 63 : Nat) : Int) = 2 ^ 63 := rfl
  omega
 refine call_meets F.slot_list_index ⟨_, e, rfl⟩ F.entry_list_index (F.args_list_index_2 _ _) (SeqAt.list_indexAt l its.toArray n none #[] u (eqU y) j (by rw [List.size_toArray]; omega) j63 ?_ ?_) ⟨e, fun w hw => zgs ru fy r fs w (by simpa using hw), ?_⟩
 ·rw [List.getElem_toArray, at_ j jl (by omega)]
  rw [List.getElem?_eq_getElem jl] at hj
  exact Option.some.inj hj
 ·intro i hi hij
  rw [List.size_toArray] at hi
  rw [List.getElem_toArray, at_ i (by omega) hi]
  have := hno i hij
  rw [List.getElem?_eq_getElem (by omega)] at this
  exact Option.some.inj this
 ·exact ⟨.int (j : Int), H, I.tok _, ⟨_, rfl⟩, q⟩
end
end L2
set_option maxRecDepth 100000
set_option maxHeartbeats 4000000
namespace L2
open PySem PySem.Spec PyProof.Rows
def zvj (W : XK) (K : PySem.W.Frag) (C : Addr) (tb ts : TS) : TS := fun D σ H => tb D σ H ∧ ∀ (σ' : St) (H' : Hp) (ea Dc : Addr), σ'.length = σ.length → W (.ref Dc) none H' → H' ea = none →
 PySem.W.excIn K Dc znh zl5 = true ∧ zrk K Dc C = true ∧ ts { nx := D.nx, rt := fun _ _ => False } σ' H'
theorem zoc {X : Cx} {body suite : List Stmt} {b0 : Stmt} {x : Str} {C : Addr} {tb ts : TS} {W : XK} {np hpos pos : Pos} (hst : X.stack = X.env :: X.outer) (hfr : X.env.frame = some X.env.locals) (hb : ∀ pins, PSs (X.tryX pins W) body tb) (hg : Gl X x) (hm : X.mg x = some (.ref C)) (hC : PySem.W.excIn X.K C znh zl5 = true)
  (hs : ∀ ea, PSs (X.markX ea) (b0 :: suite) ts) (hd : (x == ("__debug__" : Str)) = false := by decide) :
  PS X (.Try body [.ExceptHandler (some (.Name x np)) none (b0 :: suite) hpos] [] [] pos) (zvj W X.K C tb ts) := by
 intro pins s σ H D I h
 refine wpAny_Try_except (wpAny_mono (hb pins [] s σ H D (I.toTry W) h.1) (fun f s1 q => ?_) fun e s1 q => ?_)
 ·cases f with
  | next => exact wpAny_execs_nil (SP.ofTry q)
  | brk => exact SP.ofTry q
  | cont => exact SP.ofTry q
  | ret u => exact SP.ofTry q
 obtain ⟨σ1, H0, s0, H1, ea, Dc, a0, B, rfl, I0, I1, fl, kB, hea, hW⟩ := q
 obtain ⟨r1, r2, r3⟩ := h.2 σ1 H1 ea Dc (I1.len.trans I.len.symm) hW hea
 rw [hst] at fl
 refine wpAny_looks_onW (by rw [← hst]; exact I.ok.frames) hfr fl fun h2 hh2 u2 => ?_
 refine wpAny_landsW hh2 fun h3 fl3 u3 => ?_
 have I3 := I0.upto I1 (fun b o e n hb => fl3.1 _ _ (kB b o e n hb)) (u2.trans u3)
 obtain ⟨bC, xC⟩ := XCls.mk' I3.kIn hC
 obtain ⟨bD, xD⟩ := XCls.mk' I3.kIn r1
 obtain ⟨oe, he, hcls⟩ := fl3.there
 refine wpAny_handleBy_cons (codeAny_handlers_test (zhy (I3.toMark ea) hg hm ?_ hd)) (by intro q; cases q)
 refine zm9 xC xD he hcls (zsa I3.kIn xD r2) ?_
 refine codeAny_handlers_suite ?_
 refine lands_againW fl3 fun h4 fl4 u4 => ?_
 have I4 := I0.upto I1 (fun b o e n hb => fl4.1 _ _ (kB b o e n hb)) ((u2.trans u3).trans u4)
 refine wpAny_mono (hs ea pins _ _ _ _ (I4.toMark ea) r3) (fun f s6 q => ?_) fun _ _ z => False.elim z
 cases f with
 | next =>
  obtain ⟨σ7, H7, I7, q7⟩ := q
  exact ⟨_, H7, I7.ofMark I.ok.hd, q7⟩
 | brk => obtain ⟨_, _, _, q7⟩ := q; exact False.elim q7
 | cont => obtain ⟨_, _, _, q7⟩ := q; exact False.elim q7
 | ret u => obtain ⟨_, _, _, _, _, q7⟩ := q; exact False.elim q7
end L2
set_option maxRecDepth 100000
set_option maxHeartbeats 4000000
namespace Wd
open PySem L2 Ow
def mv : List Nat → Nat → Nat
 | [], _ => 0
 | x :: r, k => if x = k then 0 else mv r k + 1
theorem zi6 {k : Nat} : ∀ {l : List Nat}, k ∈ l → l[mv l k]? = some k
 | x :: r, h => by
  unfold mv
  by_cases e : x = k
  ·rw [if_pos e, e]; rfl
  ·rw [if_neg e, List.getElem?_cons_succ]
   exact zi6 ((List.mem_cons.mp h).resolve_left fun z => e z.symm)
theorem zfj {k : Nat} {l : List Nat} (h : k ∈ l) : mv l k < l.length := (List.getElem?_eq_some_iff.mp (zi6 h)).1
theorem ztm {k : Nat} : ∀ {l : List Nat} {i x : Nat}, i < mv l k → l[i]? = some x → x ≠ k
 | [], _, _, h, _ => absurd h (Nat.not_lt_zero _)
 | y :: r, i, x, h, e => by
  unfold mv at h
  by_cases z : y = k
  ·rw [if_pos z] at h; exact absurd h (Nat.not_lt_zero _)
  ·rw [if_neg z] at h
   cases i with
   | zero => cases e; exact z
   | succ i => exact ztm (l := r) (i := i) (by omega) (by rw [List.getElem?_cons_succ] at e; exact e)
theorem zf1 {a b : Nat} {l : List Nat} (pw : l.Pairwise (· < ·)) (ha : a ∈ l) (hb : b ∈ l) (h : a < b) : mv l a < mv l b := by
 rcases Nat.lt_or_ge (mv l a) (mv l b) with z | z
 ·exact z
 ·obtain ⟨ia, ea⟩ := List.getElem?_eq_some_iff.mp (zi6 ha)
  obtain ⟨ib, eb⟩ := List.getElem?_eq_some_iff.mp (zi6 hb)
  rcases Nat.eq_or_lt_of_le z with y | y
  ·simp only [y] at eb
   omega
  ·have := List.pairwise_iff_getElem.mp pw _ _ ib ia y
   omega
theorem zd9 {l : List Nat} {k : Nat} (h : k ∈ l) : ((zak l)[mv l k]?.map fun z => eqV z (.int (k : Int))) = some true ∧ ∀ i, i < mv l k → ((zak l)[i]?.map fun z => eqV z (.int (k : Int))) = some false := by
 constructor
 ·rw [List.getElem?_map, zi6 h]
  show some ((k : Int) == (k : Int)) = some true
  rw [beq_self_eq_true]
 ·intro i hi
  have il : i < l.length := Nat.lt_trans hi (zfj h)
  have n := ztm hi (List.getElem?_eq_getElem il)
  rw [List.getElem?_map, List.getElem?_eq_getElem il]
  show some (((l[i] : Nat) : Int) == (k : Int)) = some false
  congr 1
  rw [beq_eq_false_iff_ne]
  omega
def zk5 (f : Nat → Bool) : Nat → Nat
 | 0 => 0
 | n + 1 => zk5 f n ||| (if f n = true then 2 ^ n else 0)
theorem zgq (f : Nat → Bool) : ∀ n k, (zk5 f n).testBit k = (decide (k < n) && f k)
 | 0, k => by
  show (0 : Nat).testBit k = _
  rw [Nat.zero_testBit]
  rfl
 | n + 1, k => by
  show (zk5 f n ||| _).testBit k = _
  rw [Nat.testBit_or, zgq f n k]
  by_cases e : k = n
  ·subst e
   rw [decide_eq_false (Nat.lt_irrefl _), Bool.false_and, Bool.false_or, decide_eq_true (Nat.lt_succ_self _), Bool.true_and]
   cases f k
   ·rw [if_neg Bool.false_ne_true, Nat.zero_testBit]
   ·rw [if_pos rfl, Nat.testBit_two_pow_self]
  ·have e2 : (if f n = true then 2 ^ n else 0 : Nat).testBit k = false := by
    split
    ·rw [Nat.testBit_two_pow]; exact decide_eq_false (Ne.symm e)
    ·exact Nat.zero_testBit _
   rw [e2, Bool.or_false]
   congr 1
   by_cases z : k < n
   ·rw [decide_eq_true z, decide_eq_true (by omega)]
   ·rw [decide_eq_false z, decide_eq_false (by omega)]
def zft (kept : List Nat) (w : Nat) : Nat := zk5 (fun i => w.testBit (kept.getD i 0)) kept.length
theorem zt6 (kept : List Nat) (w : Nat) : zft kept w < 2 ^ kept.length := Nat.lt_pow_two_of_testBit _ fun k hk => by
 unfold zft
 rw [zgq, decide_eq_false (by omega)]
 rfl
theorem zez {kept : List Nat} {w k : Nat} (h : k ∈ kept) : (zft kept w).testBit (mv kept k) = w.testBit k := by
 unfold zft
 rw [zgq, decide_eq_true (zfj h), Bool.true_and, List.getD_eq_getElem?_getD, zi6 h]
 rfl
def mvB (kept : List Nat) (b : Bg) : Option Bg := if b.ks.filter (fun k => decide (k ∈ kept)) = [] then none else some ⟨mv kept b.u, b.lo, b.hi, (b.ks.filter (fun k => decide (k ∈ kept))).map (mv kept)⟩
def mvT (kept : List Nat) : Tie → Option Tie
 | .bough u lo hi ks => (mvB kept ⟨u, lo, hi, ks⟩).map Bg.tie
 | .needs a b => if a ∈ kept ∧ b ∈ kept then some (.needs (mv kept a) (mv kept b)) else none
 | .bans a b => if a ∈ kept ∧ b ∈ kept then some (.bans (mv kept a) (mv kept b)) else none
 | .most top ps => if ps.filter (fun p => decide (p.1 ∈ kept)) = [] then none else some (.most top ((ps.filter (fun p => decide (p.1 ∈ kept))).map fun p => (mv kept p.1, p.2)))
theorem ztc {kept ks : List Nat} (pw : kept.Pairwise (· < ·)) (pk : ks.Pairwise (· < ·)) (h : ∀ k ∈ ks, k ∈ kept) : (ks.map (mv kept)).Pairwise (· < ·) := by
 rw [List.pairwise_map]
 exact pk.imp_of_mem fun ha hb hab => zf1 pw (h _ ha) (h _ hb) hab
theorem zkm {kept : List Nat} {m : Nat} {b b' : Bg} (pw : kept.Pairwise (· < ·)) (ok : Tie.BoughOkW m b.u b.lo b.hi b.ks) (up : (∃ k ∈ b.ks, k ∈ kept) → b.u ∈ kept) (h : mvB kept b = some b') : Tie.BoughOkW kept.length b'.u b'.lo b'.hi b'.ks := by
 unfold mvB at h
 split at h
 ·cases h
 ·rename_i ne
  cases h
  obtain ⟨k, hk⟩ := List.exists_mem_of_ne_nil _ ne
  have hk' := List.mem_filter.mp hk
  have hu := up ⟨k, hk'.1, of_decide_eq_true hk'.2⟩
  have hin : ∀ k ∈ b.ks.filter (fun k => decide (k ∈ kept)), k ∈ kept := fun k hk => of_decide_eq_true (List.mem_filter.mp hk).2
  have pk := ztc pw (ok.ris.filter _) hin
  refine ⟨zfj hu, fun z => ne (List.map_eq_nil_iff.mp z), fun k hk => ?_, pk, ?_, ok.lo0, ok.lohi⟩
  ·obtain ⟨j, hj, rfl⟩ := List.mem_map.mp hk
   exact ⟨zf1 pw hu (hin j hj) (ok.up j (List.mem_filter.mp hj).1).1, zfj (hin j hj)⟩
  ·have : ∀ k ∈ (b.ks.filter (fun k => decide (k ∈ kept))).map (mv kept), k < kept.length := fun k hk => by
    obtain ⟨j, hj, rfl⟩ := List.mem_map.mp hk
    exact zfj (hin j hj)
   exact zjc (pk.imp fun a => Nat.ne_of_lt a) this
theorem zk3 {kept : List Nat} {m : Nat} {t t' : Tie} (pw : kept.Pairwise (· < ·)) (ok : t.Ok m) (nb : ∀ u lo hi ks, t ≠ .bough u lo hi ks) (h : mvT kept t = some t') : t'.Ok kept.length := by
 cases t with
 | bough u lo hi ks => exact absurd rfl (nb u lo hi ks)
 | needs a b =>
  simp only [mvT] at h
  split at h
  ·rename_i hab
   cases h
   refine ⟨zfj hab.1, zfj hab.2, ?_⟩
   rcases Nat.lt_or_gt_of_ne ok.2.2 with z | z
   ·have := zf1 pw hab.1 hab.2 z; omega
   ·have := zf1 pw hab.2 hab.1 z; omega
  ·cases h
 | bans a b =>
  simp only [mvT] at h
  split at h
  ·rename_i hab
   cases h
   refine ⟨zfj hab.1, zfj hab.2, ?_⟩
   rcases Nat.lt_or_gt_of_ne ok.2.2 with z | z
   ·have := zf1 pw hab.1 hab.2 z; omega
   ·have := zf1 pw hab.2 hab.1 z; omega
  ·cases h
 | most top ps =>
  simp only [mvT] at h
  split at h
  ·cases h
  ·rename_i ne
   cases h
   obtain ⟨_, _, pp, _⟩ := ok
   have hin : ∀ p ∈ ps.filter (fun p => decide (p.1 ∈ kept)), p.1 ∈ kept := fun p hp => of_decide_eq_true (List.mem_filter.mp hp).2
   have e : ((ps.filter (fun p => decide (p.1 ∈ kept))).map fun p => (mv kept p.1, p.2)).map (·.1) = ((ps.filter (fun p => decide (p.1 ∈ kept))).map (·.1)).map (mv kept) := by
    rw [List.map_map, List.map_map]
    rfl
   have pk : (((ps.filter (fun p => decide (p.1 ∈ kept))).map (·.1)).map (mv kept)).Pairwise (· < ·) := ztc pw (pp.sublist (List.Sublist.map _ List.filter_sublist)) fun k hk => by
    obtain ⟨p, hp, rfl⟩ := List.mem_map.mp hk
    exact hin p hp
   have lt : ∀ k ∈ ((ps.filter (fun p => decide (p.1 ∈ kept))).map (·.1)).map (mv kept), k < kept.length := fun k hk => by
    obtain ⟨j, hj, rfl⟩ := List.mem_map.mp hk
    obtain ⟨p, hp, rfl⟩ := List.mem_map.mp hj
    exact zfj (hin p hp)
   refine ⟨fun z => ne (List.map_eq_nil_iff.mp z), fun p hp => ?_, by rw [e]; exact pk, ?_⟩
   ·obtain ⟨q, hq, rfl⟩ := List.mem_map.mp hp
    exact zfj (hin q hq)
   ·have := zjc (pk.imp fun a => Nat.ne_of_lt a) lt
    rw [List.length_map, List.length_map] at this
    rw [List.length_map]
    exact this
theorem ztq {kept ks : List Nat} {w : Nat} (h : ∀ k ∈ ks, w.testBit k = true → k ∈ kept) : cnt ((ks.filter (fun k => decide (k ∈ kept))).map (mv kept)) (zft kept w) = cnt ks w := by
 unfold cnt
 rw [List.filter_map, List.length_map]
 have e : ((ks.filter fun k => decide (k ∈ kept)).filter ((fun k => (zft kept w).testBit k) ∘ mv kept)) = ks.filter fun k => w.testBit k := by
  rw [List.filter_filter]
  refine List.filter_congr fun k hk => ?_
  rw [Function.comp_apply]
  by_cases z : k ∈ kept
  ·rw [zez z, decide_eq_true z, Bool.and_true]
  ·rw [decide_eq_false z, Bool.and_false]
   symm
   rw [Bool.eq_false_iff]
   exact fun y => z (h k hk y)
 rw [e]
theorem zt3 {kept : List Nat} {ps : List (Nat × Int)} {w : Nat} (h : ∀ p ∈ ps, w.testBit p.1 = true → p.1 ∈ kept) : zfy ((ps.filter (fun p => decide (p.1 ∈ kept))).map fun p => (mv kept p.1, p.2)) (fun p => (zft kept w).testBit p.1) = zfy ps (fun p => w.testBit p.1) := by
 unfold zfy
 rw [List.filter_map, List.map_map]
 have e : ((ps.filter fun p => decide (p.1 ∈ kept)).filter ((fun p => (zft kept w).testBit p.1) ∘ fun p => (mv kept p.1, p.2))) = ps.filter fun p => w.testBit p.1 := by
  rw [List.filter_filter]
  refine List.filter_congr fun p hp => ?_
  rw [Function.comp_apply]
  by_cases z : p.1 ∈ kept
  ·rw [zez z, decide_eq_true z, Bool.and_true]
  ·rw [decide_eq_false z, Bool.and_false]
   symm
   rw [Bool.eq_false_iff]
   exact fun y => z (h p hp y)
 rw [e]
 rfl
theorem zqt {kept : List Nat} {w : Nat} {b b' : Bg} (hw : ∀ k, w.testBit k = true → k ∈ kept) (up : (∃ k ∈ b.ks, k ∈ kept) → b.u ∈ kept) (h : mvB kept b = some b') (hk : b.tie.keep w = true) : b'.tie.keep (zft kept w) = true := by
 unfold mvB at h
 split at h
 ·cases h
 ·rename_i ne
  cases h
  obtain ⟨k, hk0⟩ := List.exists_mem_of_ne_nil _ ne
  have hk' := List.mem_filter.mp hk0
  have hu := up ⟨k, hk'.1, of_decide_eq_true hk'.2⟩
  show (if (zft kept w).testBit (mv kept b.u) = true then _ else _) = true
  rw [zez hu, ztq fun k _ h => hw k h]
  exact hk
theorem zra {kept : List Nat} {w : Nat} {t t' : Tie} (hw : ∀ k, w.testBit k = true → k ∈ kept) (nb : ∀ u lo hi ks, t ≠ .bough u lo hi ks) (h : mvT kept t = some t') (hk : t.keep w = true) : t'.keep (zft kept w) = true := by
 cases t with
 | bough u lo hi ks => exact absurd rfl (nb u lo hi ks)
 | needs a b =>
  simp only [mvT] at h
  split at h
  ·rename_i hab
   cases h
   show (!(zft kept w).testBit (mv kept a) || (zft kept w).testBit (mv kept b)) = true
   rw [zez hab.1, zez hab.2]
   exact hk
  ·cases h
 | bans a b =>
  simp only [mvT] at h
  split at h
  ·rename_i hab
   cases h
   show (!(zft kept w).testBit (mv kept a) || !(zft kept w).testBit (mv kept b)) = true
   rw [zez hab.1, zez hab.2]
   exact hk
  ·cases h
 | most top ps =>
  simp only [mvT] at h
  split at h
  ·cases h
  ·cases h
   show decide (zfy _ _ ≤ top) = true
   rw [zt3 fun p _ h => hw p.1 h]
   exact hk
def za0 (m : Nat) (ts : List Tie) : List Nat := (List.range m).filter fun k => (za3 m ts).any fun w => w.testBit k
theorem mem_keptL {m : Nat} {ts : List Tie} {k : Nat} : k ∈ za0 m ts ↔ k < m ∧ ∃ w, w < 2 ^ m ∧ zbw ts w = true ∧ w.testBit k = true := by
 unfold za0
 rw [List.mem_filter, List.mem_range, List.any_eq_true]
 constructor
 ·rintro ⟨h1, w, hw, hk⟩
  obtain ⟨a, b⟩ := mem_wareL.mp hw
  exact ⟨h1, w, a, b, hk⟩
 ·rintro ⟨h1, w, a, b, hk⟩
  exact ⟨h1, w, mem_wareL.mpr ⟨a, b⟩, hk⟩
theorem zid (m : Nat) (ts : List Tie) : (za0 m ts).Pairwise (· < ·) := List.Pairwise.filter _ List.pairwise_lt_range
theorem zj2 (m : Nat) (ts : List Tie) : (za0 m ts).length ≤ m := by
 have := List.length_filter_le (fun k => (za3 m ts).any fun w => w.testBit k) (List.range m)
 rwa [List.length_range] at this
theorem zhe {m w : Nat} {ts : List Tie} (hw : w < 2 ^ m) (W : zbw ts w = true) {k : Nat} (hk : w.testBit k = true) : k ∈ za0 m ts := by
 refine mem_keptL.mpr ⟨?_, w, hw, W, hk⟩
 rcases Nat.lt_or_ge k m with z | z
 ·exact z
 ·have p : 2 ^ m ≤ 2 ^ k := Nat.pow_le_pow_right (by decide) z
  rw [Nat.testBit_lt_two_pow (by omega)] at hk
  cases hk
theorem zg3 {m : Nat} {ts : List Tie} {b : Bg} (hb : b.tie ∈ ts) : (∃ k ∈ b.ks, k ∈ za0 m ts) → b.u ∈ za0 m ts := by
 rintro ⟨k, hk, hkk⟩
 obtain ⟨km, w, hw, W, hbit⟩ := mem_keptL.mp hkk
 refine zhe hw W ?_
 have hkeep : b.tie.keep w = true := by
  unfold zbw at W
  exact List.all_eq_true.mp (Bool.and_eq_true_iff.mp W).2 _ hb
 cases e : w.testBit b.u with
 | true => rfl
 | false =>
  have : decide (cnt b.ks w = 0) = true := by
   have h2 : (if w.testBit b.u = true then decide (b.lo ≤ (cnt b.ks w : Int)) && decide ((cnt b.ks w : Int) ≤ b.hi) else decide (cnt b.ks w = 0)) = true := hkeep
   rw [e, if_neg Bool.false_ne_true] at h2
   exact h2
  have z := of_decide_eq_true this
  unfold cnt at z
  have := List.length_eq_zero_iff.mp z
  have hm : k ∈ b.ks.filter fun k => w.testBit k := List.mem_filter.mpr ⟨hk, hbit⟩
  rw [this] at hm
  cases hm
def zaq (L : List Bg) (C : List Tie) : List Tie := L.map Bg.tie ++ C
theorem zrw {m w : Nat} {L : List Bg} {C : List Tie} (nb : ∀ t ∈ C, ∀ u lo hi ks, t ≠ .bough u lo hi ks) (hw : w < 2 ^ m) (W : zbw (zaq L C) w = true) : zbw (zaq (L.filterMap (mvB (za0 m (zaq L C)))) (C.filterMap (mvT (za0 m (zaq L C))))) (zft (za0 m (zaq L C)) w) = true := by
 have hin : ∀ k, w.testBit k = true → k ∈ za0 m (zaq L C) := fun k hk => zhe hw W hk
 have W' := W
 unfold zbw at W ⊢
 rw [Bool.and_eq_true] at W ⊢
 have keep : ∀ t ∈ zaq L C, t.keep w = true := List.all_eq_true.mp W.2
 constructor
 ·have h0 : 0 ∈ za0 m (zaq L C) := hin 0 W.1
  have e0 : mv (za0 m (zaq L C)) 0 = 0 := by
   rcases Nat.eq_zero_or_pos (mv (za0 m (zaq L C)) 0) with z | z
   ·exact z
   ·have il : 0 < (za0 m (zaq L C)).length := Nat.lt_trans z (zfj h0)
    obtain ⟨i1, e1⟩ := List.getElem?_eq_some_iff.mp (zi6 h0)
    have := List.pairwise_iff_getElem.mp (zid m (zaq L C)) 0 _ il i1 z
    omega
  have := zez (w := w) h0
  rw [e0] at this
  rw [this]
  exact W.1
 ·rw [List.all_eq_true]
  intro t ht
  unfold zaq at ht
  rcases List.mem_append.mp ht with z | z
  ·obtain ⟨b', hb', rfl⟩ := List.mem_map.mp z
   obtain ⟨b, hb, e⟩ := List.mem_filterMap.mp hb'
   have hbt : b.tie ∈ zaq L C := List.mem_append.mpr (.inl (List.mem_map.mpr ⟨b, hb, rfl⟩))
   exact zqt hin (zg3 hbt) e (keep _ hbt)
  ·obtain ⟨c, hc, e⟩ := List.mem_filterMap.mp z
   exact zra hin (nb c hc) e (keep _ (List.mem_append.mpr (.inr hc)))
end Wd
set_option maxRecDepth 100000
set_option maxHeartbeats 4000000
namespace Wd
open PySem L2 Ow
theorem zio : ∀ ps : List (Nat × Int), (ps.map zhq).all (zbh 1) = true
 | [] => rfl
 | p :: ps => by
  rw [List.map_cons, List.all_cons, zio ps]
  rfl
theorem zil {u : Nat} {lo hi : Int} {ks : List Nat} (h : ks.length ≤ 1000) : zbh 3 (Tie.bough u lo hi ks).toD = true := by
 have := zly (u : Int) lo hi (ks.map fun k : Nat => (k : Int)) (by rw [List.length_map]; exact h)
 unfold zq3 at this
 rw [List.map_map] at this
 exact this
theorem zm7 {m : Nat} {t : Tie} (ok : t.Ok m) (m9 : m ≤ 900) : zbh 3 t.toD = true := by
 cases t with
 | bough u lo hi ks => exact zil (Nat.le_trans ok.few (by omega))
 | needs a b =>
  show (true && (zbh 2 (.str ("needs" : Str)) && (true && (true && true)))) = true
  rw [show zbh 2 (.str ("needs" : Str)) = true from zhk]
  rfl
 | bans a b =>
  show (true && (zbh 2 (.str ("bans" : Str)) && (true && (true && true)))) = true
  rw [show zbh 2 (.str ("bans" : Str)) = true from ziz]
  rfl
 | most top ps => exact zjv (m := m) (zio ps) (by rw [List.length_map]; exact Nat.le_trans ok.2.2.2 (by omega))
theorem zhh {m : Nat} {ts : List Tie} (ok : ∀ t ∈ ts, t.Ok m) (m9 : m ≤ 900) : (ts.map Tie.toD).all (zbh 3) = true := by
 rw [List.all_map, List.all_eq_true]
 exact fun t ht => zm7 (ok t ht) m9
theorem zfd {H : Hp} : ∀ ks : List Nat, DnL H (ks.map fun k : Nat => PyData.int (k : Int)) (zak ks)
 | [] => rfl
 | k :: ks => ⟨_, _, rfl, rfl, zfd ks⟩
def TiesAt (H : Hp) (p : Addr) (ts : List Tie) : Prop := ∃ xs, H p = some (.tup xs) ∧ DnL H (ts.map Tie.toD) xs
theorem TiesAt.same {H H' : Hp} {p : Addr} {ts : List Tie} (s : Same H H') (h : TiesAt H p ts) : TiesAt H' p ts := by
 obtain ⟨xs, h1, h2⟩ := h
 exact ⟨xs, s _ _ h1, DnL.same s _ _ h2⟩
theorem TiesAt.tupS {H H' : Hp} {p : Addr} {m : Nat} {ts : List Tie} (t : zh9 H H') (ok : ∀ t ∈ ts, t.Ok m) (m9 : m ≤ 900) (h : TiesAt H p ts) : TiesAt H' p ts := by
 obtain ⟨xs, h1, h2⟩ := h
 exact ⟨xs, t _ _ h1, DnL.tupS t (zhh ok m9) h2⟩
theorem ze7 {H : Hp} {wd tb tc : Addr} {m : Nat} {B C : List Tie} (hw : H wd = some (.tup [.int (m : Int), .ref tb, .ref tc])) (hb : TiesAt H tb B) (hc : TiesAt H tc C) (ok : ∀ t ∈ B ++ C, t.Ok m) (few : (B ++ C).length ≤ 900) (m9 : m ≤ 900) : WoodT H wd m (B ++ C) := by
 obtain ⟨xs, h1, d1⟩ := hb
 obtain ⟨ys, h2, d2⟩ := hc
 exact ⟨⟨xs, ys, ⟨tb, tc, hw, h1, h2⟩, by rw [List.map_append]; exact d1.append d2⟩, ok, few, m9⟩
def zk0 : Sp := fun vs H Q _ => ∃ (tb lk : Addr) (L : List Bg) (kept : List Nat) (m : Nat), vs = [.ref tb, .ref lk] ∧ TiesAt H tb (L.map Bg.tie) ∧ H lk = some (.lst (zak kept)) ∧ kept.Pairwise (· < ·) ∧ kept.length ≤ 9 ∧ L.length ≤ 20 ∧ m ≤ 9 ∧ (∀ b ∈ L, Tie.BoughOkW m b.u b.lo b.hi b.ks) ∧ (∀ b ∈ L, (∃ k ∈ b.ks, k ∈ kept) → b.u ∈ kept) ∧
 ∀ (t : Addr) (H' : Hp), Same H H' → TiesAt H' t ((L.filterMap (mvB kept)).map Bg.tie) → Q (.ref t) H'
def zma : Sp := fun vs H Q _ => ∃ (tc lk : Addr) (C : List Tie) (kept : List Nat) (m : Nat), vs = [.ref tc, .ref lk] ∧ TiesAt H tc C ∧ H lk = some (.lst (zak kept)) ∧ kept.Pairwise (· < ·) ∧ kept.length ≤ 9 ∧ C.length ≤ 20 ∧ m ≤ 9 ∧ (∀ t ∈ C, t.Ok m) ∧ (∀ t ∈ C, ∀ u lo hi ks, t ≠ .bough u lo hi ks) ∧
 ∀ (t : Addr) (H' : Hp), Same H H' → TiesAt H' t (C.filterMap (mvT kept)) → Q (.ref t) H'
def zo6 : Sp := fun vs H Q _ => ∃ (tc : Addr) (C : List Tie) (p : Nat), vs = [.ref tc, .int (p : Int)] ∧ TiesAt H tc C ∧ p < C.length ∧ C.length ≤ 100 ∧ ∀ (t : Addr) (H' : Hp), Same H H' → TiesAt H' t (C.eraseIdx p) → Q (.ref t) H'
def zcr (m : Nat) (B C : List Tie) (p : Nat) : Option Nat := (za3 m (B ++ C.eraseIdx p)).find? fun s => !((C[p]?.map fun t => t.keep s).getD true)
def zng : Sp := fun vs H Q _ => ∃ (tb tc : Addr) (m p : Nat) (B C : List Tie), vs = [.int (m : Int), .ref tb, .ref tc, .int (p : Int)] ∧ TiesAt H tb B ∧ TiesAt H tc C ∧ p < C.length ∧ 1 ≤ m ∧ m ≤ 9 ∧ (∀ t ∈ B, t.Ok m) ∧ (∀ t ∈ C, t.Ok m) ∧ B.length ≤ 20 ∧ C.length ≤ 20 ∧ ∀ H', Same H H' → Q (zgc (zcr m B C p)) H'
def zbn (m : Nat) (B : List Tie) : Nat → List Tie → Nat → List Tie
 | 0, C, _ => C
 | f + 1, C, p => if zcr m B C p = none then zbn m B f (C.eraseIdx p) p else zbn m B f C (p + 1)
def znj : Sp := fun vs H Q _ => ∃ (tb tc : Addr) (m : Nat) (B C : List Tie), vs = [.int (m : Int), .ref tb, .ref tc] ∧ TiesAt H tb B ∧ TiesAt H tc C ∧ 1 ≤ m ∧ m ≤ 9 ∧ (∀ t ∈ B, t.Ok m) ∧ (∀ t ∈ C, t.Ok m) ∧ B.length ≤ 20 ∧ C.length ≤ 20 ∧ ∀ (t : Addr) (H' : Hp), Same H H' → TiesAt H' t (zbn m B C.length C 0) → Q (.ref t) H'
structure TightB (sold : List Nat) (b b' : Bg) : Prop where
 u : b'.u = b.u
 ks : b'.ks = b.ks
 lo : ∃ w ∈ sold, w.testBit b.u = true ∧ b'.lo = (cnt b.ks w : Int)
 lo' : ∀ w ∈ sold, w.testBit b.u = true → b'.lo ≤ (cnt b.ks w : Int)
 hi : ∃ w ∈ sold, w.testBit b.u = true ∧ b'.hi = (cnt b.ks w : Int)
 hi' : ∀ w ∈ sold, w.testBit b.u = true → (cnt b.ks w : Int) ≤ b'.hi
def TightL (sold : List Nat) : List Bg → List Bg → Prop
 | [], L => L = []
 | b :: r, L => ∃ b' r', L = b' :: r' ∧ TightB sold b b' ∧ TightL sold r r'
def zs4 : Sp := fun vs H Q _ => ∃ (v : V) (ls : Addr) (b : Bg) (sold : List Nat), vs = [v, .ref ls] ∧ Dn H b.tie.toD v ∧ b.ks.length ≤ 1000 ∧ H ls = some (.lst (zak sold)) ∧ sold.length ≤ 1000 ∧ (∃ w ∈ sold, w.testBit b.u = true) ∧ ∀ (b' : Bg) (v' : V) (H' : Hp), Same H H' → TightB sold b b' → Dn H' b'.tie.toD v' → Q v' H'
def zdb (sold : List Nat) (b : Bg) (c : Int) : Option Nat := sold.find? fun w => w.testBit b.u && decide ((cnt b.ks w : Int) = c)
def zl6 : Sp := fun vs H Q _ => ∃ (ls : Addr) (v : V) (b : Bg) (sold : List Nat) (c : Int) (w : Nat), vs = [.ref ls, v, .int c] ∧ Dn H b.tie.toD v ∧ b.ks.length ≤ 1000 ∧ H ls = some (.lst (zak sold)) ∧ sold.length ≤ 1000 ∧ zdb sold b c = some w ∧ ∀ H', Same H H' → Q (.int (w : Int)) H'
theorem zr1 {H : Hp} {top : Int} {ps : List (Nat × Int)} {v : V} (h : Dn H (Tie.most top ps).toD v) : ∃ p pk xs, v = .ref p ∧ H p = some (.tup [.str ("most" : Str), .int top, .ref pk]) ∧ H pk = some (.tup xs) ∧ DnL H (ps.map zhq) xs := by
 obtain ⟨p, xs, rfl, hp, x1, r1, rfl, h1, x2, r2, rfl, h2, x3, r3, rfl, h3, e⟩ := zdp h
 cases (show r3 = [] from e)
 obtain ⟨pk, ys, rfl, hpk, d⟩ := zdp h3
 cases (show x1 = _ from h1)
 cases (show x2 = _ from h2)
 exact ⟨p, pk, ys, rfl, hp, hpk, d⟩
theorem zr3 {H : Hp} {s : Str} {a b : Nat} {v : V} (h : Dn H (.tuple [.str s, .int (a : Int), .int (b : Int)]) v) : ∃ p, v = .ref p ∧ H p = some (.tup [.str s, .int (a : Int), .int (b : Int)]) := by
 obtain ⟨p, xs, rfl, hp, x1, r1, rfl, h1, x2, r2, rfl, h2, x3, r3, rfl, h3, e⟩ := zdp h
 cases (show r3 = [] from e)
 cases (show x1 = _ from h1)
 cases (show x2 = _ from h2)
 cases (show x3 = _ from h3)
 exact ⟨p, rfl, hp⟩
def zv5 : Option Stmt → Expr
 | some (Stmt.Assign _ e _) => e
 | _ => .Constant .none 0 ⟨0, 0, 0, 0⟩
def fL1 (m : Nat) (L : List Bg) (C : List Tie) : List Bg := L.filterMap (mvB (za0 m (zaq L C)))
def fC1 (m : Nat) (L : List Bg) (C : List Tie) : List Tie := C.filterMap (mvT (za0 m (zaq L C)))
def zdc (m : Nat) (L : List Bg) (C : List Tie) : List Nat := za3 (za0 m (zaq L C)).length (zaq (fL1 m L C) (fC1 m L C))
def fC2 (m : Nat) (L : List Bg) (C : List Tie) (L2 : List Bg) : List Tie := zbn (za0 m (zaq L C)).length (L2.map Bg.tie) (fC1 m L C).length (fC1 m L C) 0
def zd8 (sold : List Nat) (b : Bg) : PyData := .tuple [.int (((zdb sold b b.lo).getD 0 : Nat) : Int), .int (((zdb sold b b.hi).getD 0 : Nat) : Int)]
structure Folded (H H' : Hp) (f : Addr) (m : Nat) (L : List Bg) (C : List Tie) (L2 : List Bg) : Prop where
 tight : TightL (zdc m L C) (fL1 m L C) L2
 ex : ∃ (w2 lk lt ln tb tc : Addr) (xt : List V), H' f = some (.tup [.ref w2, .ref lk, .ref lt, .ref ln]) ∧ H' w2 = some (.tup [.int ((za0 m (zaq L C)).length : Int), .ref tb, .ref tc]) ∧ TiesAt H' tb (L2.map Bg.tie) ∧ TiesAt H' tc (fC2 m L C L2) ∧
  H' lk = some (.lst (zak (za0 m (zaq L C)))) ∧ H' lt = some (.lst xt) ∧ DnL H' (L2.map (zd8 (zdc m L C))) xt ∧ H' ln = some (.lst ((List.range (fC2 m L C L2).length).map fun p => zgc (zcr (za0 m (zaq L C)).length (L2.map Bg.tie) (fC2 m L C L2) p))) ∧ H lk = none ∧ H lt = none ∧ H ln = none ∧ lk ≠ lt ∧ lk ≠ ln ∧ lt ≠ ln
structure WoodP (H : Hp) (wd tb tc : Addr) (m : Nat) (L : List Bg) (C : List Tie) : Prop where
 at_ : H wd = some (.tup [.int (m : Int), .ref tb, .ref tc])
 bs : TiesAt H tb (L.map Bg.tie)
 cs : TiesAt H tc C
 okb : ∀ b ∈ L, Tie.BoughOkW m b.u b.lo b.hi b.ks
 okc : ∀ t ∈ C, t.Ok m
 nb : ∀ t ∈ C, ∀ u lo hi ks, t ≠ .bough u lo hi ks
 m1 : 1 ≤ m
 m9 : m ≤ 9
 fewb : L.length ≤ 20
 fewc : C.length ≤ 20
theorem WoodP.same {H H' : Hp} {wd tb tc : Addr} {m : Nat} {L : List Bg} {C : List Tie} (s : Same H H') (h : WoodP H wd tb tc m L C) : WoodP H' wd tb tc m L C := ⟨s _ _ h.at_, h.bs.same s, h.cs.same s, h.okb, h.okc, h.nb, h.m1, h.m9, h.fewb, h.fewc⟩
theorem WoodP.ok {H : Hp} {wd tb tc : Addr} {m : Nat} {L : List Bg} {C : List Tie} (h : WoodP H wd tb tc m L C) : ∀ t ∈ zaq L C, t.Ok m := fun t ht => by
 rcases List.mem_append.mp ht with z | z
 ·obtain ⟨b, hb, rfl⟩ := List.mem_map.mp z
  exact h.okb b hb
 ·exact h.okc t z
theorem WoodP.tupS {H H' : Hp} {wd tb tc : Addr} {m : Nat} {L : List Bg} {C : List Tie} (s : zh9 H H') (h : WoodP H wd tb tc m L C) : WoodP H' wd tb tc m L C := ⟨s _ _ h.at_, h.bs.tupS s (m := m) (fun t ht => h.ok t (List.mem_append.mpr (.inl ht))) (by have := h.m9; omega), h.cs.tupS s (m := m) (fun t ht => h.ok t (List.mem_append.mpr (.inr ht))) (by have := h.m9; omega), h.okb, h.okc, h.nb, h.m1, h.m9, h.fewb, h.fewc⟩
theorem WoodP.woodT {H : Hp} {wd tb tc : Addr} {m : Nat} {L : List Bg} {C : List Tie} (h : WoodP H wd tb tc m L C) : WoodT H wd m (zaq L C) := by
 have := h.fewb
 have := h.fewc
 have := h.m9
 exact ze7 h.at_ h.bs h.cs h.ok (by rw [List.length_append, List.length_map]; omega) (by omega)
def zqu : Sp := fun vs H Q _ => ∃ (wd tb tc : Addr) (m : Nat) (L : List Bg) (C : List Tie), vs = [.ref wd] ∧ WoodP H wd tb tc m L C ∧ (∃ s, s < 2 ^ m ∧ zbw (zaq L C) s = true) ∧ ∀ (f : Addr) (L2 : List Bg) (H' : Hp), Same H H' → Folded H H' f m L C L2 → Q (.ref f) H'
def zo7 (D : Addr) : Sp := fun vs H _ E => ∃ (wd tb tc : Addr) (m : Nat) (L : List Bg) (C : List Tie), vs = [.ref wd] ∧ WoodP H wd tb tc m L C ∧ (∀ s, s < 2 ^ m → zbw (zaq L C) s = false) ∧ ∀ H', Same H H' → E (.ref D) none H'
theorem TightB.ok {m : Nat} {sold : List Nat} {b b' : Bg} (t : TightB sold b b') (ok : Tie.BoughOkW m b.u b.lo b.hi b.ks) : Tie.BoughOkW m b'.u b'.lo b'.hi b'.ks := by
 obtain ⟨w, hw, hb, e⟩ := t.lo
 have h2 := t.hi' w hw hb
 refine ⟨by rw [t.u]; exact ok.um, by rw [t.ks]; exact ok.ks0, by rw [t.u, t.ks]; exact ok.up, by rw [t.ks]; exact ok.ris, by rw [t.ks]; exact ok.few, by omega, by omega⟩
theorem TightL.length {sold : List Nat} : ∀ {L L' : List Bg}, TightL sold L L' → L'.length = L.length
 | [], _, h => by cases (show _ = [] from h); rfl
 | _ :: _, _, ⟨b', r', e, _, h⟩ => by rw [e, List.length_cons, List.length_cons, TightL.length h]
theorem TightL.ok {m : Nat} {sold : List Nat} : ∀ {L L' : List Bg}, TightL sold L L' → (∀ b ∈ L, Tie.BoughOkW m b.u b.lo b.hi b.ks) → ∀ b ∈ L', Tie.BoughOkW m b.u b.lo b.hi b.ks
 | [], _, h, _ => fun x hx => by rw [show _ = [] from h] at hx; cases hx
 | _ :: _, _, ⟨b', r', e, t, h⟩, ok => by
  rw [e]
  intro x hx
  rcases List.mem_cons.mp hx with rfl | hx
  ·exact t.ok (ok _ List.mem_cons_self)
  ·exact TightL.ok h (fun y hy => ok y (List.mem_cons_of_mem _ hy)) x hx
theorem TightL.snoc {sold : List Nat} {b b' : Bg} (t : TightB sold b b') : ∀ {L L' : List Bg}, TightL sold L L' → TightL sold (L ++ [b]) (L' ++ [b'])
 | [], _, h => by cases (show _ = [] from h); exact ⟨b', [], rfl, t, rfl⟩
 | _ :: _, _, ⟨c', r', e, u, h⟩ => ⟨c', r' ++ [b'], by rw [e]; rfl, u, TightL.snoc t h⟩
theorem TightL.get {sold : List Nat} : ∀ {L L' : List Bg} {i : Nat} {b' : Bg}, TightL sold L L' → L'[i]? = some b' → ∃ b, L[i]? = some b ∧ TightB sold b b'
 | [], _, i, _, h, e => by rw [show _ = [] from h] at e; cases e
 | c :: _, _, 0, b', ⟨c', r', e', t, h⟩, e => by rw [e'] at e; cases e; exact ⟨c, rfl, t⟩
 | c :: r, _, i + 1, b', ⟨c', r', e', t, h⟩, e => by rw [e'] at e; exact TightL.get (i := i) h (by rw [List.getElem?_cons_succ] at e; exact e)
theorem needless_sub {m : Nat} {B : List Tie} : ∀ {f : Nat} {C : List Tie} {p : Nat}, (zbn m B f C p).Sublist C
 | 0, C, _ => List.Sublist.refl C
 | f + 1, C, p => by
  unfold zbn
  split
  ·exact needless_sub.trans (List.eraseIdx_sublist C p)
  ·exact needless_sub
theorem zlt {sold : List Nat} {b : Bg} {c : Int} (h : ∃ w ∈ sold, w.testBit b.u = true ∧ c = (cnt b.ks w : Int)) : ∃ w, zdb sold b c = some w := by
 obtain ⟨w, hw, hb, e⟩ := h
 unfold zdb
 cases z : sold.find? fun w => w.testBit b.u && decide ((cnt b.ks w : Int) = c) with
 | some w' => exact ⟨w', rfl⟩
 | none =>
  have := List.find?_eq_none.mp z w hw
  rw [hb, decide_eq_true e.symm] at this
  exact absurd rfl this
theorem TightB.first_lo {sold : List Nat} {b b' : Bg} (t : TightB sold b b') : ∃ w, zdb sold b' b'.lo = some w := zlt (by rw [t.u, t.ks]; exact t.lo)
theorem TightB.first_hi {sold : List Nat} {b b' : Bg} (t : TightB sold b b') : ∃ w, zdb sold b' b'.hi = some w := zlt (by rw [t.u, t.ks]; exact t.hi)
theorem zs6 {m w0 : Nat} {L : List Bg} {C : List Tie} (nb : ∀ t ∈ C, ∀ u lo hi ks, t ≠ .bough u lo hi ks) {b' : Bg} (h : b' ∈ fL1 m L C) : ∃ w ∈ zdc m L C, w.testBit b'.u = true := by
 obtain ⟨b, hb, e⟩ := List.mem_filterMap.mp h
 have hbt : b.tie ∈ zaq L C := List.mem_append.mpr (.inl (List.mem_map.mpr ⟨b, hb, rfl⟩))
 unfold mvB at e
 split at e
 ·cases e
 ·rename_i ne
  cases e
  obtain ⟨k, hk0⟩ := List.exists_mem_of_ne_nil _ ne
  have hk' := List.mem_filter.mp hk0
  have hu := zg3 hbt ⟨k, hk'.1, of_decide_eq_true hk'.2⟩
  obtain ⟨_, w, hw, W, hbit⟩ := mem_keptL.mp hu
  refine ⟨zft (za0 m (zaq L C)) w, mem_wareL.mpr ⟨zt6 _ _, zrw nb hw W⟩, ?_⟩
  rw [zez hu]
  exact hbit
theorem zmm {m : Nat} {ts : List Tie} (h : ∃ s, s < 2 ^ m ∧ zbw ts s = true) : 1 ≤ (za0 m ts).length := by
 obtain ⟨s, hs, W⟩ := h
 have h0 : s.testBit 0 = true := by
  unfold zbw at W
  exact (Bool.and_eq_true_iff.mp W).1
 exact List.length_pos_of_mem (zhe hs W h0)
end Wd
set_option maxRecDepth 100000
set_option maxHeartbeats 4000000
namespace L2
open PySem PySem.Spec
theorem zpj {X : Cx} {K : PySem.W.Frag} (hc : X.calm = true) (hK : X.K = K := by rfl) : zdh X (.builtin "all") (fun xs H Q => ∃ (p : Addr) (bs : List Bool), xs = [.ref p] ∧ SqL K H p (bs.map V.bl) ∧ Q (.bl (bs.all id)) H) := hK ▸ zmr hc
theorem zpb {lo st : Int} {n : Nat} {σ0 : St} {H : Hp} {g : TG} {tc : TT} {te : TE} {Q : VK} (Pv : Nat → List V → St → Hp → Prop) (h0 : Pv 0 [] σ0 H) (hz : ∀ i ys σ H, i ≤ n → Pv i ys σ H → ys.length ≤ sizeLine)
  (hs : ∀ i ys σ H, i < n → Pv i ys σ H → g (.int (lo + i * st)) σ H fun σ2 H2 => tc σ2 H2 fun b H3 => if b = true then te σ2 H3 fun v H4 => Pv (i + 1) (ys ++ [v]) σ2 H4 else Pv (i + 1) ys σ2 H3)
  (hd : ∀ ys σ H, Pv n ys σ H → ∀ p, H p = none → Q (.ref p) (upd H p (.lst ys))) : zov (Its lo st n) g tc te σ0 H Q := by
 refine ⟨fun i m ys σ H => m = n - i ∧ i ≤ n ∧ Pv i ys σ H, ⟨n, by simp, Nat.zero_le _, h0⟩, ?_⟩
 rintro i m ys σ H ⟨rfl, hi, p⟩
 refine ⟨hz i ys σ H hi p, ?_⟩
 by_cases hlt : i < n
 ·refine .inr ⟨hlt, Pv (i + 1), fun ys' σ' H' p' => ⟨n - (i + 1), by omega, rfl, hlt, p'⟩, fun x H' y => ?_⟩
  obtain ⟨e1, e2⟩ := y
  subst e1
  subst e2
  exact hs i ys σ _ hlt p
 ·have e : i = n := by omega
  subst e
  exact .inl ⟨Nat.le_refl _, hd ys σ H p⟩
end L2
namespace Wd
open PySem L2 Ow
theorem zir {m : Nat} {B C : List Tie} {p : Nat} {t : Tie} (h : C[p]? = some t) : zcr m B C p = none ↔ ((za3 m (B ++ C.eraseIdx p)).all fun s => t.keep s) = true := by
 unfold zcr
 rw [h, List.find?_eq_none, List.all_eq_true]
 constructor
 ·intro z s hs
  have := z s hs
  simpa using this
 ·intro z s hs
  simp [z s hs]
def zr5 : Sp := fun vs H Q _ => ∃ (wd tb tc : Addr) (m : Nat) (L : List Bg) (C : List Tie), vs = [.ref wd] ∧ WoodP H wd tb tc m L C ∧ ((∀ s, s < 2 ^ m → zbw (zaq L C) s = false) → ∀ H', Same H H' → Q .non H') ∧ ((∃ s, s < 2 ^ m ∧ zbw (zaq L C) s = true) → ∀ (f : Addr) (L2 : List Bg) (H' : Hp), Same H H' → Folded H H' f m L C L2 → Q (.ref f) H')
theorem WoodX.parts {H : Hp} {wd : Addr} {m : Nat} {bs cs : List PyData} (h : WoodX H wd m bs cs) : ∃ (tb tc : Addr) (L : List Bg) (C : List Tie), WoodP H wd tb tc m L C ∧ bs = (L.map Bg.tie).map Tie.toD ∧ cs = C.map Tie.toD := by
 obtain ⟨xs, ys, ⟨tb, tc, h1, h2, h3⟩, db, dc⟩ := h.ex
 obtain ⟨L, e, ok⟩ := zrm h.gb.each
 obtain ⟨C, e2, okc⟩ := zj3 (P := fun t => t.Ok m ∧ ∀ u lo hi ks, t ≠ .bough u lo hi ks) (l := cs) fun x hx => by
  obtain ⟨t, a, b, c⟩ := zlj (h.gc x hx)
  exact ⟨t, a, b, c⟩
 have b8 := h.b8
 have c8 := h.c8
 have e' : bs = (L.map Bg.tie).map Tie.toD := by rw [e, List.map_map]; rfl
 refine ⟨tb, tc, L, C, ⟨h1, ⟨xs, h2, by rw [← e']; exact db⟩, ⟨ys, h3, by rw [← e2]; exact dc⟩, fun b hb => (ok b hb).toBoughOkW, fun t ht => (okc t ht).1, fun t ht => (okc t ht).2, h.m1, h.m9, ?_, ?_⟩, e', e2⟩
 ·rw [e, List.length_map] at b8
  omega
 ·rw [e2, List.length_map] at c8
  omega
end Wd
set_option maxRecDepth 100000
set_option maxHeartbeats 4000000
namespace Wd
open PySem L2 Ow
theorem TightL.mem {sold : List Nat} {L L' : List Bg} (h : TightL sold L L') {b' : Bg} (hb : b' ∈ L') : ∃ b ∈ L, TightB sold b b' := by
 obtain ⟨i, hi, e⟩ := List.getElem_of_mem hb
 obtain ⟨b, h1, h2⟩ := h.get (i := i) (b' := b') (by rw [List.getElem?_eq_getElem hi, e])
 exact ⟨b, List.mem_of_getElem? h1, h2⟩
theorem TightL.mem' {sold : List Nat} : ∀ {L L' : List Bg}, TightL sold L L' → ∀ {b : Bg}, b ∈ L → ∃ b' ∈ L', TightB sold b b'
 | _ :: _, _, ⟨c', r', e, t, h⟩, b, hb => by
  rw [e]
  rcases List.mem_cons.mp hb with rfl | hb
  ·exact ⟨c', List.mem_cons_self, t⟩
  ·obtain ⟨b', h1, h2⟩ := TightL.mem' h hb
   exact ⟨b', List.mem_cons_of_mem _ h1, h2⟩
theorem zm0 {b : Bg} {s : Nat} : b.tie.keep s = if s.testBit b.u = true then decide (b.lo ≤ (cnt b.ks s : Int)) && decide ((cnt b.ks s : Int) ≤ b.hi) else decide (cnt b.ks s = 0) := rfl
theorem zms {k : Nat} {L1 L2 : List Bg} {C : List Tie} (tl : TightL (za3 k (zaq L1 C)) L1 L2) : za3 k (zaq L2 C) = za3 k (zaq L1 C) := by
 have e : ∀ s, s < 2 ^ k → (zbw (zaq L2 C) s = true ↔ zbw (zaq L1 C) s = true) := by
  intro s hs
  constructor
  ·intro W
   unfold zbw at W ⊢
   rw [Bool.and_eq_true, List.all_eq_true] at W ⊢
   refine ⟨W.1, fun t ht => ?_⟩
   rcases List.mem_append.mp ht with z | z
   ·obtain ⟨b, hb, rfl⟩ := List.mem_map.mp z
    obtain ⟨b', hb', tb⟩ := tl.mem' hb
    have hk := W.2 b'.tie (List.mem_append.mpr (.inl (List.mem_map.mpr ⟨b', hb', rfl⟩)))
    rw [zm0, tb.u, tb.ks] at hk
    rw [zm0]
    by_cases u : s.testBit b.u = true
    ·rw [if_pos u] at hk ⊢
     rw [Bool.and_eq_true, decide_eq_true_iff, decide_eq_true_iff] at hk ⊢
     have keepw : ∀ w ∈ za3 k (zaq L1 C), w.testBit b.u = true → b.lo ≤ (cnt b.ks w : Int) ∧ (cnt b.ks w : Int) ≤ b.hi := fun w hw hu => by
      have := (mem_wareL.mp hw).2
      unfold zbw at this
      have hk := List.all_eq_true.mp (Bool.and_eq_true_iff.mp this).2 b.tie (List.mem_append.mpr (.inl (List.mem_map.mpr ⟨b, hb, rfl⟩)))
      rw [zm0, if_pos hu, Bool.and_eq_true, decide_eq_true_iff, decide_eq_true_iff] at hk
      exact hk
     obtain ⟨w, hw, hu, el⟩ := tb.lo
     obtain ⟨w', hw', hu', eh⟩ := tb.hi
     have a1 := (keepw w hw hu).1
     have a2 := (keepw w' hw' hu').2
     omega
    ·rw [if_neg u] at hk ⊢
     exact hk
   ·exact W.2 t (List.mem_append.mpr (.inr z))
  ·intro W
   have hs' : s ∈ za3 k (zaq L1 C) := mem_wareL.mpr ⟨hs, W⟩
   unfold zbw at W ⊢
   rw [Bool.and_eq_true, List.all_eq_true] at W ⊢
   refine ⟨W.1, fun t ht => ?_⟩
   rcases List.mem_append.mp ht with z | z
   ·obtain ⟨b', hb', rfl⟩ := List.mem_map.mp z
    obtain ⟨b, hb, tb⟩ := tl.mem hb'
    have hk := W.2 b.tie (List.mem_append.mpr (.inl (List.mem_map.mpr ⟨b, hb, rfl⟩)))
    rw [zm0] at hk
    rw [zm0, tb.u, tb.ks]
    by_cases u : s.testBit b.u = true
    ·rw [if_pos u, Bool.and_eq_true, decide_eq_true_iff, decide_eq_true_iff]
     exact ⟨tb.lo' s hs' u, tb.hi' s hs' u⟩
    ·rw [if_neg u] at hk ⊢
     exact hk
   ·exact W.2 t (List.mem_append.mpr (.inr z))
 unfold za3
 refine List.filter_congr fun s hs => ?_
 rw [Bool.eq_iff_iff]
 exact e s (List.mem_range.mp hs)
theorem zpf {k : Nat} {A B : List Tie} (h : ∀ s, s < 2 ^ k → (zbw A s = true ↔ zbw B s = true)) : za3 k A = za3 k B := by
 unfold za3
 refine List.filter_congr fun s hs => ?_
 rw [Bool.eq_iff_iff]
 exact h s (List.mem_range.mp hs)
theorem zpo {C : List Tie} {p : Nat} {t x : Tie} (h : C[p]? = some t) (hx : x ∈ C) : x = t ∨ x ∈ C.eraseIdx p := by
 obtain ⟨hp, e⟩ := List.getElem?_eq_some_iff.mp h
 rw [← List.take_append_drop p C, List.drop_eq_getElem_cons hp, e] at hx
 rw [List.eraseIdx_eq_take_drop_succ]
 rcases List.mem_append.mp hx with z | z
 ·exact .inr (List.mem_append.mpr (.inl z))
 ·rcases List.mem_cons.mp z with z | z
  ·exact .inl z
  ·exact .inr (List.mem_append.mpr (.inr z))
theorem zkg {A B : List Tie} {s : Nat} (h : ∀ t ∈ B, t ∈ A) (W : zbw A s = true) : zbw B s = true := by
 unfold zbw at W ⊢
 rw [Bool.and_eq_true, List.all_eq_true] at W ⊢
 exact ⟨W.1, fun t ht => W.2 t (h t ht)⟩
theorem zd6 {k : Nat} {B : List Tie} : ∀ {f : Nat} {C : List Tie} {p : Nat}, C.length = p + f → za3 k (B ++ zbn k B f C p) = za3 k (B ++ C)
 | 0, C, p, _ => rfl
 | f + 1, C, p, hl => by
  have hp : p < C.length := by omega
  have hcp : C[p]? = some C[p] := List.getElem?_eq_getElem hp
  unfold zbn
  split
  ·rename_i e
   rw [zd6 (by rw [List.length_eraseIdx, if_pos hp]; omega)]
   refine zpf fun s hs => ⟨fun W => ?_, fun W => zkg (fun t ht => ?_) W⟩
   ·have all := (zir hcp).mp e
    have hk := List.all_eq_true.mp all s (mem_wareL.mpr ⟨hs, W⟩)
    unfold zbw at W ⊢
    rw [Bool.and_eq_true, List.all_eq_true] at W ⊢
    refine ⟨W.1, fun t ht => ?_⟩
    rcases List.mem_append.mp ht with z | z
    ·exact W.2 t (List.mem_append.mpr (.inl z))
    ·rcases zpo hcp z with y | y
     ·rw [y]; exact hk
     ·exact W.2 t (List.mem_append.mpr (.inr y))
   ·rcases List.mem_append.mp ht with z | z
    ·exact List.mem_append.mpr (.inl z)
    ·exact List.mem_append.mpr (.inr (List.mem_of_mem_eraseIdx z))
  ·exact zd6 (by omega)
theorem zek {k : Nat} {B : List Tie} : ∀ {f : Nat} {C : List Tie} {p : Nat}, C.length = p + f → (∀ j, j < p → zcr k B C j ≠ none) → ∀ j, j < (zbn k B f C p).length → zcr k B (zbn k B f C p) j ≠ none
 | 0, C, p, hl, h => fun j hj => h j (by have : j < C.length := hj; omega)
 | f + 1, C, p, hl, h => by
  have hp : p < C.length := by omega
  have hcp : C[p]? = some C[p] := List.getElem?_eq_getElem hp
  unfold zbn
  split
  ·refine zek (by rw [List.length_eraseIdx, if_pos hp]; omega) fun j hj z => h j hj ?_
   have hj1 : j < C.length := by omega
   have hcj : C[j]? = some C[j] := List.getElem?_eq_getElem hj1
   have hcj' : (C.eraseIdx p)[j]? = some C[j] := by rw [List.getElem?_eraseIdx_of_lt hj]; exact hcj
   rw [zir hcj'] at z
   rw [zir hcj, List.all_eq_true]
   intro s hs
   obtain ⟨h1, W⟩ := mem_wareL.mp hs
   refine List.all_eq_true.mp z s (mem_wareL.mpr ⟨h1, zkg (fun t ht => ?_) W⟩)
   rcases List.mem_append.mp ht with y | y
   ·exact List.mem_append.mpr (.inl y)
   ·refine List.mem_append.mpr (.inr ?_)
    have comm : (C.eraseIdx p).eraseIdx j = (C.eraseIdx j).eraseIdx (p - 1) := by
     apply List.ext_getElem?
     intro i
     simp only [List.getElem?_eraseIdx]
     split <;> split <;> (try split) <;> (try split) <;> first | rfl | (congr 1; omega) | omega
    rw [comm] at y
    exact List.mem_of_mem_eraseIdx y
  ·rename_i e
   refine zek (by omega) fun j hj => ?_
   by_cases z : j < p
   ·exact h j z
   ·obtain rfl : j = p := by omega
    exact e
theorem TightB.unique {sold : List Nat} {b b1 b2 : Bg} (h1 : TightB sold b b1) (h2 : TightB sold b b2) : b1 = b2 := by
 obtain ⟨w, hw, hu, e⟩ := h1.lo
 obtain ⟨w', hw', hu', e'⟩ := h2.lo
 obtain ⟨v, hv, hvu, f⟩ := h1.hi
 obtain ⟨v', hv', hvu', f'⟩ := h2.hi
 have a1 := h1.lo' w' hw' hu'
 have a2 := h2.lo' w hw hu
 have a3 := h1.hi' v' hv' hvu'
 have a4 := h2.hi' v hv hvu
 obtain ⟨u1, l1, g1, k1⟩ := b1
 obtain ⟨u2, l2, g2, k2⟩ := b2
 have x1 : u1 = b.u := h1.u
 have x2 : u2 = b.u := h2.u
 have y1 : k1 = b.ks := h1.ks
 have y2 : k2 = b.ks := h2.ks
 simp only at e e' f f' a1 a2 a3 a4
 rw [x1, x2, y1, y2]
 have z1 : l1 = l2 := by omega
 have z2 : g1 = g2 := by omega
 rw [z1, z2]
theorem TightL.unique {sold : List Nat} : ∀ {L A B : List Bg}, TightL sold L A → TightL sold L B → A = B
 | [], _, _, h1, h2 => by rw [show _ = [] from h1, show _ = [] from h2]
 | _ :: _, _, _, ⟨a, r, e, t, h⟩, ⟨a', r', e', t', h'⟩ => by rw [e, e', t.unique t', TightL.unique h h']
def zo4 : Sp := fun vs H Q _ => ∃ (lt : Addr) (xs : List V) (m : Nat) (B : List Tie), vs = [.int (m : Int), .ref lt] ∧ H lt = some (.lst xs) ∧ DnL H (B.map Tie.toD) xs ∧ (∀ c ∈ B, c.Ok m) ∧ 1 ≤ m ∧ m ≤ 9 ∧ B.length ≤ 100 ∧ ∀ (l : Addr) (H' : Hp), Same H H' → H l = none → H' l = some (.lst (zak (za3 m B))) → Q (.ref l) H'
def zoz : Sp := fun vs H Q _ => ∃ (l : Addr) (L : List Nat), vs = [.ref l] ∧ H l = some (.lst (zak L)) ∧ Q (zgc L[0]?) H
def zqm : Sp := fun vs H Q _ => ∃ (pk : Addr) (ks : List Nat) (n : Nat), vs = [.ref pk, .int (n : Int)] ∧ H pk = some (.tup (zak ks)) ∧ ks.length ≤ 100 ∧ (∀ k ∈ ks, k ≤ 20) ∧ ∀ H', Same H H' → Q (.int (cnt ks n : Nat)) H'
def zqp : Sp := fun vs H Q _ => ∃ (wd tb tc : Addr) (m : Nat) (L : List Bg) (C : List Tie), vs = [.ref wd] ∧ WoodP H wd tb tc m L C ∧ (∀ b ∈ L, (∃ w, zdb (za3 m (zaq L C)) b b.lo = some w) ∧ ∃ w, zdb (za3 m (zaq L C)) b b.hi = some w) ∧ ∀ (l : Addr) (xs : List V) (H' : Hp), Same H H' → H l = none → H' l = some (.lst xs) → DnL H' (L.map (zd8 (za3 m (zaq L C)))) xs → Q (.ref l) H'
def zp0 : Sp := fun vs H Q _ => ∃ (wd tb tc : Addr) (m : Nat) (L : List Bg) (C : List Tie), vs = [.ref wd] ∧ WoodP H wd tb tc m L C ∧ ∀ (l : Addr) (H' : Hp), Same H H' → H l = none → H' l = some (.lst ((List.range C.length).map fun p => zgc (zcr m (L.map Bg.tie) C p))) → Q (.ref l) H'
theorem zpw {m : Nat} {B : List Tie} (m1 : 1 ≤ m) : za3 m B = ((List.range (2 ^ (m - 1))).filter fun i => B.all fun t => t.keep (1 + 2 * i)).map fun i => 1 + 2 * i := by
 have main : ∀ h, (List.range (2 * h)).filter (zbw B) = ((List.range h).filter fun i => B.all fun t => t.keep (1 + 2 * i)).map fun i => 1 + 2 * i := by
  intro h
  induction h with
  | zero => rfl
  | succ h ih =>
   rw [show 2 * (h + 1) = 2 * h + 1 + 1 by omega, List.range_succ, List.range_succ, List.filter_append, List.filter_append, ih, List.range_succ, List.filter_append, List.map_append]
   have e0 : zbw B (2 * h) = false := by
    unfold zbw
    rw [Nat.testBit_zero, decide_eq_false (by omega), Bool.false_and]
   have e1 : zbw B (2 * h + 1) = B.all fun t => t.keep (1 + 2 * h) := by
    unfold zbw
    rw [Nat.testBit_zero, decide_eq_true (by omega), Bool.true_and, Nat.add_comm]
   rw [List.filter_cons_of_neg (by rw [e0]; exact Bool.false_ne_true), List.filter_nil, List.append_nil]
   congr 1
   cases z : B.all fun t => t.keep (1 + 2 * h)
   ·rw [List.filter_cons_of_neg (by rw [e1, z]; exact Bool.false_ne_true), List.filter_cons_of_neg (by rw [z]; exact Bool.false_ne_true)]
    rfl
   ·rw [List.filter_cons_of_pos (by rw [e1, z]), List.filter_cons_of_pos (by exact z)]
    show [2 * h + 1] = [1 + 2 * h]
    rw [Nat.add_comm]
 have e2 : 2 ^ m = 2 * 2 ^ (m - 1) := by
  obtain ⟨m', rfl⟩ : ∃ m', m = m' + 1 := ⟨m - 1, by omega⟩
  rw [Nat.add_sub_cancel, Nat.pow_succ, Nat.mul_comm]
 show (List.range (2 ^ m)).filter (zbw B) = _
 rw [e2]
 exact main _
end Wd
set_option maxRecDepth 100000
set_option maxHeartbeats 4000000
namespace Wd
open PySem L2 Ow
theorem zjx {sold : List Nat} {b : Bg} {c : Int} : ((sold.filter fun w => w.testBit b.u).filter fun w => decide ((cnt b.ks w : Int) = c))[0]? = zdb sold b c := by
 rw [List.filter_filter, ← List.head?_eq_getElem?, List.head?_filter]
 unfold zdb
 congr 1
 funext w
 rw [Bool.and_comm]
theorem zr0 {m p : Nat} {B C : List Tie} {t : Tie} (h : C[p]? = some t) : ((za3 m (B ++ C.eraseIdx p)).filter fun s => !t.keep s)[0]? = zcr m B C p := by
 rw [← List.head?_eq_getElem?, List.head?_filter]
 unfold zcr
 rw [h]
 rfl
theorem zct {α : Type} {p : α → Bool} {xs : List α} {i : Nat} {x : α} (h : xs[i]? = some x) (z : Bool) (hz : p x = z) : (xs.take (i + 1)).filter p = (xs.take i).filter p ++ (if z = true then [x] else []) := by
 rw [List.take_add_one, h, Option.toList_some, List.filter_append]
 congr 1
 cases z
 ·rw [List.filter_cons_of_neg (by rw [hz]; exact Bool.false_ne_true)]; rfl
 ·rw [List.filter_cons_of_pos (by exact hz)]; rfl
theorem zjm {α : Type} {xs : List α} {i j : Nat} (h : j < xs.length) (e : j = i) : (xs.take (j + 1)).eraseIdx i = (xs.take j).eraseIdx i := by
 subst e
 rw [List.eraseIdx_eq_take_drop_succ, List.take_take, List.drop_eq_nil_of_le (by rw [List.length_take]; omega), List.append_nil, Nat.min_eq_left (by omega), List.eraseIdx_of_length_le (by rw [List.length_take]; omega)]
theorem zjr {α : Type} {xs : List α} {i j : Nat} {x : α} (h : xs[j]? = some x) (e : j ≠ i) : (xs.take (j + 1)).eraseIdx i = (xs.take j).eraseIdx i ++ [x] := by
 have hj := (List.getElem?_eq_some_iff.mp h).1
 rw [List.take_add_one, h, Option.toList_some]
 by_cases z : i < j
 ·rw [List.eraseIdx_append_of_lt_length (by rw [List.length_take]; omega)]
 ·rw [List.eraseIdx_of_length_le (by rw [List.length_append, List.length_take, List.length_singleton]; omega), List.eraseIdx_of_length_le (by rw [List.length_take]; omega)]
theorem zu4 {c A B : Prop} [Decidable c] (hc : c) (h : B) : if (!decide c) = true then A else B := by
 rw [if_neg (by rw [decide_eq_true hc]; decide)]
 exact h
theorem zvh {c A B : Prop} [Decidable c] (hc : ¬ c) (h : A) : if (!decide c) = true then A else B := by
 rw [if_pos (by rw [decide_eq_false hc]; rfl)]
 exact h
theorem ze5 {sold : List Nat} : ∀ {L : List Bg}, (L.map (zd8 sold)).all (zbh 2) = true
 | [] => rfl
 | b :: r => by
  rw [List.map_cons, List.all_cons, ze5 (L := r), Bool.and_true]
  rfl
theorem zhj {n : Nat} {ds : List PyData} (h : ds.all (zbh n) = true) (hn : n ≤ 60) : SeqAt.shaped (.list ds) = true := by
 obtain ⟨a, b⟩ := zfv n _ h
 unfold SeqAt.shaped
 rw [Bool.and_eq_true]
 refine ⟨by simpa [PyData.canLay0] using a, decide_eq_true ?_⟩
 simp only [PyData.depth]
 omega
theorem zj0 : ∀ {L : List Nat}, (L.map fun k : Nat => PyData.int (k : Int)).all (zbh 1) = true
 | [] => rfl
 | b :: r => by
  rw [List.map_cons, List.all_cons, zj0 (L := r), Bool.and_true]
  rfl
theorem zn6 : ∀ L : List Nat, inV .non (zak L) = false
 | [] => rfl
 | x :: r => by
  have := zn6 r
  unfold inV at this ⊢
  rw [show zak (x :: r) = V.int (x : Int) :: zak r from rfl, List.any_cons, this]
  rfl
theorem zin : ∀ L : List Nat, (zak L).all zfg = true
 | [] => rfl
 | x :: r => by
  rw [show zak (x :: r) = V.int (x : Int) :: zak r from rfl, List.all_cons, zin r]
  rfl
structure zu3 (H H' : Hp) (f w2 tb tc lt ln : Addr) (xt : List V) (m : Nat) (L : List Bg) (C : List Tie) (L2 : List Bg) (ne : List Nat) : Prop where
 wood : WoodP H' w2 tb tc (za0 m (zaq L C)).length L2 (fC2 m L C L2)
 sold : za3 (za0 m (zaq L C)).length (zaq L2 (fC2 m L C L2)) = zdc m L C
 fst : ∀ b ∈ L2, (∃ w, zdb (zdc m L C) b b.lo = some w) ∧ ∃ w, zdb (zdc m L C) b b.hi = some w
 at_ : ∃ lk, H' f = some (.tup [.ref w2, .ref lk, .ref lt, .ref ln])
 lt_ : H' lt = some (.lst xt)
 xt_ : DnL H' (L2.map (zd8 (zdc m L C))) xt
 ln_ : H' ln = some (.lst (zak ne))
 eqn : ((List.range (fC2 m L C L2).length).map fun p => zgc (zcr (za0 m (zaq L C)).length (L2.map Bg.tie) (fC2 m L C L2) p)) = zak ne
 nlt : H lt = none
 nln : H ln = none
 nn : lt ≠ ln
theorem zt5 {kept : List Nat} {t t' : Tie} (nb : ∀ u lo hi ks, t ≠ .bough u lo hi ks) (h : mvT kept t = some t') {u : Nat} {lo hi : Int} {ks : List Nat} : t' ≠ .bough u lo hi ks := by
 intro e
 subst e
 cases t with
 | bough u lo hi ks => exact nb _ _ _ _ rfl
 | needs a b =>
  simp only [mvT] at h
  split at h <;> cases h
 | bans a b =>
  simp only [mvT] at h
  split at h <;> cases h
 | most top ps =>
  simp only [mvT] at h
  split at h <;> cases h
theorem zhl {sold : List Nat} {b : Bg} {c : Int} (h : ∃ w ∈ sold, w.testBit b.u = true ∧ c = (cnt b.ks w : Int)) : ∃ w, zdb sold b c = some w := by
 obtain ⟨w, hw, hu, e⟩ := h
 unfold zdb
 rw [← Option.isSome_iff_exists, List.find?_isSome]
 exact ⟨w, hw, by rw [hu, decide_eq_true e.symm]; rfl⟩
theorem Folded.parts {H H' : Hp} {f : Addr} {wd tb0 tc0 : Addr} {m : Nat} {L : List Bg} {C : List Tie} {L2 : List Bg} (h : Folded H H' f m L C L2) (W : WoodP H wd tb0 tc0 m L C) (ware : ∃ s, s < 2 ^ m ∧ zbw (zaq L C) s = true) : ∃ w2 tb tc lt ln xt ne, zu3 H H' f w2 tb tc lt ln xt m L C L2 ne := by
 obtain ⟨w2, lk, lt, ln, tb, tc, xt, hf, hw2, hB2, hC2, hlk, hlt, dt, hln, nlk, nlt, nln, _, _, nn⟩ := h.ex
 have tl := h.tight
 have klen := zj2 m (zaq L C)
 have kpos := zmm ware
 have pw := zid m (zaq L C)
 have m9 := W.m9
 have ok1 : ∀ b ∈ fL1 m L C, Tie.BoughOkW (za0 m (zaq L C)).length b.u b.lo b.hi b.ks := fun b' hb' => by
  obtain ⟨b, hb, e⟩ := List.mem_filterMap.mp hb'
  exact zkm pw (W.okb b hb) (zg3 (List.mem_append.mpr (.inl (List.mem_map.mpr ⟨b, hb, rfl⟩)))) e
 have okc1 : ∀ t ∈ fC1 m L C, t.Ok (za0 m (zaq L C)).length := fun t ht => by
  obtain ⟨c, hc, e⟩ := List.mem_filterMap.mp ht
  exact zk3 pw (W.okc c hc) (W.nb c hc) e
 have nb1 : ∀ t ∈ fC1 m L C, ∀ u lo hi ks, t ≠ .bough u lo hi ks := fun t ht => by
  obtain ⟨c, hc, e⟩ := List.mem_filterMap.mp ht
  exact fun u lo hi ks => zt5 (W.nb c hc) e
 have fb1 : (fL1 m L C).length ≤ 20 := Nat.le_trans (List.length_filterMap_le _ _) W.fewb
 have fc1 : (fC1 m L C).length ≤ 20 := Nat.le_trans (List.length_filterMap_le _ _) W.fewc
 have sub := needless_sub (m := (za0 m (zaq L C)).length) (B := L2.map Bg.tie) (f := (fC1 m L C).length) (C := fC1 m L C) (p := 0)
 have es : ((List.range (fC2 m L C L2).length).map fun p => zgc (zcr (za0 m (zaq L C)).length (L2.map Bg.tie) (fC2 m L C L2) p)) = zak ((List.range (fC2 m L C L2).length).map fun p => (zcr (za0 m (zaq L C)).length (L2.map Bg.tie) (fC2 m L C L2) p).getD 0) := by
  rw [show ∀ M : List Nat, zak M = M.map fun k : Nat => V.int (k : Int) from fun _ => rfl, List.map_map]
  refine List.map_congr_left fun p hp => ?_
  have := zek (k := (za0 m (zaq L C)).length) (B := L2.map Bg.tie) (f := (fC1 m L C).length) (C := fC1 m L C) (p := 0) (by omega) (fun j hj => absurd hj (Nat.not_lt_zero _)) p (List.mem_range.mp hp)
  obtain ⟨s, hs⟩ := Option.ne_none_iff_exists'.mp this
  show zgc (zcr _ _ (zbn _ _ _ _ _) p) = V.int (((zcr _ _ (zbn _ _ _ _ _) p).getD 0 : Nat) : Int)
  rw [hs]
  rfl
 refine ⟨w2, tb, tc, lt, ln, xt, _, ⟨hw2, hB2, hC2, tl.ok ok1, fun t ht => okc1 t (sub.mem ht), fun t ht => nb1 t (sub.mem ht), kpos, by omega, by rw [tl.length]; exact fb1, Nat.le_trans sub.length_le fc1⟩, ?_, fun b' hb' => ?_, ⟨lk, hf⟩, hlt, dt, es ▸ hln, es, nlt, nln, nn⟩
 ·have e1 := zd6 (k := (za0 m (zaq L C)).length) (B := L2.map Bg.tie) (f := (fC1 m L C).length) (C := fC1 m L C) (p := 0) (by omega)
  have e2 := zms (k := (za0 m (zaq L C)).length) (C := fC1 m L C) tl
  exact e1.trans e2
 ·obtain ⟨b, hb, t⟩ := tl.mem hb'
  refine ⟨zhl ?_, zhl ?_⟩
  ·rw [t.u, t.ks]; exact t.lo
  ·rw [t.u, t.ks]; exact t.hi
end Wd
set_option maxRecDepth 100000
set_option maxHeartbeats 4000000
namespace Ow
open PySem L2 Wd
theorem _root_.L2.Room.lv {A : Around} {j k : Nat} (hr : Room k A) (h : j ≤ k := by first | decide | omega) : Room j A := hr.mono h
def top (i : Nat) : Stmt := PySem.Challenge.pw_optionwood_k71_tight_and_needed.main.body.getD i (.Pass ⟨0, 0, 0, 0⟩)
abbrev zgx : Stmt := top 4
abbrev zb0 : Stmt := top 5
abbrev zbe : Stmt := top 6
abbrev zcp : Stmt := top 8
abbrev zdg : Stmt := top 9
abbrev zds : Stmt := top 11
abbrev zby : Stmt := top 12
abbrev zcq : Stmt := top 13
abbrev zcn : Stmt := top 14
abbrev zb2 : Stmt := top 15
abbrev zca : Stmt := top 16
abbrev zas : Stmt := top 17
abbrev za5 : Stmt := top 18
abbrev zd0 : Stmt := top 20
abbrev zbp : Stmt := top 21
abbrev zck : Stmt := top 22
abbrev zb3 : Stmt := top 23
abbrev zcu : Stmt := top 24
abbrev zdy : Stmt := top 26
abbrev zbu : Stmt := top 28
abbrev zbm : Stmt := top 29
abbrev zbx : Stmt := top 30
abbrev zcb : Stmt := top 31
abbrev zbz : Stmt := top 32
abbrev za6 : Stmt := top 33
abbrev zbc : Stmt := top 34
abbrev zbg : Stmt := top 35
abbrev zce : Stmt := top 37
abbrev zch : Stmt := top 38
abbrev zbq : Stmt := top 39
abbrev zcd : Stmt := top 40
abbrev zcl : Stmt := top 41
abbrev zbr : Stmt := top 42
abbrev zc2 : Stmt := top 43
abbrev zbl : Stmt := top 44
abbrev zcj : Stmt := top 45
abbrev zbb : Stmt := top 46
abbrev zbv : Stmt := top 47
abbrev zbo : Stmt := top 48
abbrev zco : Stmt := top 49
abbrev zb9 : Stmt := top 50
abbrev zew : Stmt := top 51
set_option genInjectivity false
set_option genSizeOfSpec false
set_option genSizeOf false
structure Adr where
 f_has : Addr
 f_with_option : Addr
 f_open_options : Addr
 f_many_ties : Addr
 f_tie_at : Addr
 f_keeps : Addr
 f_keeps_bough : Addr
 f_count_in : Addr
 f_every_tie : Addr
 f_sure_broken : Addr
 f_least_sum : Addr
 f_sure_broken_bough : Addr
 f_first_sure_broken : Addr
 f_cases : Addr
 f_cases_of : Addr
 f_ware_leaf : Addr
 f_told_tree : Addr
 f_wares_in : Addr
 f_wares : Addr
 f_folded : Addr
 f_boughs_left : Addr
 f_cross_left : Addr
 f_tightened : Addr
 f_first_with : Addr
 f_without_needless : Addr
 f_first_breaking : Addr
 f_without_place : Addr
 f_law_take : Addr
 f_law_bough : Addr
 f_law_boughs : Addr
 f_law_most : Addr
 f_law_cross : Addr
 f_law_wood : Addr
 f_law_has : Addr
 f_law_many_of : Addr
 f_law_first : Addr
 f_law_keeping : Addr
 f_law_tight : Addr
 f_law_needed : Addr
 f_law_whole : Addr
 f_law_folded : Addr
 f_law : Addr
 c_cases_of : Addr
 t_cases_of : Addr
 x_NoWares : Addr
structure Fds where
 f_has : FuncData
 f_with_option : FuncData
 f_open_options : FuncData
 f_many_ties : FuncData
 f_tie_at : FuncData
 f_keeps : FuncData
 f_keeps_bough : FuncData
 f_count_in : FuncData
 f_every_tie : FuncData
 f_sure_broken : FuncData
 f_least_sum : FuncData
 f_sure_broken_bough : FuncData
 f_first_sure_broken : FuncData
 f_cases : FuncData
 f_cases_of : FuncData
 f_ware_leaf : FuncData
 f_told_tree : FuncData
 f_wares_in : FuncData
 f_wares : FuncData
 f_folded : FuncData
 f_boughs_left : FuncData
 f_cross_left : FuncData
 f_tightened : FuncData
 f_first_with : FuncData
 f_without_needless : FuncData
 f_first_breaking : FuncData
 f_without_place : FuncData
 f_law_take : FuncData
 f_law_bough : FuncData
 f_law_boughs : FuncData
 f_law_most : FuncData
 f_law_cross : FuncData
 f_law_wood : FuncData
 f_law_has : FuncData
 f_law_many_of : FuncData
 f_law_first : FuncData
 f_law_keeping : FuncData
 f_law_tight : FuncData
 f_law_needed : FuncData
 f_law_whole : FuncData
 f_law_folded : FuncData
 f_law : FuncData
structure Txt (K : PySem.W.Frag) (mg : Str → Option Value) (a : Adr) (d : Fds) : Prop where
 m_range : mg "range" = none
 m_len : mg "len" = none
 m_isinstance : mg "isinstance" = none
 m_min : mg "min" = none
 m_max : mg "max" = none
 m_all : mg "all" = none
 m_int : mg "int" = none
 m_bool : mg "bool" = none
 m_list : mg "list" = none
 m_tuple : mg "tuple" = none
 m_sorted : mg "sorted" = none
 m_sum : mg "sum" = none
 m_any : mg "any" = none
 g_has : mg "has" = some (.ref a.f_has)
 K_has : Fun K "has" "has" zgx a.f_has d.f_has
 B_has : Binds K d.f_has ["some", "k"] []
 g_with_option : mg "with_option" = some (.ref a.f_with_option)
 K_with_option : Fun K "with_option" "with_option" zb0 a.f_with_option d.f_with_option
 B_with_option : Binds K d.f_with_option ["some", "k"] []
 g_open_options : mg "open_options" = some (.ref a.f_open_options)
 K_open_options : Fun K "open_options" "open_options" zbe a.f_open_options d.f_open_options
 B_open_options : Binds K d.f_open_options ["many", "yes", "no"] []
 g_many_ties : mg "many_ties" = some (.ref a.f_many_ties)
 K_many_ties : Fun K "many_ties" "many_ties" zcp a.f_many_ties d.f_many_ties
 B_many_ties : Binds K d.f_many_ties ["wood"] []
 g_tie_at : mg "tie_at" = some (.ref a.f_tie_at)
 K_tie_at : Fun K "tie_at" "tie_at" zdg a.f_tie_at d.f_tie_at
 B_tie_at : Binds K d.f_tie_at ["wood", "t"] []
 g_keeps : mg "keeps" = some (.ref a.f_keeps)
 K_keeps : Fun K "keeps" "keeps" zds a.f_keeps d.f_keeps
 B_keeps : Binds K d.f_keeps ["tie", "some"] []
 g_keeps_bough : mg "keeps_bough" = some (.ref a.f_keeps_bough)
 K_keeps_bough : Fun K "keeps_bough" "keeps_bough" zby a.f_keeps_bough d.f_keeps_bough
 B_keeps_bough : Binds K d.f_keeps_bough ["bough", "some"] []
 g_count_in : mg "count_in" = some (.ref a.f_count_in)
 K_count_in : Fun K "count_in" "count_in" zcq a.f_count_in d.f_count_in
 B_count_in : Binds K d.f_count_in ["kids", "some"] []
 g_every_tie : mg "every_tie" = some (.ref a.f_every_tie)
 K_every_tie : Fun K "every_tie" "every_tie" zcn a.f_every_tie d.f_every_tie
 B_every_tie : Binds K d.f_every_tie ["wood"] []
 g_sure_broken : mg "sure_broken" = some (.ref a.f_sure_broken)
 K_sure_broken : Fun K "sure_broken" "sure_broken" zb2 a.f_sure_broken d.f_sure_broken
 B_sure_broken : Binds K d.f_sure_broken ["tie", "yes", "no"] []
 g_least_sum : mg "least_sum" = some (.ref a.f_least_sum)
 K_least_sum : Fun K "least_sum" "least_sum" zca a.f_least_sum d.f_least_sum
 B_least_sum : Binds K d.f_least_sum ["pairs", "yes", "no"] []
 g_sure_broken_bough : mg "sure_broken_bough" = some (.ref a.f_sure_broken_bough)
 K_sure_broken_bough : Fun K "sure_broken_bough" "sure_broken_bough" zas a.f_sure_broken_bough d.f_sure_broken_bough
 B_sure_broken_bough : Binds K d.f_sure_broken_bough ["bough", "yes", "no"] []
 g_first_sure_broken : mg "first_sure_broken" = some (.ref a.f_first_sure_broken)
 K_first_sure_broken : Fun K "first_sure_broken" "first_sure_broken" za5 a.f_first_sure_broken d.f_first_sure_broken
 B_first_sure_broken : Binds K d.f_first_sure_broken ["wood", "ties", "yes", "no"] []
 g_cases : mg "cases" = some (.ref a.f_cases)
 K_cases : Fun K "cases" "cases" zd0 a.f_cases d.f_cases
 B_cases : Binds K d.f_cases ["wood", "yes", "no"] []
 g_cases_of : mg "cases_of" = some (.ref a.f_cases_of)
 K_cases_of : Fun K "cases_of" "cases_of" zbp a.f_cases_of d.f_cases_of
 B_cases_of : Binds K d.f_cases_of ["wood", "ties", "yes", "no"] []
 g_ware_leaf : mg "ware_leaf" = some (.ref a.f_ware_leaf)
 K_ware_leaf : Fun K "ware_leaf" "ware_leaf" zck a.f_ware_leaf d.f_ware_leaf
 B_ware_leaf : Binds K d.f_ware_leaf ["wood", "yes", "no"] []
 g_told_tree : mg "told_tree" = some (.ref a.f_told_tree)
 K_told_tree : Fun K "told_tree" "told_tree" zb3 a.f_told_tree d.f_told_tree
 B_told_tree : Binds K d.f_told_tree ["wood", "ties", "yes", "no", "leaf_at"] []
 g_wares_in : mg "wares_in" = some (.ref a.f_wares_in)
 K_wares_in : Fun K "wares_in" "wares_in" zcu a.f_wares_in d.f_wares_in
 B_wares_in : Binds K d.f_wares_in ["yes", "tree"] []
 g_wares : mg "wares" = some (.ref a.f_wares)
 K_wares : Fun K "wares" "wares" zdy a.f_wares d.f_wares
 B_wares : Binds K d.f_wares ["wood"] []
 g_folded : mg "folded" = some (.ref a.f_folded)
 K_folded : Fun K "folded" "folded" zbu a.f_folded d.f_folded
 B_folded : Binds K d.f_folded ["wood"] []
 g_boughs_left : mg "boughs_left" = some (.ref a.f_boughs_left)
 K_boughs_left : Fun K "boughs_left" "boughs_left" zbm a.f_boughs_left d.f_boughs_left
 B_boughs_left : Binds K d.f_boughs_left ["boughs", "kept"] []
 g_cross_left : mg "cross_left" = some (.ref a.f_cross_left)
 K_cross_left : Fun K "cross_left" "cross_left" zbx a.f_cross_left d.f_cross_left
 B_cross_left : Binds K d.f_cross_left ["cross", "kept"] []
 g_tightened : mg "tightened" = some (.ref a.f_tightened)
 K_tightened : Fun K "tightened" "tightened" zcb a.f_tightened d.f_tightened
 B_tightened : Binds K d.f_tightened ["bough", "sold"] []
 g_first_with : mg "first_with" = some (.ref a.f_first_with)
 K_first_with : Fun K "first_with" "first_with" zbz a.f_first_with d.f_first_with
 B_first_with : Binds K d.f_first_with ["sold", "bough", "count"] []
 g_without_needless : mg "without_needless" = some (.ref a.f_without_needless)
 K_without_needless : Fun K "without_needless" "without_needless" za6 a.f_without_needless d.f_without_needless
 B_without_needless : Binds K d.f_without_needless ["many", "boughs", "cross"] []
 g_first_breaking : mg "first_breaking" = some (.ref a.f_first_breaking)
 K_first_breaking : Fun K "first_breaking" "first_breaking" zbc a.f_first_breaking d.f_first_breaking
 B_first_breaking : Binds K d.f_first_breaking ["many", "boughs", "cross", "place"] []
 g_without_place : mg "without_place" = some (.ref a.f_without_place)
 K_without_place : Fun K "without_place" "without_place" zbg a.f_without_place d.f_without_place
 B_without_place : Binds K d.f_without_place ["cross", "place"] []
 g_law_take : mg "_law_take" = some (.ref a.f_law_take)
 K_law_take : Fun K "_law_take" "_law_take" zce a.f_law_take d.f_law_take
 B_law_take : Binds K d.f_law_take ["_law_state", "_law_most_here"] []
 g_law_bough : mg "_law_bough" = some (.ref a.f_law_bough)
 K_law_bough : Fun K "_law_bough" "_law_bough" zch a.f_law_bough d.f_law_bough
 B_law_bough : Binds K d.f_law_bough ["_law_state", "_law_up", "_law_kids"] []
 g_law_boughs : mg "_law_boughs" = some (.ref a.f_law_boughs)
 K_law_boughs : Fun K "_law_boughs" "_law_boughs" zbq a.f_law_boughs d.f_law_boughs
 B_law_boughs : Binds K d.f_law_boughs ["_law_state", "_law_many"] []
 g_law_most : mg "_law_most" = some (.ref a.f_law_most)
 K_law_most : Fun K "_law_most" "_law_most" zcd a.f_law_most d.f_law_most
 B_law_most : Binds K d.f_law_most ["_law_state", "_law_many"] []
 g_law_cross : mg "_law_cross" = some (.ref a.f_law_cross)
 K_law_cross : Fun K "_law_cross" "_law_cross" zcl a.f_law_cross d.f_law_cross
 B_law_cross : Binds K d.f_law_cross ["_law_state", "_law_many"] []
 g_law_wood : mg "_law_wood" = some (.ref a.f_law_wood)
 K_law_wood : Fun K "_law_wood" "_law_wood" zbr a.f_law_wood d.f_law_wood
 B_law_wood : Binds K d.f_law_wood ["_law_state"] []
 g_law_has : mg "_law_has" = some (.ref a.f_law_has)
 K_law_has : Fun K "_law_has" "_law_has" zc2 a.f_law_has d.f_law_has
 B_law_has : Binds K d.f_law_has ["_law_some", "_law_k"] []
 g_law_many_of : mg "_law_many_of" = some (.ref a.f_law_many_of)
 K_law_many_of : Fun K "_law_many_of" "_law_many_of" zbl a.f_law_many_of d.f_law_many_of
 B_law_many_of : Binds K d.f_law_many_of ["_law_kids", "_law_some"] []
 g_law_first : mg "_law_first" = some (.ref a.f_law_first)
 K_law_first : Fun K "_law_first" "_law_first" zcj a.f_law_first d.f_law_first
 B_law_first : Binds K d.f_law_first ["_law_some"] []
 g_law_keeping : mg "_law_keeping" = some (.ref a.f_law_keeping)
 K_law_keeping : Fun K "_law_keeping" "_law_keeping" zbb a.f_law_keeping d.f_law_keeping
 B_law_keeping : Binds K d.f_law_keeping ["_law_many", "_law_ties"] []
 g_law_tight : mg "_law_tight" = some (.ref a.f_law_tight)
 K_law_tight : Fun K "_law_tight" "_law_tight" zbv a.f_law_tight d.f_law_tight
 B_law_tight : Binds K d.f_law_tight ["_law_wood_here"] []
 g_law_needed : mg "_law_needed" = some (.ref a.f_law_needed)
 K_law_needed : Fun K "_law_needed" "_law_needed" zbo a.f_law_needed d.f_law_needed
 B_law_needed : Binds K d.f_law_needed ["_law_wood_here"] []
 g_law_whole : mg "_law_whole" = some (.ref a.f_law_whole)
 K_law_whole : Fun K "_law_whole" "_law_whole" zco a.f_law_whole d.f_law_whole
 B_law_whole : Binds K d.f_law_whole ["_law_found"] []
 g_law_folded : mg "_law_folded" = some (.ref a.f_law_folded)
 K_law_folded : Fun K "_law_folded" "_law_folded" zb9 a.f_law_folded d.f_law_folded
 B_law_folded : Binds K d.f_law_folded ["_law_wood_here"] []
 g_law : mg "law" = some (.ref a.f_law)
 K_law : Fun K "law" "law" zew a.f_law d.f_law
 B_law : Binds K d.f_law ["_law_script"] []
 code_cases_of : d.f_cases_of.code = .ref a.c_cases_of
 g_NoWares : mg "NoWares" = some (.ref a.x_NoWares)
 x_NoWares : zv1 K a.x_NoWares
 k_NoWares_NoWares : PySem.W.kitOne K (.ref a.x_NoWares) (.ref a.x_NoWares) = some true
 v_NoWares : PySem.W.kitOne K (.ref a.x_NoWares) (.type "ValueError") = some true
 s_NoWares_NoWares : zrk K a.x_NoWares a.x_NoWares = true
theorem zut : zay ["some", "k"] ["some", "k"] (zab zgx) := ⟨rfl, rfl, rfl, by decide +kernel, rfl, by decide +kernel, by decide +kernel⟩
theorem zjb : zay ["some", "k"] ["some", "k"] (zab zb0) := ⟨rfl, rfl, rfl, by decide +kernel, rfl, by decide +kernel, by decide +kernel⟩
theorem zhw : zay ["many", "yes", "no"] ["many", "yes", "no"] (zab zbe) := ⟨rfl, rfl, rfl, by decide +kernel, rfl, by decide +kernel, by decide +kernel⟩
theorem zlf : zay ["wood"] ["wood"] (zab zcp) := ⟨rfl, rfl, rfl, by decide +kernel, rfl, by decide +kernel, by decide +kernel⟩
theorem sc_tie_at : zay ["wood", "t", "boughs"] ["wood", "t"] (zab zdg) := ⟨rfl, rfl, rfl, by decide +kernel, rfl, by decide +kernel, by decide +kernel⟩
theorem zq6 : zay ["tie", "some"] ["tie", "some"] (zab zds) := ⟨rfl, rfl, rfl, by decide +kernel, rfl, by decide +kernel, by decide +kernel⟩
theorem sc_keeps_bough : zay ["bough", "some", "count"] ["bough", "some"] (zab zby) := ⟨rfl, rfl, rfl, by decide +kernel, rfl, by decide +kernel, by decide +kernel⟩
theorem zl0 : zay ["kids", "some"] ["kids", "some"] (zab zcq) := ⟨rfl, rfl, rfl, by decide +kernel, rfl, by decide +kernel, by decide +kernel⟩
theorem zle : zay ["wood"] ["wood"] (zab zcn) := ⟨rfl, rfl, rfl, by decide +kernel, rfl, by decide +kernel, by decide +kernel⟩
theorem zi0 : zay ["tie", "yes", "no"] ["tie", "yes", "no"] (zab zb2) := ⟨rfl, rfl, rfl, by decide +kernel, rfl, by decide +kernel, by decide +kernel⟩
theorem zko : zay ["pairs", "yes", "no"] ["pairs", "yes", "no"] (zab zca) := ⟨rfl, rfl, rfl, by decide +kernel, rfl, by decide +kernel, by decide +kernel⟩
theorem sc_sure_broken_bough : zay ["bough", "yes", "no", "least", "greatest", "some_with_up", "some_without_up"] ["bough", "yes", "no"] (zab zas) := ⟨rfl, rfl, rfl, by decide +kernel, rfl, by decide +kernel, by decide +kernel⟩
theorem sc_first_sure_broken : zay ["wood", "ties", "yes", "no", "t"] ["wood", "ties", "yes", "no"] (zab za5) := ⟨rfl, rfl, rfl, by decide +kernel, rfl, by decide +kernel, by decide +kernel⟩
theorem zqs : zay ["wood", "yes", "no"] ["wood", "yes", "no"] (zab zd0) := ⟨rfl, rfl, rfl, by decide +kernel, rfl, by decide +kernel, by decide +kernel⟩
theorem zm4 : zay ["wood", "ties", "yes", "no"] ["wood", "ties", "yes", "no"] (zab zbp) := ⟨rfl, rfl, rfl, by decide +kernel, rfl, by decide +kernel, by decide +kernel⟩
theorem zli : zay ["wood", "yes", "no"] ["wood", "yes", "no"] (zab zck) := ⟨rfl, rfl, rfl, by decide +kernel, rfl, by decide +kernel, by decide +kernel⟩
theorem sc_told_tree : zay ["wood", "ties", "yes", "no", "leaf_at", "broken", "leaf", "k", "one", "other"] ["wood", "ties", "yes", "no", "leaf_at"] (zab zb3) := ⟨rfl, rfl, rfl, by decide +kernel, rfl, by decide +kernel, by decide +kernel⟩
theorem zm8 : zay ["yes", "tree"] ["yes", "tree"] (zab zcu) := ⟨rfl, rfl, rfl, by decide +kernel, rfl, by decide +kernel, by decide +kernel⟩
theorem sc_wares : zay ["wood", "root"] ["wood"] (zab zdy) := ⟨rfl, rfl, rfl, by decide +kernel, rfl, by decide +kernel, by decide +kernel⟩
theorem sc_folded : zay ["wood", "sold", "kept", "boughs", "cross", "tight", "needed"] ["wood"] (zab zbu) := ⟨rfl, rfl, rfl, by decide +kernel, rfl, by decide +kernel, by decide +kernel⟩
theorem sc_boughs_left : zay ["boughs", "kept", "left", "up", "low", "high", "kids", "fewer"] ["boughs", "kept"] (zab zbm) := ⟨rfl, rfl, rfl, by decide +kernel, rfl, by decide +kernel, by decide +kernel⟩
theorem sc_cross_left : zay ["cross", "kept", "left", "tie", "pairs"] ["cross", "kept"] (zab zbx) := ⟨rfl, rfl, rfl, by decide +kernel, rfl, by decide +kernel, by decide +kernel⟩
theorem sc_tightened : zay ["bough", "sold", "counts"] ["bough", "sold"] (zab zcb) := ⟨rfl, rfl, rfl, by decide +kernel, rfl, by decide +kernel, by decide +kernel⟩
theorem zjf : zay ["sold", "bough", "count"] ["sold", "bough", "count"] (zab zbz) := ⟨rfl, rfl, rfl, by decide +kernel, rfl, by decide +kernel, by decide +kernel⟩
theorem sc_without_needless : zay ["many", "boughs", "cross", "left", "place"] ["many", "boughs", "cross"] (zab za6) := ⟨rfl, rfl, rfl, by decide +kernel, rfl, by decide +kernel, by decide +kernel⟩
theorem sc_first_breaking : zay ["many", "boughs", "cross", "place", "some"] ["many", "boughs", "cross", "place"] (zab zbc) := ⟨rfl, rfl, rfl, by decide +kernel, rfl, by decide +kernel, by decide +kernel⟩
theorem zg9 : zay ["cross", "place"] ["cross", "place"] (zab zbg) := ⟨rfl, rfl, rfl, by decide +kernel, rfl, by decide +kernel, by decide +kernel⟩
theorem sc_law_take : zay ["_law_state", "_law_most_here", "_law_at", "_law_script", "_law_mingled"] ["_law_state", "_law_most_here"] (zab zce) := ⟨rfl, rfl, rfl, by decide +kernel, rfl, by decide +kernel, by decide +kernel⟩
theorem sc_law_bough : zay ["_law_state", "_law_up", "_law_kids", "_law_size", "_law_way", "_law_high"] ["_law_state", "_law_up", "_law_kids"] (zab zch) := ⟨rfl, rfl, rfl, by decide +kernel, rfl, by decide +kernel, by decide +kernel⟩
theorem sc_law_boughs : zay ["_law_state", "_law_many", "_law_groups", "_law_k", "_law_up", "_law_mates"] ["_law_state", "_law_many"] (zab zbq) := ⟨rfl, rfl, rfl, by decide +kernel, rfl, by decide +kernel, by decide +kernel⟩
theorem sc_law_most : zay ["_law_state", "_law_many", "_law_far", "_law_pairs", "_law_k"] ["_law_state", "_law_many"] (zab zcd) := ⟨rfl, rfl, rfl, by decide +kernel, rfl, by decide +kernel, by decide +kernel⟩
theorem sc_law_cross : zay ["_law_state", "_law_many", "_law_one", "_law_other"] ["_law_state", "_law_many"] (zab zcl) := ⟨rfl, rfl, rfl, by decide +kernel, rfl, by decide +kernel, by decide +kernel⟩
theorem sc_law_wood : zay ["_law_state", "_law_many", "_law_boughs_here", "_law_count"] ["_law_state"] (zab zbr) := ⟨rfl, rfl, rfl, by decide +kernel, rfl, by decide +kernel, by decide +kernel⟩
theorem znk : zay ["_law_some", "_law_k"] ["_law_some", "_law_k"] (zab zc2) := ⟨rfl, rfl, rfl, by decide +kernel, rfl, by decide +kernel, by decide +kernel⟩
theorem zje : zay ["_law_kids", "_law_some"] ["_law_kids", "_law_some"] (zab zbl) := ⟨rfl, rfl, rfl, by decide +kernel, rfl, by decide +kernel, by decide +kernel⟩
theorem zkq : zay ["_law_some"] ["_law_some"] (zab zcj) := ⟨rfl, rfl, rfl, by decide +kernel, rfl, by decide +kernel, by decide +kernel⟩
theorem ziw : zay ["_law_many", "_law_ties"] ["_law_many", "_law_ties"] (zab zbb) := ⟨rfl, rfl, rfl, by decide +kernel, rfl, by decide +kernel, by decide +kernel⟩
theorem sc_law_tight : zay ["_law_wood_here", "_law_due", "_law_sold", "_law_up", "_law_low", "_law_high", "_law_kids", "_law_some", "_law_few"] ["_law_wood_here"] (zab zbv) := ⟨rfl, rfl, rfl, by decide +kernel, rfl, by decide +kernel, by decide +kernel⟩
theorem sc_law_needed : zay ["_law_wood_here", "_law_due", "_law_at", "_law_others", "_law_some"] ["_law_wood_here"] (zab zbo) := ⟨rfl, rfl, rfl, by decide +kernel, rfl, by decide +kernel, by decide +kernel⟩
theorem zkp : zay ["_law_found"] ["_law_found"] (zab zco) := ⟨rfl, rfl, rfl, by decide +kernel, rfl, by decide +kernel, by decide +kernel⟩
theorem sc_law_folded : zay ["_law_wood_here", "_law_found"] ["_law_wood_here"] (zab zb9) := ⟨rfl, rfl, rfl, by decide +kernel, rfl, by decide +kernel, by decide +kernel⟩
theorem sc_law : zay ["_law_script", "_law_state", "_law_wood_here", "_law_found", "_law_tight_here", "_law_needed_here", "_law_pair", "_law_again"] ["_law_script"] (zab zew) := ⟨rfl, rfl, rfl, by decide +kernel, rfl, by decide +kernel, by decide +kernel⟩
end Ow
namespace Ow
open PySem L2 Wd
section
variable {P : Program} {w : World} {K : PySem.W.Frag} {mg : Str → Option Value} {base : Heap} {a : Adr} {d : Fds}
def zvy : Sp := fun vs H Q _ => ∃ n k : Int, vs = [.int n, .int k] ∧ Q (.bl (zne n k)) H
theorem zei (T : Txt K mg a d) : zbi P w K mg base CX0 1 a.f_has d.f_has ["some", "k"] zvy := by
 refine T.K_has.ok zut (fun vs H Q E h => ?_) (fun cdv A outer s H vs Q E hr h => ?_)
 ·obtain ⟨n, k, rfl, _⟩ := h
  rfl
 obtain ⟨n, k, rfl, q⟩ := h
 refine ⟨_, (zaj (zar (zfb (zcz zvn (pv 1) zae (zax _)) (zel (zcz zb6 (za7 zul (za7 zuf (pv 0) (pv 1)) zae) zae (zax _)))))), ?_⟩
 refine ⟨_, rfl, _, _, rfl, rfl, _, rfl, ?_⟩
 refine zc0 (fun c => ?_) (fun c => ?_)
 ·have hk : (0 : Int) ≤ k := of_decide_eq_true c
  refine ⟨_, rfl, _, rfl, _, _, rfl, rfl, hk, _, _, rfl, rfl, rfl, ?_⟩
  have e : decide (V.int (Builtin.bitAnd (n / 2 ^ k.toNat) 1) = V.int 1) = zne n k := by
   unfold zne
   rw [decide_eq_true hk, Bool.true_and, zgv, zwe]
   by_cases z : n / 2 ^ k.toNat % 2 = 1
   ·rw [decide_eq_true z]
    simpa using z
   ·rw [decide_eq_false z]
    simpa using z
  show Q (.bl (decide (V.int (Builtin.bitAnd (n / 2 ^ k.toNat) 1) = V.int 1))) H
  rw [e]
  exact q
 ·have hk : ¬ (0 : Int) ≤ k := of_decide_eq_false (Bool.eq_false_iff.mpr c)
  have e : zne n k = false := by
   unfold zne
   rw [decide_eq_false hk, Bool.false_and]
  rw [e] at q
  exact q
end
section
variable {P : Program} {w : World} {K : PySem.W.Frag} {mg : Str → Option Value} {base : Heap} {a : Adr} {d : Fds}
theorem zea (T : Txt K mg a d) : zbi P w K mg base CX0 1 a.f_with_option d.f_with_option ["some", "k"] zr4 := by
 refine T.K_with_option.ok zjb (fun vs H Q E h => ?_) (fun cdv A outer s H vs Q E hr h => ?_)
 ·obtain ⟨n, k, rfl, _⟩ := h
  rfl
 obtain ⟨n, k, rfl, hk, q⟩ := h
 refine ⟨_, (zaj (zar (za7 zth (pv 0) (za7 znu zae (pv 1))))), ?_⟩
 refine ⟨_, rfl, _, rfl, _, _, rfl, rfl, ⟨by omega, by omega, by decide⟩, _, _, rfl, rfl, ?_⟩
 have e : Builtin.bitOr (n : Int) (1 * 2 ^ ((k : Nat) : Int).toNat) = ((n ||| 2 ^ k : Nat) : Int) := by rw [zqg, zor]
 show Q (.int (Builtin.bitOr (n : Int) (1 * 2 ^ ((k : Nat) : Int).toNat))) H
 rw [e]
 exact q
end
section
variable {P : Program} {w : World} {K : PySem.W.Frag} {mg : Str → Option Value} {base : Heap} {a : Adr} {d : Fds}
theorem zfi (T : Txt K mg a d) : zbi P w K mg base CX0 2 a.f_open_options d.f_open_options ["many", "yes", "no"] zur := by
 have G_has := zei (P := P) (w := w) (base := base) T
 refine T.K_open_options.ok zhw (fun vs H Q E h => ?_) (fun cdv A outer s H vs Q E hr h => ?_)
 ·obtain ⟨m, y, n, rfl, _⟩ := h
  rfl
 obtain ⟨m, y, n, rfl, m9, q⟩ := h
 have p62 : (2 : Int) ^ 62 = 4611686018427387904 := by decide
 refine ⟨_, (zaj (zar (zdt (sc0 := zab zbe) (XN := ["many", "yes", "no"]) (N' := ["k", "yes", "no"]) (n := 1) (kp := [1, 2]) rfl (zdq rfl T.m_range (zaa (pv 0) zac)) rfl rfl (by decide +kernel) (fun _ _ _ _ _ => (zaz (i := 0) (by show List.Nodup (["k", "yes", "no"] : List Str); decide +kernel) rfl (Or.inl rfl))) (fun _ _ _ _ _ => (zcf (zfl (zcv (zah G_has hr.lv rfl T.g_has T.K_has.kp T.B_has .nil zan (zaa (za7 zth (pv 1) (pv 2)) (zaa (pv 0) zac))))))) (fun _ _ _ _ _ => (pv 0))))), ?_⟩
 refine ⟨_, rfl, _, rfl, by rw [p62]; omega, by rw [p62]; omega, ?_⟩
 rw [Int.toNat_natCast]
 refine zeo (k := m) (fun i ys σ H2 => (∃ v, σ = [v, some (.int y), some (.int n)]) ∧ H2 = H ∧ i ≤ m ∧ ys = zak ((List.range i).filter fun k => !(y ||| n).testBit k)) ⟨⟨none, rfl⟩, rfl, Nat.zero_le _, rfl⟩ (fun i ys σ H2 hi pv => ?_) (fun i ys σ H2 hi pv => ?_) (fun ys σ H2 pv fl hfl => ?_)
 ·obtain ⟨_, _, h1, rfl⟩ := pv
  rw [List.length_map]
  refine small (Nat.le_trans (List.length_filter_le _ _) ?_)
  rw [List.length_range]
  omega
 ·obtain ⟨⟨v0, rfl⟩, rfl, h1, rfl⟩ := pv
  refine ⟨_, rfl, _, rfl, _, _, rfl, rfl, _, rfl, _, _, rfl, _, rfl, ?_⟩
  have ee := zg1 (fun k => !(y ||| n).testBit k) i
  rw [zor, zbt]
  refine zc0 (fun c2 => ?_) (fun c2 => ?_)
  ·refine ⟨_, rfl, ⟨_, rfl⟩, rfl, hi, ?_⟩
   rw [ee, if_pos c2]
   show _ = List.map _ (_ ++ [i])
   rw [List.map_append]
   rfl
  ·refine ⟨⟨_, rfl⟩, rfl, hi, ?_⟩
   rw [ee, if_neg c2, List.append_nil]
 obtain ⟨_, rfl, _, rfl⟩ := pv
 exact q fl _ (zag hfl _) hfl zad
end
section
variable {P : Program} {w : World} {K : PySem.W.Frag} {mg : Str → Option Value} {base : Heap} {a : Adr} {d : Fds}
theorem zkh (T : Txt K mg a d) : zbi P w K mg base CX0 1 a.f_many_ties d.f_many_ties ["wood"] zum := by
 refine T.K_many_ties.ok zlf (fun vs H Q E h => ?_) (fun cdv A outer s H vs Q E hr h => ?_)
 ·obtain ⟨wd, many, xs, ys, rfl, _⟩ := h
  rfl
 obtain ⟨wd, many, xs, ys, rfl, ⟨tb, tc, hw, hb, hc⟩, q⟩ := h
 refine ⟨_, (zaj (zar (za7 zc9 (zaw (zde (K := K)) rfl T.m_len PySem.boot_len (zaa (zao (ixT (K := K)) (pv 0) zae (fun _ _ => rfl)) zac)) (zaw (zde (K := K)) rfl T.m_len PySem.boot_len (zaa (zao (ixT (K := K)) (pv 0) zae (fun _ _ => rfl)) zac))))), ?_⟩
 exact ⟨_, rfl, wd, _, _, _, rfl, rfl, sqT hw, at1, tb, _, rfl, .inr (sqT hb), _, rfl, wd, _, _, _, rfl, rfl, sqT hw, at2, tc, _, rfl, .inr (sqT hc), _, _, rfl, rfl, q⟩
end
section
variable {P : Program} {w : World} {K : PySem.W.Frag} {mg : Str → Option Value} {base : Heap} {a : Adr} {d : Fds}
theorem zo5 (T : Txt K mg a d) : zbi P w K mg base CX0 1 a.f_tie_at d.f_tie_at ["wood", "t"] zsy := by
 refine T.K_tie_at.ok sc_tie_at (fun vs H Q E h => ?_) (fun cdv A outer s H vs Q E hr h => ?_)
 ·obtain ⟨wd, many, xs, ys, t, v, rfl, _⟩ := h
  rfl
 obtain ⟨wd, many, xs, ys, t, v, rfl, ⟨tb, tc, hw, hb, hc⟩, hv, q⟩ := h
 refine ⟨_, (zaf (zau (i := 2) sc_tie_at.nd rfl (Or.inl rfl) (zao (ixT (K := K)) (pv 0) zae (fun _ _ => rfl)))
   (zaf (zbk (zat zon (pv 1) (zaw (zde (K := K)) rfl T.m_len PySem.boot_len (zaa (pv 2) zac)) (zax _)) (zaj (zar (zao (ixT (K := K)) (pv 2) (pv 1) (fun _ _ => rfl)))) za1)
   (zaj (zar (zao (ixT (K := K)) (zao (ixT (K := K)) (pv 0) zae (fun _ _ => rfl)) (za7 zhg (pv 1) (zaw (zde (K := K)) rfl T.m_len PySem.boot_len (zaa (pv 2) zac))) (fun _ _ => rfl)))))), ?_⟩
 refine ⟨_, rfl, wd, _, _, _, rfl, rfl, sqT hw, at1, ?_⟩
 refine ⟨_, rfl, _, rfl, tb, _, rfl, .inr (sqT hb), _, _, rfl, rfl, _, rfl, ?_⟩
 refine zc0 (fun c => ?_) (fun c => ?_)
 ·have c' : (t : Int) < (xs.length : Nat) := of_decide_eq_true c
  rw [List.getElem?_append_left (by omega)] at hv
  exact ⟨_, rfl, _, rfl, tb, _, _, _, rfl, rfl, sqT hb, zc8 hv, q⟩
 ·have c' : ¬ (t : Int) < (xs.length : Nat) := of_decide_eq_false (Bool.eq_false_iff.mpr c)
  rw [List.getElem?_append_right (by omega)] at hv
  have e : ((t : Int) - ((xs.length : Nat) : Int)) = ((t - xs.length : Nat) : Int) := by omega
  refine ⟨_, rfl, wd, _, _, _, rfl, rfl, sqT hw, at2, _, rfl, _, rfl, tb, _, rfl, .inr (sqT hb), _, _, rfl, rfl, tc, _, _, _, rfl, rfl, sqT hc, ?_, q⟩
  show atI ys ((t : Int) - ((xs.length : Nat) : Int)) = some v
  rw [e]
  exact zc8 hv
end
section
variable {P : Program} {w : World} {K : PySem.W.Frag} {mg : Str → Option Value} {base : Heap} {a : Adr} {d : Fds}
def zsi : Sp := fun vs H Q _ => ∃ (p : Addr) (ks : List Nat) (n : Nat), vs = [.ref p, .int n] ∧ H p = some (.tup (ks.map fun k : Nat => V.int (k : Int))) ∧ ks.length ≤ 1000 ∧ ∀ H', Same H H' → Q (.int (cnt ks n : Nat)) H'
theorem zeb (T : Txt K mg a d) : zbi P w K mg base CX0 2 a.f_count_in d.f_count_in ["kids", "some"] zsi := by
 have G_has := zei (P := P) (w := w) (base := base) T
 refine T.K_count_in.ok zl0 (fun vs H Q E h => ?_) (fun cdv A outer s H vs Q E hr h => ?_)
 ·obtain ⟨p, ks, n, rfl, _⟩ := h
  rfl
 obtain ⟨p, ks, n, rfl, hp, hk, q⟩ := h
 refine ⟨_, (zaj (zar (zaw (zde (K := K)) rfl T.m_len PySem.boot_len (zaa (zdt (sc0 := zab zcq) (XN := ["kids", "some"]) (N' := ["k", "some"]) (n := 1) (kp := [1]) rfl (piT (K := K) (pv 0)) rfl rfl (by decide +kernel) (fun _ _ _ _ _ => (zaz (i := 0) (by show List.Nodup (["k", "some"] : List Str); decide +kernel) rfl (Or.inl rfl))) (fun _ _ _ _ _ => (zcf (zcv (zah G_has hr.lv rfl T.g_has T.K_has.kp T.B_has .nil zan (zaa (pv 1) (zaa (pv 0) zac)))))) (fun _ _ _ _ _ => (pv 0))) zac)))), ?_⟩
 refine ⟨_, rfl, p, rfl, ⟨_, sqT hp⟩, ?_⟩
 refine zfo (K := K) (a := p) (xs := ks.map fun k : Nat => V.int (k : Int)) (fun i ys σ H2 => (∃ v, σ = [v, some (.int n)]) ∧ H2 = H ∧ i ≤ ks.length ∧ ys = ((ks.take i).filter fun k => n.testBit k).map fun k : Nat => V.int (k : Int)) ⟨⟨none, rfl⟩, rfl, Nat.zero_le _, rfl⟩ (fun i ys σ H2 hi pv => ?_) (fun i ys σ H2 hi pv => ?_) (fun i x ys σ H2 hx pv => ?_) (fun ys σ H2 pv l hl => ?_)
 ·obtain ⟨_, _, h1, rfl⟩ := pv
  rw [List.length_map]
  refine small (Nat.le_trans (List.length_filter_le _ _) ?_)
  rw [List.length_take]
  omega
 ·rw [pv.2.1]
  exact sqT hp
 ·obtain ⟨⟨v, rfl⟩, rfl, h1, rfl⟩ := pv
  rw [List.getElem?_map] at hx
  obtain ⟨k, hk', rfl⟩ := Option.map_eq_some_iff.mp hx
  have hj : i < ks.length := (List.getElem?_eq_some_iff.mp hk').1
  have ee := PySem.take_succ_filter (fun k => n.testBit k) ks i k hk'
  refine ⟨_, rfl, _, rfl, _, _, rfl, _, rfl, ?_⟩
  rw [zbt]
  refine zc0 (fun c => ?_) (fun c => ?_)
  ·refine ⟨_, rfl, ⟨_, rfl⟩, rfl, hj, ?_⟩
   rw [ee, if_pos c, List.map_append]
   rfl
  ·refine ⟨⟨_, rfl⟩, rfl, hj, ?_⟩
   rw [ee, if_neg c, List.append_nil]
 ·obtain ⟨_, rfl, _, rfl⟩ := pv
  have fin : ∀ L : List V, L.length = cnt ks n → ∀ H', Same H2 H' → Q (.int (L.length : Nat)) H' := fun L e H' sm => by
   rw [e]
   exact q H' sm
  exact ⟨l, _, rfl, .inl (SqL.of zad), fin _ (by simp [cnt]) _ (zag hl _)⟩
end
section
variable {P : Program} {w : World} {K : PySem.W.Frag} {mg : Str → Option Value} {base : Heap} {a : Adr} {d : Fds}
def zp8 : Sp := fun vs H Q _ => ∃ (u : Nat) (lo hi : Int) (ks : List Nat) (n : Nat) (v : V), vs = [v, .int n] ∧ Dn H (Tie.bough u lo hi ks).toD v ∧ ks.length ≤ 1000 ∧ ∀ H', Same H H' → Q (.bl ((Tie.bough u lo hi ks).keep n)) H'
theorem zi4 (T : Txt K mg a d) : zbi P w K mg base CX0 3 a.f_keeps_bough d.f_keeps_bough ["bough", "some"] zp8 := by
 have G_has := zei (P := P) (w := w) (base := base) T
 have G_count_in := zeb (P := P) (w := w) (base := base) T
 refine T.K_keeps_bough.ok sc_keeps_bough (fun vs H Q E h => ?_) (fun cdv A outer s H vs Q E hr h => ?_)
 ·obtain ⟨u, lo, hi, ks, n, v, rfl, _⟩ := h
  rfl
 obtain ⟨u, lo, hi, ks, n, v, rfl, hd, hk, q⟩ := h
 obtain ⟨p, pk, rfl, hp, hpk⟩ := zdm hd
 refine ⟨_, (zaf (zau (i := 2) sc_keeps_bough.nd rfl (Or.inl rfl) (zah G_count_in hr.lv rfl T.g_count_in T.K_count_in.kp T.B_count_in .nil zan (zaa (zao (ixT (K := K)) (pv 0) zae (fun _ _ => rfl)) (zaa (pv 1) zac))))
   (zaf (zbk (zcv (zah G_has hr.lv rfl T.g_has T.K_has.kp T.B_has .nil zan (zaa (pv 1) (zaa (zao (ixT (K := K)) (pv 0) zae (fun _ _ => rfl)) zac)))) (zaj (zar (zqq zl7 zl7 (zao (ixT (K := K)) (pv 0) zae (fun _ _ => rfl)) (pv 2) (zao (ixT (K := K)) (pv 0) zae (fun _ _ => rfl))))) za1)
   (zaj (zar (zcz zb6 (pv 2) zae (zax _)))))), ?_⟩
 refine ⟨_, rfl, p, _, _, _, rfl, rfl, sqT hp, at3, _, rfl, pk, ks, n, rfl, hpk, hk, fun H1 s1 => ?_⟩
 have hp1 := s1 _ _ hp
 have q1 := q H1 s1
 refine ⟨_, rfl, _, rfl, p, _, _, _, rfl, rfl, sqT hp1, at0, _, _, rfl, _, rfl, ?_⟩
 rw [zbt]
 refine zc0 (fun c => ?_) (fun c => ?_)
 ·rw [zs2 c] at q1
  refine ⟨_, rfl, p, _, _, _, rfl, rfl, sqT hp1, at1, _, rfl, _, _, rfl, rfl, _, rfl, ?_⟩
  refine zc0 (fun c2 => ?_) (fun c2 => ?_)
  ·refine ⟨_, rfl, p, _, _, _, rfl, rfl, sqT hp1, at2, _, _, rfl, rfl, ?_⟩
   rw [c2, Bool.true_and] at q1
   exact q1
  ·rw [Bool.eq_false_iff.mpr c2, Bool.false_and] at q1
   exact q1
 ·rw [zsg c] at q1
  refine ⟨_, rfl, rfl, ?_⟩
  have e : decide (V.int (cnt ks n : Nat) = V.int 0) = decide (cnt ks n = 0) := by
   rw [zgv]
   by_cases z : cnt ks n = 0
   ·rw [z]; rfl
   ·rw [decide_eq_false z]
    simpa using z
  show Q (.bl (decide (V.int (cnt ks n : Nat) = V.int 0))) H1
  rw [e]
  exact q1
end
section
variable {P : Program} {w : World} {K : PySem.W.Frag} {mg : Str → Option Value} {base : Heap} {a : Adr} {d : Fds}
theorem zh4 (T : Txt K mg a d) : zbi P w K mg base CX0 4 a.f_keeps d.f_keeps ["tie", "some"] zsp := by
 have G_has := zei (P := P) (w := w) (base := base) T
 have G_keeps_bough := zi4 (P := P) (w := w) (base := base) T
 refine T.K_keeps.ok zq6 (fun vs H Q E h => ?_) (fun cdv A outer s H vs Q E hr h => ?_)
 ·obtain ⟨t, m, n, v, rfl, _⟩ := h
  rfl
 obtain ⟨t, m, n, v, rfl, hd, ok, hm, q⟩ := h
 have q0 := q H (Same.refl H)
 refine ⟨_, (zaf (zbk (zat zb6 (zao (ixT (K := K)) (pv 0) zae (fun _ _ => rfl)) zcs (zax _)) (zaj (zar (ztj (zfu (zah G_has hr.lv rfl T.g_has T.K_has.kp T.B_has .nil zan (zaa (pv 1) (zaa (zao (ixT (K := K)) (pv 0) zae (fun _ _ => rfl)) zac)))) (zel (zah G_has hr.lv rfl T.g_has T.K_has.kp T.B_has .nil zan (zaa (pv 1) (zaa (zao (ixT (K := K)) (pv 0) zae (fun _ _ => rfl)) zac))))))) za1)
   (zaf (zbk (zat zb6 (zao (ixT (K := K)) (pv 0) zae (fun _ _ => rfl)) zcs (zax _)) (zaj (zar (ztj (zfu (zah G_has hr.lv rfl T.g_has T.K_has.kp T.B_has .nil zan (zaa (pv 1) (zaa (zao (ixT (K := K)) (pv 0) zae (fun _ _ => rfl)) zac)))) (zel (zfu (zah G_has hr.lv rfl T.g_has T.K_has.kp T.B_has .nil zan (zaa (pv 1) (zaa (zao (ixT (K := K)) (pv 0) zae (fun _ _ => rfl)) zac)))))))) za1)
   (zaf (zbk (zat zb6 (zao (ixT (K := K)) (pv 0) zae (fun _ _ => rfl)) zcs (zax _)) (zaj (zar (zcz zl7 (zaw (zgg rfl) rfl T.m_sum PyProof.Rows.boot_sum (zaa (zdt (sc0 := zab zds) (XN := ["tie", "some"]) (N' := ["k", "number", "some"]) (n := 2) (kp := [1]) rfl (piT (K := K) (zao (ixT (K := K)) (pv 0) zae (fun _ _ => rfl))) rfl rfl (by decide +kernel) (fun _ _ _ _ _ => (pgT (K := K) (n := 2) rfl (zb8 (zaz (i := 0) (by show List.Nodup (["k", "number", "some"] : List Str); decide +kernel) rfl (Or.inl rfl)) (zb8 (zaz (i := 1) (by show List.Nodup (["k", "number", "some"] : List Str); decide +kernel) rfl (Or.inl rfl)) zf7)))) (fun _ _ _ _ _ => (zcf (zcv (zah G_has hr.lv rfl T.g_has T.K_has.kp T.B_has .nil zan (zaa (pv 2) (zaa (pv 0) zac)))))) (fun _ _ _ _ _ => (pv 1))) zac)) (zao (ixT (K := K)) (pv 0) zae (fun _ _ => rfl)) (zax _)))) za1)
   (zaj (zar (zah G_keeps_bough hr.lv rfl T.g_keeps_bough T.K_keeps_bough.kp T.B_keeps_bough .nil zan (zaa (pv 0) (zaa (pv 1) zac)))))))), ?_⟩
 cases t with
 | needs x y =>
  obtain ⟨p, rfl, hp⟩ := zh0 hd
  refine ⟨_, rfl, p, _, _, _, rfl, rfl, sqT hp, at0, rfl, _, rfl, ?_⟩
  refine zep rfl ?_
  refine ⟨_, rfl, _, rfl, p, _, _, _, rfl, rfl, sqT hp, at1, _, _, rfl, _, rfl, _, rfl, ?_⟩
  rw [zbt]
  have q1 : Q (.bl (!n.testBit x || n.testBit y)) H := q0
  refine zc0 (fun c => ?_) (fun c => ?_)
  ·rw [c, Bool.true_or] at q1
   exact q1
  ·refine ⟨_, rfl, _, rfl, p, _, _, _, rfl, rfl, sqT hp, at2, _, _, rfl, ?_⟩
   rw [zbt]
   rw [Bool.eq_false_iff.mpr c, Bool.false_or] at q1
   exact q1
 | bans x y =>
  obtain ⟨p, rfl, hp⟩ := zh0 hd
  refine ⟨_, rfl, p, _, _, _, rfl, rfl, sqT hp, at0, rfl, _, rfl, ?_⟩
  refine zcm zii ?_
  refine ⟨_, rfl, p, _, _, _, rfl, rfl, sqT hp, at0, rfl, _, rfl, ?_⟩
  refine zep rfl ?_
  refine ⟨_, rfl, _, rfl, p, _, _, _, rfl, rfl, sqT hp, at1, _, _, rfl, _, rfl, _, rfl, ?_⟩
  rw [zbt]
  have q1 : Q (.bl (!n.testBit x || !n.testBit y)) H := q0
  refine zc0 (fun c => ?_) (fun c => ?_)
  ·rw [c, Bool.true_or] at q1
   exact q1
  ·refine ⟨_, rfl, _, rfl, p, _, _, _, rfl, rfl, sqT hp, at2, _, _, rfl, _, rfl, ?_⟩
   rw [zbt]
   rw [Bool.eq_false_iff.mpr c, Bool.false_or] at q1
   exact q1
 | most top ps =>
  obtain ⟨p, pq, xs, rfl, hp, hq, hps⟩ := zop hd
  have lx : xs.length = ps.length := by rw [← hps.length, List.length_map]
  have few : ps.length ≤ m := ok.2.2.2
  refine ⟨_, rfl, p, _, _, _, rfl, rfl, sqT hp, at0, rfl, _, rfl, ?_⟩
  refine zcm ziu ?_
  refine ⟨_, rfl, p, _, _, _, rfl, rfl, sqT hp, at0, rfl, _, rfl, ?_⟩
  refine zcm zj1 ?_
  refine ⟨_, rfl, p, _, _, _, rfl, rfl, sqT hp, at0, rfl, _, rfl, ?_⟩
  refine zep rfl ?_
  refine ⟨_, rfl, p, _, _, _, rfl, rfl, sqT hp, at2, pq, rfl, ⟨_, sqT hq⟩, ?_⟩
  refine zfo (K := K) (a := pq) (xs := xs) (fun i ys σ H2 => (∃ v v', σ = [v, v', some (.int n)]) ∧ H2 = H ∧ i ≤ ps.length ∧ ys = (((ps.take i).filter fun p => n.testBit p.1).map (·.2)).map V.int) ⟨⟨none, none, rfl⟩, rfl, Nat.zero_le _, rfl⟩ (fun i ys σ H2 hi pv => ?_) (fun i ys σ H2 hi pv => ?_) (fun i x ys σ H2 hx pv => ?_) (fun ys σ H2 pv l hl => ?_)
  ·obtain ⟨_, _, h1, rfl⟩ := pv
   rw [List.length_map, List.length_map]
   refine small (Nat.le_trans (List.length_filter_le _ _) ?_)
   rw [List.length_take]
   omega
  ·rw [pv.2.1]
   exact sqT hq
  ·obtain ⟨⟨v, v', rfl⟩, rfl, h1, rfl⟩ := pv
   obtain ⟨pr, r, hpr, rfl, hr'⟩ := zk7 hps hx
   have hj : i < ps.length := (List.getElem?_eq_some_iff.mp hpr).1
   have ee := PySem.take_succ_filter (fun p : Nat × Int => n.testBit p.1) ps i pr hpr
   refine ⟨r, _, rfl, sqT hr', rfl, _, _, rfl, _, _, rfl, rfl, ?_⟩
   refine ⟨_, rfl, _, rfl, _, _, rfl, _, rfl, ?_⟩
   rw [zbt]
   refine zc0 (fun c => ?_) (fun c => ?_)
   ·refine ⟨_, rfl, ⟨_, _, rfl⟩, rfl, hj, ?_⟩
    rw [ee, if_pos c, List.map_append, List.map_append]
    rfl
   ·refine ⟨⟨_, _, rfl⟩, rfl, hj, ?_⟩
    rw [ee, if_neg c, List.append_nil]
  ·obtain ⟨_, rfl, _, rfl⟩ := pv
   have sm := zag hl (.lst ((((ps.take xs.length).filter fun p => n.testBit p.1).map (·.2)).map V.int))
   refine ⟨l, _, rfl, SqL.of zad, _, rfl, p, _, _, _, rfl, rfl, sqT (sm _ _ hp), at1, _, _, rfl, rfl, ?_⟩
   have q1 := q _ sm
   have e : (Tie.most top ps).keep n = decide ((((ps.take xs.length).filter fun p => n.testBit p.1).map (·.2)).sum ≤ top) := by
    rw [lx, List.take_length]
    rfl
   rw [e] at q1
   exact q1
 | bough u lo hi ks =>
  obtain ⟨p, pk, e, hp, hpk⟩ := zdm hd
  have ok' : Tie.BoughOkW m u lo hi ks := ok
  have few := ok'.few
  subst e
  refine ⟨_, rfl, p, _, _, _, rfl, rfl, sqT hp, at0, rfl, _, rfl, ?_⟩
  refine zcm int_str ?_
  refine ⟨_, rfl, p, _, _, _, rfl, rfl, sqT hp, at0, rfl, _, rfl, ?_⟩
  refine zcm int_str ?_
  refine ⟨_, rfl, p, _, _, _, rfl, rfl, sqT hp, at0, rfl, _, rfl, ?_⟩
  refine zcm int_str ?_
  exact ⟨_, rfl, _, rfl, u, lo, hi, ks, n, _, rfl, hd, by omega, q⟩
end
section
variable {P : Program} {w : World} {K : PySem.W.Frag} {mg : Str → Option Value} {base : Heap} {a : Adr} {d : Fds}
theorem zk1 (T : Txt K mg a d) : zbi P w K mg base CX0 2 a.f_every_tie d.f_every_tie ["wood"] zsx := by
 have G_many_ties := zkh (P := P) (w := w) (base := base) T
 refine T.K_every_tie.ok zle (fun vs H Q E h => ?_) (fun cdv A outer s H vs Q E hr h => ?_)
 ·obtain ⟨wd, m, ts, rfl, _⟩ := h
  rfl
 obtain ⟨wd, m, ts, rfl, W, q⟩ := h
 have p62 : (2 : Int) ^ 62 = 4611686018427387904 := by decide
 obtain ⟨xs, ys, WA, dn⟩ := W.ex
 have few := W.few
 have ln : ts.length = xs.length + ys.length := by
  have := dn.length
  rw [List.length_map, List.length_append] at this
  exact this
 refine ⟨_, (zaj (zar (zbd (zjl rfl) rfl T.m_list PyProof.Rows.boot_list (zaa (zbd zou rfl T.m_range PyProof.Rows.boot_range (zaa (zah G_many_ties hr.lv rfl T.g_many_ties T.K_many_ties.kp T.B_many_ties .nil zan (zaa (pv 0) zac)) zac)) zac)))), ?_⟩
 refine ⟨_, rfl, wd, m, xs, ys, rfl, WA, _, rfl, fun rp hrp => ?_⟩
 refine ⟨rp, 0, _, rfl, zad, by rw [p62]; omega, by rw [p62]; omega, by rw [p62]; omega, by rw [p62]; omega, by omega, fun l hl => ?_⟩
 have e : ((List.range' 0 ((xs.length : Int) + (ys.length : Int) - 0).toNat).map fun i : Nat => V.int (0 + (i : Int))) = (List.range ts.length).map fun i : Nat => V.int (i : Int) := by
  have e1 : ((xs.length : Int) + (ys.length : Int) - 0).toNat = ts.length := by omega
  rw [e1, List.range_eq_range']
  simp
 rw [e]
 have s1 := (zag hrp (.rng 0 ((xs.length : Int) + (ys.length : Int)))).trans (zag hl (.lst ((List.range ts.length).map fun i : Nat => V.int (i : Int))))
 exact q l _ s1 ((zag hrp (.rng 0 ((xs.length : Int) + (ys.length : Int)))).free hl) zad
end
section
variable {P : Program} {w : World} {K : PySem.W.Frag} {mg : Str → Option Value} {base : Heap} {a : Adr} {d : Fds}
theorem zfq (T : Txt K mg a d) : zbi P w K mg base CX0 3 a.f_sure_broken_bough d.f_sure_broken_bough ["bough", "yes", "no"] (zsm Tie.sb) := by
 have G_has := zei (P := P) (w := w) (base := base) T
 have G_count_in := zeb (P := P) (w := w) (base := base) T
 refine T.K_sure_broken_bough.ok sc_sure_broken_bough (fun vs H Q E h => ?_) (fun cdv A outer s H vs Q E hr h => ?_)
 ·obtain ⟨u, lo, hi, ks, m, y, n, v, rfl, _⟩ := h
  rfl
 obtain ⟨u, lo, hi, ks, m, y, n, v, rfl, hd, ok, hm, q⟩ := h
 obtain ⟨p, pk, rfl, hp, hpk⟩ := zdm hd
 have few := ok.few
 have rest4 : ∃ t, PSs (zd5 CX0 P w K mg base ["bough", "yes", "no", "least", "greatest", "some_with_up", "some_without_up"] "sure_broken_bough" (zab zas) a.f_sure_broken_bough cdv A outer s H E).nox ((zai zas).drop 4) t ∧ ∀ (v3 v4 : Option V) (b5 b6 : Bool) (H1 : Hp), Same H H1 → (!b5 && !b6) = (Tie.bough u lo hi ks).sb y n → t { nx := fun _ H' => Q .non H', rt := Q } [some (.ref p), some (.int y), some (.int n), v3, v4, some (.bl b5), some (.bl b6)] H1 := by
  refine ⟨_, (zaj (zar (zfb (zfu (pv 5)) (zel (zfu (pv 6)))))), ?_⟩
  intro v3 v4 b5 b6 H1 s1 e
  have q1 := q H1 s1
  rw [← e] at q1
  refine ⟨_, rfl, _, rfl, _, rfl, ?_⟩
  refine zc0 (fun c => ?_) (fun c => ?_)
  ·rw [c, Bool.true_and] at q1
   exact ⟨_, rfl, _, rfl, q1⟩
  ·rw [Bool.eq_false_iff.mpr c, Bool.false_and] at q1
   exact q1
 obtain ⟨t4, h4, r4⟩ := rest4
 have rest3 : ∃ t, PSs (zd5 CX0 P w K mg base ["bough", "yes", "no", "least", "greatest", "some_with_up", "some_without_up"] "sure_broken_bough" (zab zas) a.f_sure_broken_bough cdv A outer s H E).nox ((zai zas).drop 3) t ∧ ∀ (g : Int) (b5 : Bool) (H1 : Hp), Same H H1 → g = (ks.length : Int) - cnt ks n → b5 = (!n.testBit u && (decide ((cnt ks y : Int) ≤ hi) && decide (lo ≤ g))) → t { nx := fun _ H' => Q .non H', rt := Q } [some (.ref p), some (.int y), some (.int n), some (.int (cnt ks y : Nat)), some (.int g), some (.bl b5), none] H1 := by
  refine ⟨_, (zaf (zau (i := 6) sc_sure_broken_bough.nd rfl (Or.inl rfl) (zfb (zfu (zah G_has hr.lv rfl T.g_has T.K_has.kp T.B_has .nil zan (zaa (pv 1) (zaa (zao (ixT (K := K)) (pv 0) zae (fun _ _ => rfl)) zac)))) (zel (zcz zb6 (pv 3) zae (zax _)))))
   h4), ?_⟩
  intro g b5 H1 s1 eg e5
  have hp1 := s1 _ _ hp
  refine ⟨_, rfl, _, rfl, p, _, _, _, rfl, rfl, sqT hp1, at0, _, _, rfl, _, rfl, _, rfl, ?_⟩
  rw [zbt]
  refine zc0 (fun c => ?_) (fun c => ?_)
  ·refine ⟨_, rfl, rfl, ?_⟩
   refine r4 _ _ _ _ _ s1 ?_
   rw [e5, eg, zml]
   show _ = (!_ && !(!y.testBit u && decide (cnt ks y = 0)))
   rw [c, Bool.true_and]
  ·refine r4 _ _ _ _ _ s1 ?_
   rw [e5, eg]
   show _ = (!_ && !(!y.testBit u && decide (cnt ks y = 0)))
   rw [Bool.eq_false_iff.mpr c, Bool.false_and]
 obtain ⟨t3, h3, r3⟩ := rest3
 have rest2 : ∃ t, PSs (zd5 CX0 P w K mg base ["bough", "yes", "no", "least", "greatest", "some_with_up", "some_without_up"] "sure_broken_bough" (zab zas) a.f_sure_broken_bough cdv A outer s H E).nox ((zai zas).drop 2) t ∧ ∀ (g : Int) (H1 : Hp), Same H H1 → g = (ks.length : Int) - cnt ks n → t { nx := fun _ H' => Q .non H', rt := Q } [some (.ref p), some (.int y), some (.int n), some (.int (cnt ks y : Nat)), some (.int g), none, none] H1 := by
  refine ⟨_, (zaf (zau (i := 5) sc_sure_broken_bough.nd rfl (Or.inl rfl) (zfb (zfu (zah G_has hr.lv rfl T.g_has T.K_has.kp T.B_has .nil zan (zaa (pv 2) (zaa (zao (ixT (K := K)) (pv 0) zae (fun _ _ => rfl)) zac)))) (zfb (zcz zl7 (pv 3) (zao (ixT (K := K)) (pv 0) zae (fun _ _ => rfl)) (zax _)) (zel (zcz zl7 (zao (ixT (K := K)) (pv 0) zae (fun _ _ => rfl)) (pv 4) (zax _))))))
   h3), ?_⟩
  intro g H1 s1 eg
  have hp1 := s1 _ _ hp
  refine ⟨_, rfl, _, rfl, p, _, _, _, rfl, rfl, sqT hp1, at0, _, _, rfl, _, rfl, _, rfl, ?_⟩
  rw [zbt]
  refine zc0 (fun c => ?_) (fun c => ?_)
  ·refine ⟨_, rfl, _, rfl, p, _, _, _, rfl, rfl, sqT hp1, at2, _, _, rfl, rfl, _, rfl, ?_⟩
   refine zc0 (fun c2 => ?_) (fun c2 => ?_)
   ·refine ⟨_, rfl, p, _, _, _, rfl, rfl, sqT hp1, at1, _, rfl, _, _, rfl, rfl, ?_⟩
    exact r3 _ _ _ s1 eg (by rw [c, Bool.true_and, c2, Bool.true_and])
   ·exact r3 _ _ _ s1 eg (by rw [c, Bool.true_and, Bool.eq_false_iff.mpr c2, Bool.false_and])
  ·exact r3 _ _ _ s1 eg (by rw [Bool.eq_false_iff.mpr c, Bool.false_and])
 obtain ⟨t2, h2, r2⟩ := rest2
 refine ⟨_, (zaf (zau (i := 3) sc_sure_broken_bough.nd rfl (Or.inl rfl) (zah G_count_in hr.lv rfl T.g_count_in T.K_count_in.kp T.B_count_in .nil zan (zaa (zao (ixT (K := K)) (pv 0) zae (fun _ _ => rfl)) (zaa (pv 1) zac))))
   (zaf (zau (i := 4) sc_sure_broken_bough.nd rfl (Or.inl rfl) (za7 zhg (zaw (zde (K := K)) rfl T.m_len PySem.boot_len (zaa (zao (ixT (K := K)) (pv 0) zae (fun _ _ => rfl)) zac)) (zah G_count_in hr.lv rfl T.g_count_in T.K_count_in.kp T.B_count_in .nil zan (zaa (zao (ixT (K := K)) (pv 0) zae (fun _ _ => rfl)) (zaa (pv 2) zac)))))
   h2)), ?_⟩
 refine ⟨_, rfl, p, _, _, _, rfl, rfl, sqT hp, at3, _, rfl, pk, ks, y, rfl, hpk, by omega, fun H1 s1 => ?_⟩
 have hp1 := s1 _ _ hp
 have hpk1 := s1 _ _ hpk
 refine ⟨_, rfl, p, _, _, _, rfl, rfl, sqT hp1, at3, pk, _, rfl, .inr (sqT hpk1), ?_⟩
 refine ⟨_, rfl, p, _, _, _, rfl, rfl, sqT hp1, at3, _, rfl, pk, ks, n, rfl, hpk1, by omega, fun H2 s2 => ?_⟩
 refine ⟨_, _, rfl, rfl, ?_⟩
 exact r2 _ _ (s1.trans s2) (by rw [List.length_map])
end
section
variable {P : Program} {w : World} {K : PySem.W.Frag} {mg : Str → Option Value} {base : Heap} {a : Adr} {d : Fds}
theorem zlm (T : Txt K mg a d) : zbi P w K mg base CX0 2 a.f_least_sum d.f_least_sum ["pairs", "yes", "no"] (zvm zex) := by
 have G_has := zei (P := P) (w := w) (base := base) T
 refine T.K_least_sum.ok zko (fun vs H Q E h => ?_) (fun cdv A outer s H vs Q E hr h => ?_)
 ·obtain ⟨pq, xs, ps, y, n, rfl, _⟩ := h
  rfl
 obtain ⟨pq, xs, ps, y, n, rfl, hq, hps, few, q⟩ := h
 have lx : xs.length = ps.length := by rw [← hps.length, List.length_map]
 refine ⟨_, (zaj (zar (zaw (zgg rfl) rfl T.m_sum PyProof.Rows.boot_sum (zaa (zdt (sc0 := zab zca) (XN := ["pairs", "yes", "no"]) (N' := ["k", "number", "yes", "no"]) (n := 2) (kp := [1, 2]) rfl (piT (K := K) (pv 0)) rfl rfl (by decide +kernel) (fun _ _ _ _ _ => (pgT (K := K) (n := 2) rfl (zb8 (zaz (i := 0) (by show List.Nodup (["k", "number", "yes", "no"] : List Str); decide +kernel) rfl (Or.inl rfl)) (zb8 (zaz (i := 1) (by show List.Nodup (["k", "number", "yes", "no"] : List Str); decide +kernel) rfl (Or.inl rfl)) zf7)))) (fun _ _ _ _ _ => (zcf (PW.pt (zke (zcv (zah G_has hr.lv rfl T.g_has T.K_has.kp T.B_has .nil zan (zaa (pv 2) (zaa (pv 0) zac)))) (zkt (PW.pt (zlp (zat zon (pv 1) zae (zax _)) (zhz (zfl (zcv (zah G_has hr.lv rfl T.g_has T.K_has.kp T.B_has .nil zan (zaa (pv 3) (zaa (pv 0) zac))))))))))))) (fun _ _ _ _ _ => (pv 1))) zac)))), ?_⟩
 refine ⟨_, rfl, pq, rfl, ⟨_, sqT hq⟩, ?_⟩
 refine zfo (K := K) (a := pq) (xs := xs) (fun i ys σ H2 => (∃ v v', σ = [v, v', some (.int y), some (.int n)]) ∧ H2 = H ∧ i ≤ ps.length ∧ ys = (((ps.take i).filter fun p => y.testBit p.1 || (decide (p.2 < 0) && !n.testBit p.1)).map (·.2)).map V.int) ⟨⟨none, none, rfl⟩, rfl, Nat.zero_le _, rfl⟩ (fun i ys σ H2 hi pv => ?_) (fun i ys σ H2 hi pv => ?_) (fun i x ys σ H2 hx pv => ?_) (fun ys σ H2 pv l hl => ?_)
 ·obtain ⟨_, _, h1, rfl⟩ := pv
  rw [List.length_map, List.length_map]
  refine small (Nat.le_trans (List.length_filter_le _ _) ?_)
  rw [List.length_take]
  omega
 ·rw [pv.2.1]
  exact sqT hq
 ·obtain ⟨⟨v, v', rfl⟩, rfl, h1, rfl⟩ := pv
  obtain ⟨pr, r, hpr, rfl, hr'⟩ := zk7 hps hx
  have hj : i < ps.length := (List.getElem?_eq_some_iff.mp hpr).1
  have ee := PySem.take_succ_filter (fun p : Nat × Int => y.testBit p.1 || (decide (p.2 < 0) && !n.testBit p.1)) ps i pr hpr
  have yes : (y.testBit pr.1 || (decide (pr.2 < 0) && !n.testBit pr.1)) = true → ((((ps.take i).filter fun p => y.testBit p.1 || (decide (p.2 < 0) && !n.testBit p.1)).map (·.2)).map V.int) ++ [V.int pr.2] = (((ps.take (i + 1)).filter fun p => y.testBit p.1 || (decide (p.2 < 0) && !n.testBit p.1)).map (·.2)).map V.int := fun c => by
   rw [ee, if_pos c, List.map_append, List.map_append]
   rfl
  have noo : (y.testBit pr.1 || (decide (pr.2 < 0) && !n.testBit pr.1)) = false → ((((ps.take i).filter fun p => y.testBit p.1 || (decide (p.2 < 0) && !n.testBit p.1)).map (·.2)).map V.int) = (((ps.take (i + 1)).filter fun p => y.testBit p.1 || (decide (p.2 < 0) && !n.testBit p.1)).map (·.2)).map V.int := fun c => by
   rw [ee, if_neg (by rw [c]; exact Bool.false_ne_true), List.append_nil]
  refine ⟨r, _, rfl, sqT hr', rfl, _, _, rfl, _, _, rfl, rfl, ?_⟩
  refine ⟨_, rfl, _, rfl, _, _, rfl, _, rfl, ?_⟩
  rw [zbt]
  refine zc0 (fun c => ?_) (fun c => ?_)
  ·refine zo0 ?_
   exact ⟨_, rfl, ⟨_, _, rfl⟩, rfl, hj, yes (by rw [c, Bool.true_or])⟩
  ·have c' := Bool.eq_false_iff.mpr c
   refine ⟨_, rfl, _, _, rfl, rfl, _, rfl, ?_⟩
   refine zc0 (fun c2 => ?_) (fun c2 => ?_)
   ·refine ⟨_, rfl, _, rfl, _, _, rfl, _, rfl, ?_⟩
    rw [zbt]
    refine zc0 (fun c3 => ?_) (fun c3 => ?_)
    ·exact ⟨_, rfl, ⟨_, _, rfl⟩, rfl, hj, yes (by rw [c', Bool.false_or, c2, Bool.true_and, c3])⟩
    ·exact ⟨⟨_, _, rfl⟩, rfl, hj, noo (by rw [c', Bool.false_or, c2, Bool.true_and, Bool.eq_false_iff.mpr c3])⟩
   ·refine zf8 ?_
    exact ⟨⟨_, _, rfl⟩, rfl, hj, noo (by rw [c', Bool.false_or, Bool.eq_false_iff.mpr c2, Bool.false_and])⟩
 ·obtain ⟨_, rfl, _, rfl⟩ := pv
  refine ⟨l, _, rfl, SqL.of zad, ?_⟩
  have q1 := q _ (zag hl (.lst ((((ps.take xs.length).filter fun p => y.testBit p.1 || (decide (p.2 < 0) && !n.testBit p.1)).map (·.2)).map V.int)))
  have e : zex ps y n = (((ps.take xs.length).filter fun p => y.testBit p.1 || (decide (p.2 < 0) && !n.testBit p.1)).map (·.2)).sum := by
   rw [lx, List.take_length]
   rfl
  rw [e] at q1
  exact q1
end
section
variable {P : Program} {w : World} {K : PySem.W.Frag} {mg : Str → Option Value} {base : Heap} {a : Adr} {d : Fds}
theorem zjd (T : Txt K mg a d) : zbi P w K mg base CX0 4 a.f_sure_broken d.f_sure_broken ["tie", "yes", "no"] (zuc Tie.sb) := by
 have G_has := zei (P := P) (w := w) (base := base) T
 have G_least_sum := zlm (P := P) (w := w) (base := base) T
 have G_sure_broken_bough := zfq (P := P) (w := w) (base := base) T
 refine T.K_sure_broken.ok zi0 (fun vs H Q E h => ?_) (fun cdv A outer s H vs Q E hr h => ?_)
 ·obtain ⟨t, m, y, n, v, rfl, _⟩ := h
  rfl
 obtain ⟨t, m, y, n, v, rfl, hd, ok, hm, q⟩ := h
 have q0 := q H (Same.refl H)
 refine ⟨_, (zaf (zbk (zat zb6 (zao (ixT (K := K)) (pv 0) zae (fun _ _ => rfl)) zcs (zax _)) (zaj (zar (zfb (zah G_has hr.lv rfl T.g_has T.K_has.kp T.B_has .nil zan (zaa (pv 1) (zaa (zao (ixT (K := K)) (pv 0) zae (fun _ _ => rfl)) zac))) (zel (zah G_has hr.lv rfl T.g_has T.K_has.kp T.B_has .nil zan (zaa (pv 2) (zaa (zao (ixT (K := K)) (pv 0) zae (fun _ _ => rfl)) zac))))))) za1)
   (zaf (zbk (zat zb6 (zao (ixT (K := K)) (pv 0) zae (fun _ _ => rfl)) zcs (zax _)) (zaj (zar (zfb (zah G_has hr.lv rfl T.g_has T.K_has.kp T.B_has .nil zan (zaa (pv 1) (zaa (zao (ixT (K := K)) (pv 0) zae (fun _ _ => rfl)) zac))) (zel (zah G_has hr.lv rfl T.g_has T.K_has.kp T.B_has .nil zan (zaa (pv 1) (zaa (zao (ixT (K := K)) (pv 0) zae (fun _ _ => rfl)) zac))))))) za1)
   (zaf (zbk (zat zb6 (zao (ixT (K := K)) (pv 0) zae (fun _ _ => rfl)) zcs (zax _)) (zaj (zar (zcz zhi (zah G_least_sum hr.lv rfl T.g_least_sum T.K_least_sum.kp T.B_least_sum .nil zan (zaa (zao (ixT (K := K)) (pv 0) zae (fun _ _ => rfl)) (zaa (pv 1) (zaa (pv 2) zac)))) (zao (ixT (K := K)) (pv 0) zae (fun _ _ => rfl)) (zax _)))) za1)
   (zaj (zar (zah G_sure_broken_bough hr.lv rfl T.g_sure_broken_bough T.K_sure_broken_bough.kp T.B_sure_broken_bough .nil zan (zaa (pv 0) (zaa (pv 1) (zaa (pv 2) zac))))))))), ?_⟩
 cases t with
 | needs x z =>
  obtain ⟨p, rfl, hp⟩ := zh0 hd
  refine ⟨_, rfl, p, _, _, _, rfl, rfl, sqT hp, at0, rfl, _, rfl, ?_⟩
  refine zep rfl ?_
  refine ⟨_, rfl, _, rfl, p, _, _, _, rfl, rfl, sqT hp, at1, _, _, rfl, _, rfl, ?_⟩
  rw [zbt]
  have q1 : Q (.bl (y.testBit x && n.testBit z)) H := q0
  refine zc0 (fun c => ?_) (fun c => ?_)
  ·rw [c, Bool.true_and] at q1
   refine ⟨_, rfl, _, rfl, p, _, _, _, rfl, rfl, sqT hp, at2, _, _, rfl, ?_⟩
   rw [zbt]
   exact q1
  ·rw [Bool.eq_false_iff.mpr c, Bool.false_and] at q1
   exact q1
 | bans x z =>
  obtain ⟨p, rfl, hp⟩ := zh0 hd
  refine ⟨_, rfl, p, _, _, _, rfl, rfl, sqT hp, at0, rfl, _, rfl, ?_⟩
  refine zcm zii ?_
  refine ⟨_, rfl, p, _, _, _, rfl, rfl, sqT hp, at0, rfl, _, rfl, ?_⟩
  refine zep rfl ?_
  refine ⟨_, rfl, _, rfl, p, _, _, _, rfl, rfl, sqT hp, at1, _, _, rfl, _, rfl, ?_⟩
  rw [zbt]
  have q1 : Q (.bl (y.testBit x && y.testBit z)) H := q0
  refine zc0 (fun c => ?_) (fun c => ?_)
  ·rw [c, Bool.true_and] at q1
   refine ⟨_, rfl, _, rfl, p, _, _, _, rfl, rfl, sqT hp, at2, _, _, rfl, ?_⟩
   rw [zbt]
   exact q1
  ·rw [Bool.eq_false_iff.mpr c, Bool.false_and] at q1
   exact q1
 | most top ps =>
  obtain ⟨p, pq, xs, rfl, hp, hq, hps⟩ := zop hd
  have few : ps.length ≤ m := ok.2.2.2
  refine ⟨_, rfl, p, _, _, _, rfl, rfl, sqT hp, at0, rfl, _, rfl, ?_⟩
  refine zcm ziu ?_
  refine ⟨_, rfl, p, _, _, _, rfl, rfl, sqT hp, at0, rfl, _, rfl, ?_⟩
  refine zcm zj1 ?_
  refine ⟨_, rfl, p, _, _, _, rfl, rfl, sqT hp, at0, rfl, _, rfl, ?_⟩
  refine zep rfl ?_
  refine ⟨_, rfl, p, _, _, _, rfl, rfl, sqT hp, at2, _, rfl, _, rfl, pq, xs, ps, y, n, rfl, hq, hps, by omega, fun H1 s1 => ?_⟩
  exact ⟨_, rfl, p, _, _, _, rfl, rfl, sqT (s1 _ _ hp), at1, _, _, rfl, rfl, q H1 s1⟩
 | bough u lo hi ks =>
  obtain ⟨p, pk, e, hp, hpk⟩ := zdm hd
  subst e
  refine ⟨_, rfl, p, _, _, _, rfl, rfl, sqT hp, at0, rfl, _, rfl, ?_⟩
  refine zcm int_str ?_
  refine ⟨_, rfl, p, _, _, _, rfl, rfl, sqT hp, at0, rfl, _, rfl, ?_⟩
  refine zcm int_str ?_
  refine ⟨_, rfl, p, _, _, _, rfl, rfl, sqT hp, at0, rfl, _, rfl, ?_⟩
  refine zcm int_str ?_
  exact ⟨_, rfl, _, rfl, _, rfl, u, lo, hi, ks, m, y, n, _, rfl, hd, ok, hm, q⟩
end
section
variable {P : Program} {w : World} {K : PySem.W.Frag} {mg : Str → Option Value} {base : Heap} {a : Adr} {d : Fds}
theorem zf0 (T : Txt K mg a d) : zbi P w K mg base CX0 5 a.f_first_sure_broken d.f_first_sure_broken ["wood", "ties", "yes", "no"] zo2 := by
 have G_tie_at := zo5 (P := P) (w := w) (base := base) T
 have G_sure_broken := zjd (P := P) (w := w) (base := base) T
 refine T.K_first_sure_broken.ok sc_first_sure_broken (fun vs H Q E h => ?_) (fun cdv A outer s H vs Q E hr h => ?_)
 ·obtain ⟨wd, m, ts, tl, il, y, n, rfl, _⟩ := h
  rfl
 obtain ⟨wd, m, ts, tl, il, y, n, rfl, W, htl, ilt, q⟩ := h
 have m9 := W.m9
 refine ⟨_, (zaf (ze4 PassesOwn.never rfl (piL (K := K) (pv 1)) (zaz (i := 4) sc_first_sure_broken.nd rfl (Or.inl rfl)) (zaj (zbk (zcv (zah G_sure_broken hr.lv rfl T.g_sure_broken T.K_sure_broken.kp T.B_sure_broken .nil zan (zaa (zah G_tie_at hr.lv rfl T.g_tie_at T.K_tie_at.kp T.B_tie_at .nil zan (zaa (pv 0) (zaa (pv 4) zac))) (zaa (pv 2) (zaa (pv 3) zac))))) (zaj (zar (pv 4))) za1)))
   (zaj (zar zdo))), ?_⟩
 refine ⟨_, rfl, tl, rfl, ⟨_, SqL.of htl⟩, ?_⟩
 refine zi3 (K := K) (a := tl) (xs := zak il) (fun i σ H2 => (∃ v, σ = [some (.ref wd), some (.ref tl), some (.int y), some (.int n), v]) ∧ Same H H2 ∧ (il.take i).find? (fun i => zij ts i y n) = none) ⟨⟨_, rfl⟩, Same.refl _, rfl⟩ (fun i σ H2 _ z => SqL.of (z.2.1 _ _ htl)) ?_ ?_
 ·rintro i x σ H2 hx ⟨⟨v, rfl⟩, s2, hb⟩
  rw [List.getElem?_map] at hx
  obtain ⟨t, ht, rfl⟩ := Option.map_eq_some_iff.mp hx
  have htl' := ilt t (List.mem_of_getElem? ht)
  have W2 := W.same s2
  obtain ⟨xs, ys, WA, dn⟩ := W2.ex
  have hts : ts[t]? = some ts[t] := List.getElem?_eq_getElem htl'
  obtain ⟨v2, hv2, hd⟩ := DnL.get' dn (i := t) (d := ts[t].toD) (by rw [List.getElem?_map, hts]; rfl)
  have esb : zij ts t y n = ts[t].sb y n := by unfold zij; rw [hts]
  refine ⟨_, rfl, _, rfl, wd, m, xs, ys, t, v2, rfl, WA, hv2, ?_⟩
  refine ⟨_, rfl, _, rfl, ts[t], m, y, n, v2, rfl, hd, W.ok _ (List.getElem_mem htl'), by omega, fun H3 s3 => ?_⟩
  refine ⟨_, rfl, ?_⟩
  refine zc0 (fun c => ?_) (fun c => ?_)
  ·have q1 := q H3 (s2.trans s3)
   have e : zbs ts il y n = some t := by
    unfold zbs
    have el : il = il.take i ++ t :: il.drop (i + 1) := by
     obtain ⟨hi, e⟩ := List.getElem?_eq_some_iff.mp ht
     rw [← e, List.getElem_cons_drop, List.take_append_drop]
    rw [el, List.find?_append, hb]
    simp [esb, c]
   rw [e] at q1
   exact ⟨_, rfl, q1⟩
  ·refine ⟨⟨_, rfl⟩, s2.trans s3, ?_⟩
   rw [List.take_add_one, ht, Option.toList_some, List.find?_append, hb]
   simp [esb, c]
 ·rintro σ H2 ⟨⟨v, rfl⟩, s2, hb⟩
  have q1 := q H2 s2
  rw [List.length_map, List.take_length] at hb
  have e : zbs ts il y n = none := hb
  rw [e] at q1
  exact q1
end
section
variable {P : Program} {w : World} {K : PySem.W.Frag} {mg : Str → Option Value} {base : Heap} {a : Adr} {d : Fds}
theorem zjy (T : Txt K mg a d) (f : Nat) {p : Addr} {C : Hp → Prop} {m : Nat} {leaf : Nat → Nat → Option PyData} {fdL : FuncData} {pl : List Str} {φ : Heap → Prop}
  (L_leaf_at : zbi P w K mg base CX0 7 p fdL pl (zus C leaf)) (LB_leaf_at : Binds K fdL pl []) (LP_leaf_at : ∀ h : Heap, φ h → ∃ o fd', h.get? p = some o ∧ o.data = .func fd') (hC : ∀ H H', Same H H' → C H → C H') (hCp : ∀ H, C H → H p = some (.ext φ))
  (G_told_tree : f ≠ 0 → zbi P w K mg base CX0 (f + 7) a.f_told_tree d.f_told_tree ["wood", "ties", "yes", "no", "leaf_at"] (zkz (f - 1) p C m leaf)) : zbi P w K mg base CX0 (f + 8) a.f_told_tree d.f_told_tree ["wood", "ties", "yes", "no", "leaf_at"] (zkz f p C m leaf) := by
 have G_first_sure_broken := zf0 (P := P) (w := w) (base := base) T
 have G_open_options := zfi (P := P) (w := w) (base := base) T
 have G_with_option := zea (P := P) (w := w) (base := base) T
 refine T.K_told_tree.ok sc_told_tree (fun vs H Q E h => ?_) (fun cdv A outer s H vs Q E hr h => ?_)
 ·obtain ⟨wd, ts, tl, il, y, n, rfl, _⟩ := h
  rfl
 obtain ⟨wd, ts, tl, il, y, n, rfl, W, htl, ilt, hf, c0, ends, q⟩ := h
 have m9 := W.m9
 obtain ⟨R, r0, rs, re⟩ := ends
 have rest : ∃ t, PSs (zd5 CX0 P w K mg base ["wood", "ties", "yes", "no", "leaf_at", "broken", "leaf", "k", "one", "other"] "told_tree" (zab zb3) a.f_told_tree cdv A outer s H E).nox ((zai zb3).drop 5) t ∧ (∀ (k : Nat) (r : List Nat) (v5 v6 : Option V) (H1 : Hp), Same H H1 → za9 m y n = k :: r → zbs ts il y n = none → leaf y n = none → t { nx := fun _ H' => Q .non H', rt := Q } [some (.ref wd), some (.ref tl), some (.int y), some (.int n), some (.ref p), v5, v6, some (.int (k : Int)), none, none] H1) := by
  by_cases hf0 : f = 0
  ·refine ⟨znl, zf3, ?_⟩
   intro k r v5 v6 H1 s1 ho hb
   rw [ho, hf0] at hf
   simp at hf
  ·have G_told_tree := G_told_tree hf0
   refine ⟨_, (zaf (zau (i := 8) sc_told_tree.nd rfl (Or.inl rfl) (zah G_told_tree hr.lv rfl T.g_told_tree T.K_told_tree.kp T.B_told_tree .nil zan (zaa (pv 0) (zaa (pv 1) (zaa (zah G_with_option hr.lv rfl T.g_with_option T.K_with_option.kp T.B_with_option .nil zan (zaa (pv 2) (zaa (pv 7) zac))) (zaa (pv 3) (zaa (pv 4) zac)))))))
   (zaf (zau (i := 9) sc_told_tree.nd rfl (Or.inl rfl) (zah G_told_tree hr.lv rfl T.g_told_tree T.K_told_tree.kp T.B_told_tree .nil zan (zaa (pv 0) (zaa (pv 1) (zaa (pv 2) (zaa (zah G_with_option hr.lv rfl T.g_with_option T.K_with_option.kp T.B_with_option .nil zan (zaa (pv 3) (zaa (pv 7) zac))) (zaa (pv 4) zac)))))))
   (zaj (zar (zb7 (zaa zcs (zaa (pv 7) (zaa (pv 8) (zaa (pv 9) zac))))))))), ?_⟩
   intro k r v5 v6 H1 s1 ho hb hlf
   have hk : k ∈ za9 m y n := by rw [ho]; exact List.mem_cons_self
   have km := (mem_open.mp hk).1
   have l1 := zfe hk
   have l2 := zfa hk
   refine ⟨_, rfl, _, rfl, _, rfl, _, rfl, y, k, rfl, by omega, _, rfl, _, rfl, wd, ts, tl, il, y ||| 2 ^ k, n, rfl, W.same s1, s1 _ _ htl, ilt, by omega, hC _ _ s1 c0, ⟨R, (rs y n k r0 hk).1, rs, re⟩, fun v1 H2 s2 d1 => ?_⟩
   refine ⟨_, rfl, _, rfl, _, rfl, _, rfl, _, rfl, n, k, rfl, by omega, _, rfl, wd, ts, tl, il, y, n ||| 2 ^ k, rfl, W.same (s1.trans s2), (s1.trans s2) _ _ htl, ilt, by omega, hC _ _ (s1.trans s2) c0, ⟨R, (rs y n k r0 hk).2, rs, re⟩, fun v2 H3 s3 d2 => ?_⟩
   refine ⟨_, rfl, _, rfl, _, rfl, small (by show 4 ≤ 1000; decide), fun tp htp => ?_⟩
   have s4 := zag htp (.tup [.str ("split" : Str), .int (k : Int), v1, v2])
   refine q _ _ (((s1.trans s2).trans s3).trans s4) ?_
   obtain ⟨f', rfl⟩ : ∃ f', f = f' + 1 := ⟨f - 1, by omega⟩
   rw [zhm hb hlf ho]
   exact ⟨tp, _, rfl, zad, _, _, rfl, rfl, _, _, rfl, rfl, _, _, rfl, Dn.same (s3.trans s4) _ _ d1, _, _, rfl, Dn.same s4 _ _ d2, rfl⟩
 obtain ⟨t4, h4, r4⟩ := rest
 refine ⟨_, (zaf (zau (i := 5) sc_told_tree.nd rfl (Or.inl rfl) (zah G_first_sure_broken hr.lv rfl T.g_first_sure_broken T.K_first_sure_broken.kp T.B_first_sure_broken .nil zan (zaa (pv 0) (zaa (pv 1) (zaa (pv 2) (zaa (pv 3) zac))))))
   (zaf (zbk (zat zn5 (pv 5) zdo (zax _)) (zaj (zar (zb7 (zaa zcs (zaa (pv 5) zac))))) za1)
   (zaf (zau (i := 6) sc_told_tree.nd rfl (Or.inl rfl) (zrh (i := 4) L_leaf_at hr.lv rfl (.inl rfl) LB_leaf_at LP_leaf_at (zaa (pv 2) (zaa (pv 3) zac))))
   (zaf (zbk (zat zn5 (pv 6) zdo (zax _)) (zaj (zar (pv 6))) za1)
   (zaf (zau (i := 7) sc_told_tree.nd rfl (Or.inl rfl) (zao (ixL (K := K)) (zah G_open_options hr.lv rfl T.g_open_options T.K_open_options.kp T.B_open_options .nil zan (zaa (zao (ixT (K := K)) (pv 0) zae (fun _ _ => rfl)) (zaa (pv 2) (zaa (pv 3) zac)))) zae (fun _ _ => rfl)))
   h4))))), ?_⟩
 refine ⟨_, rfl, _, rfl, _, rfl, _, rfl, wd, m, ts, tl, il, y, n, rfl, W, htl, ilt, fun H1 s1 => ?_⟩
 obtain ⟨o, ho⟩ : ∃ o, zbs ts il y n = o := ⟨_, rfl⟩
 rw [ho]
 obtain ⟨xs, ys, ⟨tb, tc, hw, hb, hc⟩, dn⟩ := W.ex
 rcases o with _ | t
 ·refine ⟨_, rfl, rfl, _, rfl, ?_⟩
  refine zti rfl ?_
  refine ⟨rfl, _, rfl, _, rfl, hCp _ (hC _ _ s1 c0), y, n, rfl, hC _ _ s1 c0, fun v H2 s2 lv => ?_⟩
  unfold zkb at lv
  cases hl : leaf y n with
  | some dd =>
   rw [hl] at lv
   obtain ⟨dv, pp, rfl⟩ := lv
   refine ⟨_, rfl, rfl, _, rfl, ?_⟩
   refine zte (by intro z; cases z) ?_
   refine ⟨_, rfl, ?_⟩
   refine q _ _ (s1.trans s2) ?_
   rw [zi7 ho hl]
   exact dv
  | none =>
   rw [hl] at lv
   subst lv
   refine ⟨_, rfl, rfl, _, rfl, ?_⟩
   refine zti rfl ?_
   have s12 := s1.trans s2
   refine ⟨_, rfl, wd, _, _, _, rfl, rfl, sqT (s12 _ _ hw), at0, _, rfl, _, rfl, m, y, n, rfl, by omega, fun l H3 s3 nl hl3 => ?_⟩
   obtain ⟨ol, hol⟩ : ∃ ol, za9 m y n = ol := ⟨_, rfl⟩
   rw [hol] at hl3
   rcases ol with _ | ⟨k, r⟩
   ·exact absurd hl (re y n r0 ho hol)
   ·refine ⟨l, _, _, _, rfl, rfl, SqL.of hl3, at0, ?_⟩
    exact r4 k r _ _ H3 (s12.trans s3) hol ho hl
 ·refine ⟨_, rfl, rfl, _, rfl, ?_⟩
  refine zte (by intro z; cases z) ?_
  refine ⟨_, rfl, small (by show 2 ≤ 1000; decide), fun tp htp => ?_⟩
  have s2 := zag htp (.tup [.str ("broken" : Str), .int (t : Int)])
  refine q _ _ (s1.trans s2) ?_
  rw [zg2 ho]
  exact ⟨tp, _, rfl, zad, _, _, rfl, rfl, _, _, rfl, rfl, rfl⟩
theorem zgu (T : Txt K mg a d) {p : Addr} {C : Hp → Prop} {m : Nat} {leaf : Nat → Nat → Option PyData} {fdL : FuncData} {pl : List Str} {φ : Heap → Prop}
  (L : zbi P w K mg base CX0 7 p fdL pl (zus C leaf)) (LB : Binds K fdL pl []) (LP : ∀ h : Heap, φ h → ∃ o fd', h.get? p = some o ∧ o.data = .func fd') (hC : ∀ H H', Same H H' → C H → C H') (hCp : ∀ H, C H → H p = some (.ext φ)) :
  ∀ f : Nat, zbi P w K mg base CX0 (f + 8) a.f_told_tree d.f_told_tree ["wood", "ties", "yes", "no", "leaf_at"] (zkz f p C m leaf)
 | 0 => zjy T 0 L LB LP hC hCp fun h => absurd rfl h
 | f + 1 => zjy T (f + 1) L LB LP hC hCp fun _ => zgu T L LB LP hC hCp f
end
section
variable {P : Program} {w : World} {K : PySem.W.Frag} {mg : Str → Option Value} {base : Heap} {a : Adr} {d : Fds}
def znc : Sp := fun vs H Q _ => ∃ (wd : Addr) (m : Nat) (ts : List Tie) (y n : Nat), vs = [.ref wd, .int y, .int n] ∧ WoodT H wd m ts ∧ ∀ (v : V) (H' : Hp), Same H H' → zkb (zdw m) y n H' v → Q v H'
theorem zkl (T : Txt K mg a d) : zbi P w K mg base CX0 3 a.f_ware_leaf d.f_ware_leaf ["wood", "yes", "no"] znc := by
 have G_open_options := zfi (P := P) (w := w) (base := base) T
 refine T.K_ware_leaf.ok zli (fun vs H Q E h => ?_) (fun cdv A outer s H vs Q E hr h => ?_)
 ·obtain ⟨wd, m, ts, y, n, rfl, _⟩ := h
  rfl
 obtain ⟨wd, m, ts, y, n, rfl, W, q⟩ := h
 have m9 := W.m9
 refine ⟨_, (zaf (zbk (zat zb6 (zaw (zde (K := K)) rfl T.m_len PySem.boot_len (zaa (zah G_open_options hr.lv rfl T.g_open_options T.K_open_options.kp T.B_open_options .nil zan (zaa (zao (ixT (K := K)) (pv 0) zae (fun _ _ => rfl)) (zaa (pv 1) (zaa (pv 2) zac)))) zac)) zae (zax _)) (zaj (zar (zb7 (zaa zcs zac)))) za1)
   (zaj (zar zdo))), ?_⟩
 obtain ⟨xs, ys, ⟨tb, tc, hw, hb, hc⟩, dn⟩ := W.ex
 refine ⟨_, rfl, wd, _, _, _, rfl, rfl, sqT hw, at0, _, rfl, _, rfl, m, y, n, rfl, by omega, fun l H2 s2 nl hl => ?_⟩
 refine ⟨l, _, rfl, .inl (SqL.of hl), rfl, _, rfl, ?_⟩
 rw [zml, List.length_map]
 obtain ⟨ol, hol⟩ : ∃ ol, za9 m y n = ol := ⟨_, rfl⟩
 rw [hol]
 rcases ol with _ | ⟨k, r⟩
 ·refine zep rfl ?_
  refine ⟨small (by show 1 ≤ 1000; decide), fun tp htp => ?_⟩
  have s3 := zag htp (.tup [.str ("ware" : Str)])
  refine q _ _ (s2.trans s3) ?_
  unfold zkb zdw
  rw [if_pos hol]
  exact ⟨⟨tp, _, rfl, zad, _, _, rfl, rfl, rfl⟩, tp, rfl⟩
 ·refine zcm (by simp) ?_
  refine q _ _ s2 ?_
  unfold zkb zdw
  rw [if_neg (by rw [hol]; simp)]
end
section
variable {P : Program} {w : World} {K : PySem.W.Frag} {mg : Str → Option Value} {base : Heap} {a : Adr} {d : Fds}
theorem zlu (T : Txt K mg a d) (LB : zgj mg base a.c_cases_of a.t_cases_of) (f : Nat) : zbi P w K mg base CX0 (f + 9) a.f_cases_of d.f_cases_of ["wood", "ties", "yes", "no"] (spT a.t_cases_of (zrz f)) := by
 refine T.K_cases_of.okC zm4 (fun vs H Q E h => ?_) (fun cdv A outer s H vs Q E hcd hr h => ?_)
 ·obtain ⟨_, wd, m, ts, tl, il, y, n, rfl, _⟩ := h
  rfl
 obtain ⟨tb, wd, m, ts, tl, il, y, n, rfl, W, htl, ilt, hf, q⟩ := h
 have LC : ((zd5 CX0 P w K mg base ["wood", "ties", "yes", "no"] "cases_of" (zab zbp) a.f_cases_of cdv A outer s H E).nox).env.code = .ref a.c_cases_of := hcd.symm.trans T.code_cases_of
 have LF : ∀ y ∈ (zmn (zoh (zue (zai zbp)[0]?))).names, y.2 = .free → ∃ c, ((zd5 CX0 P w K mg base ["wood", "ties", "yes", "no"] "cases_of" (zab zbp) a.f_cases_of cdv A outer s H E).nox).env.cells.lookup y.1 = some c := by
  intro y hy hz
  have e : y = (("wood" : Str), NameKind.free) := by
   have h := (by decide +kernel : ∀ y ∈ (zmn (zoh (zue (zai zbp)[0]?))).names, y.2 = NameKind.free → y = (("wood" : Str), NameKind.free))
   exact h y hy hz
  subst e
  exact ⟨_, rfl⟩
 refine ⟨_, (zaj (zar (zqk (k := f + 8) hr.lv rfl T.g_told_tree T.K_told_tree.kp T.B_told_tree (fun _ => rfl) (zaa (pv 0) (zaa (pv 1) (zaa (pv 2) (zaa (pv 3) (zaa (zuw LC LB rfl LF) zac)))))))), ?_⟩
 refine ⟨_, rfl, _, rfl, _, rfl, _, rfl, tb, fun p c' H1 np s1 hp hc base' ci _ _ => ?_⟩
 obtain ⟨cw, u, e1, r1, ic⟩ := ci 0 "wood" (.ref wd) rfl rfl rfl
 have hcells : ((zd5 CX0 P w K mg base ["wood", "ties", "yes", "no"] "cases_of" (zab zbp) a.f_cases_of cdv A outer s H E).nox).env.cells = [(("wood" : Str), cw)] := by
  have z : cw = s.heap.objs.size + 1 := (Option.some.inj (show some (s.heap.objs.size + 1) = some cw from e1)).symm
  rw [z]
  rfl
 have G_ware_leaf := zkl (P := P) (w := w) (base := base') T
 have L := ztw (P := P) (w := w) (K := K) (mg := mg) (base := base') (ps := ["come", "gone"]) (fr := ["wood"]) (fv := [.ref wd]) (k := 6) (leaf := zdw m) (fun H => WoodT H wd m ts) hp ⟨rfl, rfl, rfl, by decide +kernel, by decide +kernel, by decide +kernel, by decide +kernel⟩
  (fun x cc h => by
   have h' := zbj LF h
   rw [hcells] at h'
   obtain ⟨_, rfl⟩ := zgl h'
   exact ⟨_, ic⟩)
  (fun x y cc h1 h2 => by
   have h1' := zbj LF h1
   have h2' := zbj LF h2
   rw [hcells] at h1' h2'
   rw [(zgl h1').1, (zgl h2').1])
  (fun y hy hz => by
   obtain ⟨c, hc⟩ := LF y hy hz
   exact ⟨c, zf2 LF (by rw [← hz]; exact hy) hc⟩)
  (fun i x v h1 h2 => by
   cases i with
   | zero =>
    cases h1
    cases h2
    exact ⟨cw, u, zf2 LF (by decide +kernel) e1, r1, ic⟩
   | succ i => cases h1)
  rfl (fun _ _ _ => rfl) rfl
  (fun q A outer s H y n Q hr W0 q' => ⟨_, zah G_ware_leaf (hr.mono (by decide)) rfl T.g_ware_leaf T.K_ware_leaf.kp T.B_ware_leaf .nil zan (zaa (pv 2) (zaa (pv 0) (zaa (pv 1) zac))), ⟨_, rfl, _, rfl, _, rfl, wd, m, ts, y, n, rfl, W0, q'⟩⟩)
 have G := zgu (P := P) (w := w) (base := base') (m := m) T L (.all fun us hl => match us, hl with | [_, _], _ => rfl) zr6 (fun H H' s h => ⟨h.1.same s, s _ _ h.2.1, s _ _ h.2.2⟩) (fun H h => h.2.1) f
 refine ⟨_, G, wd, ts, tl, il, y, n, rfl, W.same s1, s1 _ _ htl, ilt, hf, ⟨W.same s1, hp, hc⟩, EndsR.all (fun y n hb ho => by unfold zdw; rw [if_pos ho]; simp) _ _, fun v H' s2 dv => q v H' (s1.trans s2) ?_⟩
 rw [← zgk f y n hf]
 exact dv
end
section
variable {P : Program} {w : World} {K : PySem.W.Frag} {mg : Str → Option Value} {base : Heap} {a : Adr} {d : Fds}
theorem zrf (T : Txt K mg a d) (LB : zgj mg base a.c_cases_of a.t_cases_of) : zbi P w K mg base CX0 19 a.f_cases d.f_cases ["wood", "yes", "no"] (spT a.t_cases_of zsn) := by
 have G_cases_of := zlu (P := P) (w := w) (base := base) T LB 9
 have G_every_tie := zk1 (P := P) (w := w) (base := base) T
 refine T.K_cases.ok zqs (fun vs H Q E h => ?_) (fun cdv A outer s H vs Q E hr h => ?_)
 ·obtain ⟨_, wd, m, ts, y, n, rfl, _⟩ := h
  rfl
 obtain ⟨tb, wd, m, ts, y, n, rfl, W, m9, q⟩ := h
 have of := zlv m y n
 refine ⟨_, (zaj (zar (zah G_cases_of hr.lv rfl T.g_cases_of T.K_cases_of.kp T.B_cases_of .nil zan (zaa (pv 0) (zaa (zah G_every_tie hr.lv rfl T.g_every_tie T.K_every_tie.kp T.B_every_tie .nil zan (zaa (pv 0) zac)) (zaa (pv 1) (zaa (pv 2) zac))))))), ?_⟩
 refine ⟨_, rfl, _, rfl, wd, m, ts, rfl, W, fun l H1 s1 nl hl => ?_⟩
 refine ⟨_, rfl, _, rfl, s1.tab tb, wd, m, ts, l, zmu ts, y, n, rfl, W.same s1, hl, fun i hi => List.mem_range.mp hi, by omega, fun v H2 s2 dv => ?_⟩
 exact q v H2 (s1.trans s2) dv
end
section
variable {P : Program} {w : World} {K : PySem.W.Frag} {mg : Str → Option Value} {base : Heap} {a : Adr} {d : Fds}
theorem zgh (T : Txt K mg a d) (f : Nat) (G_wares_in : f ≠ 0 → zbi P w K mg base CX0 (f + 1) a.f_wares_in d.f_wares_in ["yes", "tree"] (zix (f - 1))) : zbi P w K mg base CX0 (f + 2) a.f_wares_in d.f_wares_in ["yes", "tree"] (zix f) := by
 have G_with_option := zea (P := P) (w := w) (base := base) T
 refine T.K_wares_in.ok zm8 (fun vs H Q E h => ?_) (fun cdv A outer s H vs Q E hr h => ?_)
 ·obtain ⟨y, t, v, rfl, _⟩ := h
  rfl
 obtain ⟨y, t, v, rfl, hd, hdp, f9, sml, q⟩ := h
 cases t with
 | ware =>
  refine ⟨_, zaf (zbk (zat zb6 (zao zkv (pv 1) zae (fun _ _ => rfl)) zcs (zax _)) (zaj (zar (zc4 (zaa (pv 0) zac)))) za1) zf3, ?_⟩
  obtain ⟨p, rfl, hp⟩ := zsw hd
  refine ⟨_, rfl, p, _, _, _, rfl, rfl, sqT hp, at0, rfl, _, rfl, ?_⟩
  refine zep rfl ?_
  refine ⟨_, rfl, small (by show 1 ≤ 1000; decide), fun l hl => ?_⟩
  exact q l _ (zag hl _) hl zad
 | broken tt =>
  refine ⟨_, zaf (zbk (zat zb6 (zao zkv (pv 1) zae (fun _ _ => rfl)) zcs (zax _)) zf3 za1) (zaf (zbk (zat zb6 (zao zkv (pv 1) zae (fun _ _ => rfl)) zcs (zax _)) zf3 za1) (zaj (zar (zc4 zac)))), ?_⟩
  obtain ⟨p, rfl, hp⟩ := zpe hd
  refine ⟨_, rfl, p, _, _, _, rfl, rfl, sqT hp, at0, rfl, _, rfl, ?_⟩
  refine zcm zmf ?_
  refine ⟨_, rfl, p, _, _, _, rfl, rfl, sqT hp, at0, rfl, _, rfl, ?_⟩
  refine zcm zk4 ?_
  refine ⟨small (by decide), fun l hl => ?_⟩
  exact q l _ (zag hl _) hl zad
 | split k ta tb =>
  have hf0 : f ≠ 0 := fun z => by rw [z] at hdp; simp [CT.depth] at hdp
  have G_wares_in := G_wares_in hf0
  have hdp' : max ta.depth tb.depth + 1 ≤ f := hdp
  refine ⟨_, (zaf (zbk (zat zb6 (zao (ixT (K := K)) (pv 1) zae (fun _ _ => rfl)) zcs (zax _)) (zaj (zar (zc4 (zaa (pv 0) zac)))) za1)
   (zaf (zbk (zat zb6 (zao (ixT (K := K)) (pv 1) zae (fun _ _ => rfl)) zcs (zax _)) (zaj (zar (za7 zkk (zah G_wares_in hr.lv rfl T.g_wares_in T.K_wares_in.kp T.B_wares_in .nil zan (zaa (zah G_with_option hr.lv rfl T.g_with_option T.K_with_option.kp T.B_with_option .nil zan (zaa (pv 0) (zaa (zao (ixT (K := K)) (pv 1) zae (fun _ _ => rfl)) zac))) (zaa (zao (ixT (K := K)) (pv 1) zae (fun _ _ => rfl)) zac))) (zah G_wares_in hr.lv rfl T.g_wares_in T.K_wares_in.kp T.B_wares_in .nil zan (zaa (pv 0) (zaa (zao (ixT (K := K)) (pv 1) zae (fun _ _ => rfl)) zac)))))) za1)
   (zaj (zar (zc4 zac))))), ?_⟩
  obtain ⟨p, va, vb, rfl, hp, da, db⟩ := zqe hd
  obtain ⟨k1, sa, sb⟩ := sml
  refine ⟨_, rfl, p, _, _, _, rfl, rfl, sqT hp, at0, rfl, _, rfl, ?_⟩
  refine zcm znd ?_
  refine ⟨_, rfl, p, _, _, _, rfl, rfl, sqT hp, at0, rfl, _, rfl, ?_⟩
  refine zep rfl ?_
  refine ⟨_, rfl, _, rfl, p, _, _, _, rfl, rfl, sqT hp, at1, y, k, rfl, k1, _, rfl, p, _, _, _, rfl, rfl, sqT hp, at2, y ||| 2 ^ k, ta, va, rfl, da, by omega, by omega, sa, fun l1 H1 s1 n1 h1 => ?_⟩
  refine ⟨_, rfl, _, rfl, p, _, _, _, rfl, rfl, sqT (s1 _ _ hp), at3, y, tb, vb, rfl, Dn.same s1 _ _ db, by omega, by omega, sb, fun l2 H2 s2 n2 h2 => ?_⟩
  have f1 := ze8 ta (y ||| 2 ^ k)
  have f2 := ze8 tb y
  have p1 : 2 ^ ta.depth ≤ 2 ^ 8 := Nat.pow_le_pow_right (by decide) (by omega)
  have p2 : 2 ^ tb.depth ≤ 2 ^ 8 := Nat.pow_le_pow_right (by decide) (by omega)
  refine ⟨l1, l2, _, _, rfl, rfl, s2 _ _ h1, h2, (by rw [List.length_map, List.length_map]; exact small (by omega)), fun l3 h3 => ?_⟩
  have e : zak (ta.leaves (y ||| 2 ^ k)) ++ zak (tb.leaves y) = zak ((CT.split k ta tb).leaves y) := by
   show _ = zak (ta.leaves (y ||| 2 ^ k) ++ tb.leaves y)
   rw [zak, zak, zak, List.map_append]
  rw [e]
  exact q l3 _ ((s1.trans s2).trans (zag h3 _)) ((s1.trans s2).free h3) zad
theorem zhs (T : Txt K mg a d) : ∀ f : Nat, zbi P w K mg base CX0 (f + 2) a.f_wares_in d.f_wares_in ["yes", "tree"] (zix f)
 | 0 => zgh T 0 fun h => absurd rfl h
 | f + 1 => zgh T (f + 1) fun _ => zhs T f
end
section
variable {P : Program} {w : World} {K : PySem.W.Frag} {mg : Str → Option Value} {base : Heap} {a : Adr} {d : Fds}
theorem zh7 (T : Txt K mg a d) (LB : zgj mg base a.c_cases_of a.t_cases_of) : zbi P w K mg base CX0 20 a.f_wares d.f_wares ["wood"] (spT a.t_cases_of zs9) := by
 have G_cases := zrf (P := P) (w := w) (base := base) T LB
 have G_wares_in := zhs (P := P) (w := w) (base := base) T 9
 have G_with_option := zea (P := P) (w := w) (base := base) T
 refine T.K_wares.ok sc_wares (fun vs H Q E h => ?_) (fun cdv A outer s H vs Q E hr h => ?_)
 ·obtain ⟨_, wd, m, ts, rfl, _⟩ := h
  rfl
 obtain ⟨tb, wd, m, ts, rfl, W, m1, m9, q⟩ := h
 have of := zlv m 1 0
 have dp := ze1 (ts := ts) (il := zmu ts) (m := m) 9 1 0
 have sml := ze0 (ts := ts) (il := zmu ts) (m := m) (by omega) 9 1 0
 have pm := znn W.ok m1 9 (by omega)
 refine ⟨_, (zaf (zau (i := 1) sc_wares.nd rfl (Or.inl rfl) (zah G_with_option hr.lv rfl T.g_with_option T.K_with_option.kp T.B_with_option .nil zan (zaa zae (zaa zae zac))))
   (zaj (zar (zaw zkn rfl T.m_sorted PyProof.Rows.boot_sorted (zaa (zah G_wares_in hr.lv rfl T.g_wares_in T.K_wares_in.kp T.B_wares_in .nil zan (zaa (pv 1) (zaa (zah G_cases hr.lv rfl T.g_cases T.K_cases.kp T.B_cases .nil zan (zaa (pv 0) (zaa (pv 1) (zaa zae zac)))) zac))) zac))))), ?_⟩
 refine ⟨0, 0, rfl, by decide, ?_⟩
 refine ⟨_, rfl, _, rfl, _, rfl, tb, wd, m, ts, 1, 0, rfl, W, m9, fun v H1 s1 dv => ?_⟩
 refine ⟨1, _, v, rfl, dv, dp, by omega, sml, fun l H2 s2 n2 hl2 => ?_⟩
 refine ⟨l, ((zb4 ts (zmu ts) m 9 1 0).leaves 1).map (fun k : Nat => (k : Int)), rfl, SqL.of (by rw [hl2]; exact congrArg some (congrArg HO.lst (zn9 _).symm)), fun ms h1 h2 l3 h3 => ?_⟩
 rw [zmd h1 h2 pm (zmp m ts), zn9]
 exact q l3 _ ((s1.trans s2).trans (zag h3 _)) ((s1.trans s2).free h3) zad
end
section
variable {P : Program} {w : World} {K : PySem.W.Frag} {mg : Str → Option Value} {base : Heap} {a : Adr} {d : Fds}
theorem zih (T : Txt K mg a d) : zbi P w K mg base CX0 1 a.f_boughs_left d.f_boughs_left ["boughs", "kept"] zk0 := by
 refine T.K_boughs_left.ok sc_boughs_left (fun vs H Q E h => ?_) (fun cdv A outer s H vs Q E hr h => ?_)
 ·obtain ⟨tb, lk, L, kept, m, rfl, _⟩ := h
  rfl
 obtain ⟨tb, lk, L, kept, m, rfl, ⟨xs, htb, dn⟩, hlk, pw, kl, Ll, m9, ok, up, q⟩ := h
 have lx : xs.length = L.length := by
  have := dn.length
  rw [List.length_map, List.length_map] at this
  exact this.symm
 refine ⟨_, (zaf (zau (i := 2) sc_boughs_left.nd rfl (Or.inl rfl) (zc4 zac))
   (zaf (ze4 PassesOwn.never rfl (piT (K := K) (pv 0)) (pgT (K := K) (n := 4) rfl (zb8 (zaz (i := 3) sc_boughs_left.nd rfl (Or.inl rfl)) (zb8 (zaz (i := 4) sc_boughs_left.nd rfl (Or.inl rfl)) (zb8 (zaz (i := 5) sc_boughs_left.nd rfl (Or.inl rfl)) (zb8 (zaz (i := 6) sc_boughs_left.nd rfl (Or.inl rfl)) zf7))))) (zaf (zau (i := 7) sc_boughs_left.nd rfl (Or.inl rfl) (zbd zb1 rfl T.m_tuple PyProof.Rows.boot_tuple (zaa (zdt (sc0 := zab zbm) (XN := ["boughs", "kept", "left", "up", "low", "high", "kids", "fewer"]) (N' := ["k", "kept"]) (n := 1) (kp := [1]) rfl (piT (K := K) (pv 6)) rfl rfl (by decide +kernel) (fun _ _ _ _ _ => (zaz (i := 0) (by show List.Nodup (["k", "kept"] : List Str); decide +kernel) rfl (Or.inl rfl))) (fun _ _ _ _ _ => (zcf (zat (inS (K := K)) (pv 0) (pv 1) (by with_unfolding_all rfl)))) (fun _ _ _ _ _ => (zc5 (K := K) PySem.F.plainAttrs_list PySem.F.slot_list_index PySem.F.type_list_index zfz (pv 1) (zaa (pv 0) zac)))) zac)))
   (zaj (zbk (zat zhi (zaw (zde (K := K)) rfl T.m_len PySem.boot_len (zaa (pv 7) zac)) zae (zax _)) (zaj (zdj (zc5 (K := K) PySem.F.plainAttrs_list PySem.F.slot_list_append PySem.F.type_list_append zcy (pv 2) (zaa (zb7 (zaa (zc5 (K := K) PySem.F.plainAttrs_list PySem.F.slot_list_index PySem.F.type_list_index zfz (pv 1) (zaa (pv 3) zac)) (zaa (pv 4) (zaa (pv 5) (zaa (pv 7) zac))))) zac)))) za1))))
   (zaj (zar (zbd zb1 rfl T.m_tuple PyProof.Rows.boot_tuple (zaa (pv 2) zac)))))), ?_⟩
 refine ⟨small (by show 0 ≤ 1000; decide), fun lf hlf => ?_⟩
 have s1 := zag hlf (.lst [])
 have g1 : L2.upd H lf (.lst []) lf = some (.lst []) := zad
 generalize L2.upd H lf (.lst []) = H1 at s1 g1 ⊢
 refine ⟨_, rfl, tb, rfl, ⟨_, sqT (s1 _ _ htb)⟩, ?_⟩
 have okL : ∀ i, ∀ t ∈ ((L.take i).filterMap (mvB kept)).map Bg.tie, t.Ok kept.length := fun i t ht => by
  obtain ⟨b', hb', rfl⟩ := List.mem_map.mp ht
  obtain ⟨b, hb, e⟩ := List.mem_filterMap.mp hb'
  have hbL := List.mem_of_mem_take hb
  exact zkm pw (ok b hbL) (up b hbL) e
 refine zks (K := K) (a := tb) (xs := xs) (fun i σ H2 => ∃ (v3 v4 v5 v6 v7 : Option V) (ys : List V), σ = [some (.ref tb), some (.ref lk), some (.ref lf), v3, v4, v5, v6, v7] ∧ Same H H2 ∧ H2 lf = some (.lst ys) ∧ DnL H2 ((((L.take i).filterMap (mvB kept)).map Bg.tie).map Tie.toD) ys ∧ ys.length ≤ i) ⟨none, none, none, none, none, [], rfl, s1, g1, rfl, Nat.le_refl _⟩ (fun i σ H2 _ z => ?_) ?_ ?_
 ·obtain ⟨_, _, _, _, _, _, _, s2, _⟩ := z
  exact sqT (s2 _ _ htb)
 ·rintro i x σ H2 hx ⟨v3, v4, v5, v6, v7, ys, rfl, s2, g2, dy, yl⟩
  obtain ⟨d0, hd0, hd⟩ := dn.get hx
  rw [List.getElem?_map, List.getElem?_map] at hd0
  obtain ⟨t0, ht0, rfl⟩ := Option.map_eq_some_iff.mp hd0
  obtain ⟨b, hb, rfl⟩ := Option.map_eq_some_iff.mp ht0
  have hbL := List.mem_of_getElem? hb
  have okb := ok b hbL
  have hkl := okb.few
  obtain ⟨p, pk, rfl, hp, hpk⟩ := zdm hd
  have et : L.take (i + 1) = L.take i ++ [b] := by rw [List.take_add_one, hb, Option.toList_some]
  have il := (List.getElem?_eq_some_iff.mp hb).1
  have hlk2 : H2 lk = some (.lst (zak kept)) := s2 _ _ hlk
  have hpk2 := s2 _ _ hpk
  refine ⟨p, _, rfl, sqT (s2 _ _ hp), rfl, _, _, rfl, _, _, rfl, _, _, rfl, _, _, rfl, rfl, ?_⟩
  refine ⟨_, rfl, pk, rfl, ⟨_, sqT hpk2⟩, ?_⟩
  refine zfo (K := K) (a := pk) (xs := zak b.ks) (fun j zs σ H3 => (∃ v, σ = [v, some (.ref lk)]) ∧ H3 = H2 ∧ zs = zak (((b.ks.take j).filter fun k => decide (k ∈ kept)).map (mv kept))) ⟨⟨none, rfl⟩, rfl, rfl⟩ (fun j zs σ H3 hj pv => ?_) (fun j zs σ H3 hj pv => ?_) (fun j x zs σ H3 hx pv => ?_) (fun zs σ H3 pv l1 hl1 => ?_)
  ·obtain ⟨_, _, rfl⟩ := pv
   rw [List.length_map, List.length_map]
   refine small (Nat.le_trans (List.length_filter_le _ _) ?_)
   rw [List.length_take]
   omega
  ·rw [pv.2.1]
   exact sqT hpk2
  ·obtain ⟨⟨v, rfl⟩, rfl, rfl⟩ := pv
   rw [List.getElem?_map] at hx
   obtain ⟨k, hk, rfl⟩ := Option.map_eq_some_iff.mp hx
   have ek : (b.ks.take (j + 1)).filter (fun k => decide (k ∈ kept)) = (b.ks.take j).filter (fun k => decide (k ∈ kept)) ++ (if k ∈ kept then [k] else []) := by
    rw [List.take_add_one, hk, Option.toList_some, List.filter_append]
    by_cases z : k ∈ kept <;> simp [z]
   refine ⟨_, rfl, _, rfl, lk, _, rfl, .inl (SqL.of hlk2), rfl, zcc _, _, rfl, ?_⟩
   by_cases c : k ∈ kept
   ·refine zjq (show inV (.int (k : Int)) (zak kept) = true by rw [zcw, decide_eq_true c]) ?_
    obtain ⟨r1, r2⟩ := zd9 c
    refine ⟨_, rfl, .inl ⟨rfl, _, SqL.of hlk2⟩, _, rfl, lk, _, _, mv kept k, rfl, rfl, hlk2, rfl, zcc _, r1, r2, ⟨_, rfl⟩, rfl, ?_⟩
    rw [ek, if_pos c, List.map_append, zcx]
    rfl
   ·refine zgi (show inV (.int (k : Int)) (zak kept) = false by rw [zcw, decide_eq_false c]) ?_
    refine ⟨⟨_, rfl⟩, rfl, ?_⟩
    rw [ek, if_neg c, List.append_nil]
  obtain ⟨_, rfl, rfl⟩ := pv
  have lks : (zak b.ks).length = b.ks.length := List.length_map _
  rw [lks, List.take_length]
  have s4 := zag hl1 (.lst (zak ((b.ks.filter fun k => decide (k ∈ kept)).map (mv kept))))
  have g4 : L2.upd H3 l1 (.lst (zak ((b.ks.filter fun k => decide (k ∈ kept)).map (mv kept)))) l1 = some (.lst (zak ((b.ks.filter fun k => decide (k ∈ kept)).map (mv kept)))) := zad
  have dy4 := DnL.same s4 _ _ dy
  generalize L2.upd H3 l1 (.lst (zak ((b.ks.filter fun k => decide (k ∈ kept)).map (mv kept)))) = H4 at s4 g4 dy4 ⊢
  refine ⟨l1, _, rfl, .inl ⟨SqL.of g4, fun tk htk => ?_⟩⟩
  have s5' := zag htk (.tup (zak ((b.ks.filter fun k => decide (k ∈ kept)).map (mv kept))))
  have s5 := s4.trans s5'
  have g5 : L2.upd H4 tk (.tup (zak ((b.ks.filter fun k => decide (k ∈ kept)).map (mv kept)))) tk = some (.tup (zak ((b.ks.filter fun k => decide (k ∈ kept)).map (mv kept)))) := zad
  have dy5 := DnL.same s5' _ _ dy4
  generalize L2.upd H4 tk (.tup (zak ((b.ks.filter fun k => decide (k ∈ kept)).map (mv kept)))) = H5 at s5 g5 dy5 s5' ⊢
  have s25 := s2.trans s5
  have g5l : H5 lf = some (.lst ys) := s5 _ _ g2
  refine ⟨_, rfl, tk, _, rfl, .inr (sqT g5), _, _, rfl, rfl, _, rfl, ?_⟩
  have len : (zak ((b.ks.filter fun k => decide (k ∈ kept)).map (mv kept))).length = (b.ks.filter fun k => decide (k ∈ kept)).length := by rw [List.length_map, List.length_map]
  by_cases e : b.ks.filter (fun k => decide (k ∈ kept)) = []
  ·refine zgi (decide_eq_false (show ¬ (((zak ((b.ks.filter fun k => decide (k ∈ kept)).map (mv kept))).length : Nat) : Int) > 0 by rw [len, e]; decide)) ?_
   refine ⟨_, _, _, _, _, ys, rfl, s25, g5l, ?_, by omega⟩
   have : (L.take (i + 1)).filterMap (mvB kept) = (L.take i).filterMap (mvB kept) := by
    rw [et, List.filterMap_append]
    simp [mvB, e]
   rw [this]
   exact dy5
  ·have lp := List.length_pos_iff.mpr e
   refine zjq (decide_eq_true (show (((zak ((b.ks.filter fun k => decide (k ∈ kept)).map (mv kept))).length : Nat) : Int) > 0 by rw [len]; omega)) ?_
   obtain ⟨k, hk⟩ := List.exists_mem_of_ne_nil _ e
   have hk' := List.mem_filter.mp hk
   have hu := up b hbL ⟨k, hk'.1, of_decide_eq_true hk'.2⟩
   obtain ⟨r1, r2⟩ := zd9 hu
   have hlk5 : H5 lk = some (.lst (zak kept)) := s5 _ _ hlk2
   refine ⟨_, rfl, .inl ⟨rfl, _, SqL.of g5l⟩, _, rfl, .inl ⟨rfl, _, SqL.of hlk5⟩, _, rfl, lk, _, _, mv kept b.u, rfl, rfl, hlk5, rfl, zcc _, r1, r2, _, rfl, _, rfl, _, rfl, small (by show 4 ≤ 1000; decide), fun tn htn => ?_⟩
   have s6' := zag htn (.tup [.int ((mv kept b.u : Nat) : Int), .int b.lo, .int b.hi, .ref tk])
   have s6 := s25.trans s6'
   have g6 : L2.upd H5 tn (.tup [.int ((mv kept b.u : Nat) : Int), .int b.lo, .int b.hi, .ref tk]) tn = some (.tup [.int ((mv kept b.u : Nat) : Int), .int b.lo, .int b.hi, .ref tk]) := zad
   have g6l := s6' _ _ g5l
   have g6k := s6' _ _ g5
   have dy6 := DnL.same s6' _ _ dy5
   generalize L2.upd H5 tn (.tup [.int ((mv kept b.u : Nat) : Int), .int b.lo, .int b.hi, .ref tk]) = H6 at s6 g6 g6l g6k dy6 s6' ⊢
   refine ⟨lf, _, _, rfl, rfl, g6l, zcg (by omega), ?_⟩
   have em : mvB kept b = some ⟨mv kept b.u, b.lo, b.hi, (b.ks.filter fun k => decide (k ∈ kept)).map (mv kept)⟩ := by
    unfold mvB
    rw [if_neg e]
   have ee : (L.take (i + 1)).filterMap (mvB kept) = (L.take i).filterMap (mvB kept) ++ [⟨mv kept b.u, b.lo, b.hi, (b.ks.filter fun k => decide (k ∈ kept)).map (mv kept)⟩] := by
    rw [et, List.filterMap_append, List.filterMap_cons, em]
    rfl
   have okn := zkm pw okb (up b hbL) em
   refine ⟨_, _, _, _, _, ys ++ [.ref tn], rfl, Same.put s6 hlf g6l, zad, ?_, by rw [List.length_append, List.length_singleton]; omega⟩
   rw [ee, List.map_append, List.map_append]
   refine (DnL.pen g6l (zhh (okL i) (by omega)) dy6).append ⟨_, [], rfl, Dn.pen g6l (zil (Nat.le_trans okn.few (by omega))) ⟨tn, _, rfl, g6, _, _, rfl, rfl, _, _, rfl, rfl, _, _, rfl, rfl, _, _, rfl, ⟨tk, _, rfl, g6k, zfd _⟩, rfl⟩, rfl⟩
 ·rintro σ H2 ⟨v3, v4, v5, v6, v7, ys, rfl, s2, g2, dy, yl⟩
  rw [lx, List.take_length] at dy
  refine ⟨_, rfl, lf, _, rfl, .inl ⟨SqL.of g2, fun t ht => ?_⟩⟩
  have s3 := zag ht (.tup ys)
  exact q t _ (s2.trans s3) ⟨ys, zad, DnL.same s3 _ _ dy⟩
end
section
variable {P : Program} {w : World} {K : PySem.W.Frag} {mg : Str → Option Value} {base : Heap} {a : Adr} {d : Fds}
theorem zjk (T : Txt K mg a d) : zbi P w K mg base CX0 1 a.f_cross_left d.f_cross_left ["cross", "kept"] zma := by
 refine T.K_cross_left.ok sc_cross_left (fun vs H Q E h => ?_) (fun cdv A outer s H vs Q E hr h => ?_)
 ·obtain ⟨tc, lk, C, kept, m, rfl, _⟩ := h
  rfl
 obtain ⟨tc, lk, C, kept, m, rfl, ⟨xs, htc, dn⟩, hlk, pw, kl, Cl, m9, ok, nb, q⟩ := h
 have lx : xs.length = C.length := by
  have := dn.length
  rw [List.length_map] at this
  exact this.symm
 refine ⟨_, (zaf (zau (i := 2) sc_cross_left.nd rfl (Or.inl rfl) (zc4 zac))
   (zaf (ze4 PassesOwn.never rfl (piT (K := K) (pv 0)) (zaz (i := 3) sc_cross_left.nd rfl (Or.inl rfl)) (zaj (zbk (zat zb6 (zao (ixT (K := K)) (pv 3) zae (fun _ _ => rfl)) zcs (zax _)) (zaf (zau (i := 4) sc_cross_left.nd rfl (Or.inl rfl) (zbd zb1 rfl T.m_tuple PyProof.Rows.boot_tuple (zaa (zdt (sc0 := zab zbx) (XN := ["cross", "kept", "left", "tie", "pairs"]) (N' := ["k", "number", "kept"]) (n := 2) (kp := [1]) rfl (piT (K := K) (zao (ixT (K := K)) (pv 3) zae (fun _ _ => rfl))) rfl rfl (by decide +kernel) (fun _ _ _ _ _ => (pgT (K := K) (n := 2) rfl (zb8 (zaz (i := 0) (by show List.Nodup (["k", "number", "kept"] : List Str); decide +kernel) rfl (Or.inl rfl)) (zb8 (zaz (i := 1) (by show List.Nodup (["k", "number", "kept"] : List Str); decide +kernel) rfl (Or.inl rfl)) zf7)))) (fun _ _ _ _ _ => (zcf (zat (inS (K := K)) (pv 0) (pv 2) (by with_unfolding_all rfl)))) (fun _ _ _ _ _ => (zb7 (zaa (zc5 (K := K) PySem.F.plainAttrs_list PySem.F.slot_list_index PySem.F.type_list_index zfz (pv 2) (zaa (pv 0) zac)) (zaa (pv 1) zac))))) zac)))
   (zaj (zbk (zat zhi (zaw (zde (K := K)) rfl T.m_len PySem.boot_len (zaa (pv 4) zac)) zae (zax _)) (zaj (zdj (zc5 (K := K) PySem.F.plainAttrs_list PySem.F.slot_list_append PySem.F.type_list_append zcy (pv 2) (zaa (zb7 (zaa zcs (zaa (zao (ixT (K := K)) (pv 3) zae (fun _ _ => rfl)) (zaa (pv 4) zac)))) zac)))) za1))) (zaj (zbk (PW.pt (zlp (zat (inS (K := K)) (zao (ixT (K := K)) (pv 3) zae (fun _ _ => rfl)) (pv 1) (by with_unfolding_all rfl)) (zhz (zat (inS (K := K)) (zao (ixT (K := K)) (pv 3) zae (fun _ _ => rfl)) (pv 1) (by with_unfolding_all rfl))))) (zaj (zdj (zc5 (K := K) PySem.F.plainAttrs_list PySem.F.slot_list_append PySem.F.type_list_append zcy (pv 2) (zaa (zb7 (zaa (zao (ixT (K := K)) (pv 3) zae (fun _ _ => rfl)) (zaa (zc5 (K := K) PySem.F.plainAttrs_list PySem.F.slot_list_index PySem.F.type_list_index zfz (pv 1) (zaa (zao (ixT (K := K)) (pv 3) zae (fun _ _ => rfl)) zac)) (zaa (zc5 (K := K) PySem.F.plainAttrs_list PySem.F.slot_list_index PySem.F.type_list_index zfz (pv 1) (zaa (zao (ixT (K := K)) (pv 3) zae (fun _ _ => rfl)) zac)) zac)))) zac)))) za1)))))
   (zaj (zar (zbd zb1 rfl T.m_tuple PyProof.Rows.boot_tuple (zaa (pv 2) zac)))))), ?_⟩
 refine ⟨small (by show 0 ≤ 1000; decide), fun lf hlf => ?_⟩
 have s1 := zag hlf (.lst [])
 have g1 : L2.upd H lf (.lst []) lf = some (.lst []) := zad
 generalize L2.upd H lf (.lst []) = H1 at s1 g1 ⊢
 refine ⟨_, rfl, tc, rfl, ⟨_, sqT (s1 _ _ htc)⟩, ?_⟩
 have okC : ∀ i, ∀ t ∈ (C.take i).filterMap (mvT kept), t.Ok kept.length := fun i t ht => by
  obtain ⟨c, hc, e⟩ := List.mem_filterMap.mp ht
  have hcC := List.mem_of_mem_take hc
  exact zk3 pw (ok c hcC) (nb c hcC) e
 refine zks (K := K) (a := tc) (xs := xs) (fun i σ H2 => ∃ (v3 v4 : Option V) (ys : List V), σ = [some (.ref tc), some (.ref lk), some (.ref lf), v3, v4] ∧ Same H H2 ∧ H2 lf = some (.lst ys) ∧ DnL H2 (((C.take i).filterMap (mvT kept)).map Tie.toD) ys ∧ ys.length ≤ i) ⟨none, none, [], rfl, s1, g1, rfl, Nat.le_refl _⟩ (fun i σ H2 _ z => ?_) ?_ ?_
 ·obtain ⟨_, _, _, _, s2, _⟩ := z
  exact sqT (s2 _ _ htc)
 ·rintro i x σ H2 hx ⟨v3, v4, ys, rfl, s2, g2, dy, yl⟩
  obtain ⟨c, hc, hd⟩ := zik dn hx
  have hcC := List.mem_of_getElem? hc
  have okc := ok c hcC
  have nbc := nb c hcC
  have et : C.take (i + 1) = C.take i ++ [c] := by rw [List.take_add_one, hc, Option.toList_some]
  have il := (List.getElem?_eq_some_iff.mp hc).1
  have hlk2 : H2 lk = some (.lst (zak kept)) := s2 _ _ hlk
  have skip : ∀ (v4 : Option V) (H5 : Hp), Same H2 H5 → mvT kept c = none → ∃ (v3 v4' : Option V) (ys : List V), [some (.ref tc), some (.ref lk), some (.ref lf), some x, v4] = [some (.ref tc), some (.ref lk), some (.ref lf), v3, v4'] ∧ Same H H5 ∧ H5 lf = some (.lst ys) ∧ DnL H5 (((C.take (i + 1)).filterMap (mvT kept)).map Tie.toD) ys ∧ ys.length ≤ i + 1 := fun v4 H5 s5 e => ⟨_, _, ys, rfl, s2.trans s5, s5 _ _ g2, by
   have : (C.take (i + 1)).filterMap (mvT kept) = (C.take i).filterMap (mvT kept) := by
    rw [et, List.filterMap_append, List.filterMap_cons, e]
    simp
   rw [this]
   exact DnL.same s5 _ _ dy, by omega⟩
  have put : ∀ (v4 : Option V) (H6 : Hp) (c' : Tie) (v : V), Same H2 H6 → mvT kept c = some c' → Dn H6 c'.toD v → ∃ (v3 v4' : Option V) (ys' : List V), [some (.ref tc), some (.ref lk), some (.ref lf), some x, v4] = [some (.ref tc), some (.ref lk), some (.ref lf), v3, v4'] ∧ Same H (L2.upd H6 lf (.lst (ys ++ [v]))) ∧ (L2.upd H6 lf (.lst (ys ++ [v]))) lf = some (.lst ys') ∧ DnL (L2.upd H6 lf (.lst (ys ++ [v]))) (((C.take (i + 1)).filterMap (mvT kept)).map Tie.toD) ys' ∧ ys'.length ≤ i + 1 := fun v4 H6 c' v s6 e dv => by
   have g6 : H6 lf = some (.lst ys) := s6 _ _ g2
   refine ⟨_, _, ys ++ [v], rfl, Same.put (s2.trans s6) hlf g6, zad, ?_, by rw [List.length_append, List.length_singleton]; omega⟩
   have : (C.take (i + 1)).filterMap (mvT kept) = (C.take i).filterMap (mvT kept) ++ [c'] := by
    rw [et, List.filterMap_append, List.filterMap_cons, e]
    rfl
   rw [this, List.map_append]
   have okc' := zk3 pw okc nbc e
   exact (DnL.pen g6 (zhh (okC i) (by omega)) (DnL.same s6 _ _ dy)).append ⟨v, [], rfl, Dn.pen g6 (zm7 okc' (by omega)) dv, rfl⟩
  cases c with
  | bough u lo hi ks => exact absurd rfl (nbc u lo hi ks)
  | most top ps =>
   obtain ⟨p, pk, zs, rfl, hp, hpk, dz⟩ := zr1 hd
   have lz := dz.length
   rw [List.length_map] at lz
   have pl := okc.2.2.2
   have hp2 := s2 _ _ hp
   have hpk2 := s2 _ _ hpk
   refine ⟨_, rfl, p, _, _, _, rfl, rfl, sqT hp2, at0, rfl, _, rfl, ?_⟩
   refine zep rfl ?_
   refine ⟨_, rfl, p, _, _, _, rfl, rfl, sqT hp2, at2, pk, rfl, ⟨_, sqT hpk2⟩, ?_⟩
   refine zfo (K := K) (a := pk) (xs := zs) (fun j rs σ H3 => (∃ v v', σ = [v, v', some (.ref lk)]) ∧ Same H2 H3 ∧ DnL H3 ((((ps.take j).filter fun p => decide (p.1 ∈ kept)).map fun p => (mv kept p.1, p.2)).map zhq) rs ∧ rs.length ≤ j) ⟨⟨none, none, rfl⟩, Same.refl _, rfl, Nat.le_refl _⟩ (fun j rs σ H3 hj pv => ?_) (fun j rs σ H3 hj pv => ?_) (fun j x rs σ H3 hx pv => ?_) (fun rs σ H3 pv l1 hl1 => ?_)
   ·exact small (by have := pv.2.2.2; omega)
   ·exact sqT (pv.2.1 _ _ hpk2)
   ·obtain ⟨⟨v, v', rfl⟩, s3, dr, rl⟩ := pv
    obtain ⟨pp, r, hpp, rfl, hr2⟩ := zk7 (DnL.same (s2.trans s3) _ _ dz) hx
    have ek : (ps.take (j + 1)).filter (fun p => decide (p.1 ∈ kept)) = (ps.take j).filter (fun p => decide (p.1 ∈ kept)) ++ (if pp.1 ∈ kept then [pp] else []) := by
     rw [List.take_add_one, hpp, Option.toList_some, List.filter_append]
     by_cases z : pp.1 ∈ kept <;> simp [z]
    have hlk3 : H3 lk = some (.lst (zak kept)) := s3 _ _ hlk2
    refine ⟨r, _, rfl, sqT hr2, rfl, _, _, rfl, _, _, rfl, rfl, ?_⟩
    refine ⟨_, rfl, _, rfl, lk, _, rfl, .inl (SqL.of hlk3), rfl, zcc _, _, rfl, ?_⟩
    by_cases c : pp.1 ∈ kept
    ·refine zjq (show inV (.int (pp.1 : Int)) (zak kept) = true by rw [zcw, decide_eq_true c]) ?_
     obtain ⟨r1, r2⟩ := zd9 c
     refine ⟨_, rfl, .inl ⟨rfl, _, SqL.of hlk3⟩, _, rfl, lk, _, _, mv kept pp.1, rfl, rfl, hlk3, rfl, zcc _, r1, r2, _, rfl, small (by show 2 ≤ 1000; decide), fun tn htn => ?_⟩
     have s4 := zag htn (.tup [.int ((mv kept pp.1 : Nat) : Int), .int pp.2])
     refine ⟨⟨_, _, rfl⟩, s3.trans s4, ?_, by rw [List.length_append, List.length_singleton]; omega⟩
     rw [ek, if_pos c, List.map_append, List.map_append]
     exact (DnL.same s4 _ _ dr).append ⟨_, [], rfl, ⟨tn, _, rfl, zad, _, _, rfl, rfl, _, _, rfl, rfl, rfl⟩, rfl⟩
    ·refine zgi (show inV (.int (pp.1 : Int)) (zak kept) = false by rw [zcw, decide_eq_false c]) ?_
     refine ⟨⟨_, _, rfl⟩, s3, ?_, by omega⟩
     rw [ek, if_neg c, List.append_nil]
     exact dr
   obtain ⟨_, s3, dr, rl⟩ := pv
   rw [← lz, List.take_length] at dr
   have lr := dr.length
   rw [List.length_map, List.length_map] at lr
   have s4' := zag hl1 (.lst rs)
   have s4 := s3.trans s4'
   have g4 : L2.upd H3 l1 (.lst rs) l1 = some (.lst rs) := zad
   have dr4 := DnL.same s4' _ _ dr
   generalize L2.upd H3 l1 (.lst rs) = H4 at s4 g4 dr4 s4' ⊢
   refine ⟨l1, _, rfl, .inl ⟨SqL.of g4, fun tk htk => ?_⟩⟩
   have s5' := zag htk (.tup rs)
   have s5 := s4.trans s5'
   have g5 : L2.upd H4 tk (.tup rs) tk = some (.tup rs) := zad
   have dr5 := DnL.same s5' _ _ dr4
   generalize L2.upd H4 tk (.tup rs) = H5 at s5 g5 dr5 s5' ⊢
   refine ⟨_, rfl, tk, _, rfl, .inr (sqT g5), _, _, rfl, rfl, _, rfl, ?_⟩
   by_cases e : ps.filter (fun p => decide (p.1 ∈ kept)) = []
   ·refine zgi (decide_eq_false (show ¬ ((rs.length : Nat) : Int) > 0 by rw [← lr, e]; decide)) ?_
    exact skip _ H5 s5 (by simp only [mvT]; rw [if_pos e])
   ·have lp := List.length_pos_iff.mpr e
    refine zjq (decide_eq_true (show ((rs.length : Nat) : Int) > 0 by omega)) ?_
    refine ⟨_, rfl, .inl ⟨rfl, _, SqL.of (s5 _ _ g2)⟩, _, rfl, p, _, _, _, rfl, rfl, sqT (s5 _ _ hp2), at1, _, rfl, small (by show 3 ≤ 1000; decide), fun tn htn => ?_⟩
    have s6' := zag htn (.tup [.str ("most" : Str), .int top, .ref tk])
    have s6 := s5.trans s6'
    refine ⟨lf, _, _, rfl, rfl, s6 _ _ g2, zcg (by omega), ?_⟩
    exact put _ _ (.most top ((ps.filter (fun p => decide (p.1 ∈ kept))).map fun p => (mv kept p.1, p.2))) (.ref tn) s6 (by simp only [mvT]; rw [if_neg e]) ⟨tn, _, rfl, zad, _, _, rfl, rfl, _, _, rfl, rfl, _, _, rfl, ⟨tk, _, rfl, s6' _ _ g5, DnL.same s6' _ _ dr5⟩, rfl⟩
  | needs aa bb =>
   obtain ⟨p, rfl, hp⟩ := zr3 hd
   have hp2 := s2 _ _ hp
   refine ⟨_, rfl, p, _, _, _, rfl, rfl, sqT hp2, at0, rfl, _, rfl, ?_⟩
   refine zcm (by decide +kernel) ?_
   refine ⟨_, rfl, p, _, _, _, rfl, rfl, sqT hp2, at1, _, rfl, lk, _, rfl, .inl (SqL.of hlk2), rfl, zcc _, _, rfl, ?_⟩
   by_cases ca : aa ∈ kept
   ·refine zjq (show inV (.int (aa : Int)) (zak kept) = true by rw [zcw, decide_eq_true ca]) ?_
    refine ⟨_, rfl, p, _, _, _, rfl, rfl, sqT hp2, at2, _, rfl, lk, _, rfl, .inl (SqL.of hlk2), rfl, zcc _, _, rfl, ?_⟩
    by_cases cb : bb ∈ kept
    ·refine zjq (show inV (.int (bb : Int)) (zak kept) = true by rw [zcw, decide_eq_true cb]) ?_
     obtain ⟨r1, r2⟩ := zd9 ca
     obtain ⟨r3, r4⟩ := zd9 cb
     refine ⟨_, rfl, .inl ⟨rfl, _, SqL.of g2⟩, _, rfl, p, _, _, _, rfl, rfl, sqT hp2, at0, _, rfl, .inl ⟨rfl, _, SqL.of hlk2⟩, _, rfl, p, _, _, _, rfl, rfl, sqT hp2, at1, lk, _, _, mv kept aa, rfl, rfl, hlk2, rfl, zcc _, r1, r2, _, rfl, .inl ⟨rfl, _, SqL.of hlk2⟩, _, rfl, p, _, _, _, rfl, rfl, sqT hp2, at2, lk, _, _, mv kept bb, rfl, rfl, hlk2, rfl, zcc _, r3, r4, small (by show 3 ≤ 1000; decide), fun tn htn => ?_⟩
     have s6 := zag htn (.tup [.str ("needs" : Str), .int ((mv kept aa : Nat) : Int), .int ((mv kept bb : Nat) : Int)])
     refine ⟨lf, _, _, rfl, rfl, s6 _ _ g2, zcg (by omega), ?_⟩
     exact put _ _ (.needs (mv kept aa) (mv kept bb)) (.ref tn) s6 (by simp only [mvT]; rw [if_pos ⟨ca, cb⟩]) ⟨tn, _, rfl, zad, _, _, rfl, rfl, _, _, rfl, rfl, _, _, rfl, rfl, rfl⟩
    ·refine zgi (show inV (.int (bb : Int)) (zak kept) = false by rw [zcw, decide_eq_false cb]) ?_
     exact skip _ H2 (Same.refl _) (by simp only [mvT]; rw [if_neg fun z => cb z.2])
   ·refine zgi (show inV (.int (aa : Int)) (zak kept) = false by rw [zcw, decide_eq_false ca]) ?_
    refine zf8 ?_
    exact skip _ H2 (Same.refl _) (by simp only [mvT]; rw [if_neg fun z => ca z.1])
  | bans aa bb =>
   obtain ⟨p, rfl, hp⟩ := zr3 hd
   have hp2 := s2 _ _ hp
   refine ⟨_, rfl, p, _, _, _, rfl, rfl, sqT hp2, at0, rfl, _, rfl, ?_⟩
   refine zcm (by decide +kernel) ?_
   refine ⟨_, rfl, p, _, _, _, rfl, rfl, sqT hp2, at1, _, rfl, lk, _, rfl, .inl (SqL.of hlk2), rfl, zcc _, _, rfl, ?_⟩
   by_cases ca : aa ∈ kept
   ·refine zjq (show inV (.int (aa : Int)) (zak kept) = true by rw [zcw, decide_eq_true ca]) ?_
    refine ⟨_, rfl, p, _, _, _, rfl, rfl, sqT hp2, at2, _, rfl, lk, _, rfl, .inl (SqL.of hlk2), rfl, zcc _, _, rfl, ?_⟩
    by_cases cb : bb ∈ kept
    ·refine zjq (show inV (.int (bb : Int)) (zak kept) = true by rw [zcw, decide_eq_true cb]) ?_
     obtain ⟨r1, r2⟩ := zd9 ca
     obtain ⟨r3, r4⟩ := zd9 cb
     refine ⟨_, rfl, .inl ⟨rfl, _, SqL.of g2⟩, _, rfl, p, _, _, _, rfl, rfl, sqT hp2, at0, _, rfl, .inl ⟨rfl, _, SqL.of hlk2⟩, _, rfl, p, _, _, _, rfl, rfl, sqT hp2, at1, lk, _, _, mv kept aa, rfl, rfl, hlk2, rfl, zcc _, r1, r2, _, rfl, .inl ⟨rfl, _, SqL.of hlk2⟩, _, rfl, p, _, _, _, rfl, rfl, sqT hp2, at2, lk, _, _, mv kept bb, rfl, rfl, hlk2, rfl, zcc _, r3, r4, small (by show 3 ≤ 1000; decide), fun tn htn => ?_⟩
     have s6 := zag htn (.tup [.str ("bans" : Str), .int ((mv kept aa : Nat) : Int), .int ((mv kept bb : Nat) : Int)])
     refine ⟨lf, _, _, rfl, rfl, s6 _ _ g2, zcg (by omega), ?_⟩
     exact put _ _ (.bans (mv kept aa) (mv kept bb)) (.ref tn) s6 (by simp only [mvT]; rw [if_pos ⟨ca, cb⟩]) ⟨tn, _, rfl, zad, _, _, rfl, rfl, _, _, rfl, rfl, _, _, rfl, rfl, rfl⟩
    ·refine zgi (show inV (.int (bb : Int)) (zak kept) = false by rw [zcw, decide_eq_false cb]) ?_
     exact skip _ H2 (Same.refl _) (by simp only [mvT]; rw [if_neg fun z => cb z.2])
   ·refine zgi (show inV (.int (aa : Int)) (zak kept) = false by rw [zcw, decide_eq_false ca]) ?_
    refine zf8 ?_
    exact skip _ H2 (Same.refl _) (by simp only [mvT]; rw [if_neg fun z => ca z.1])
 ·rintro σ H2 ⟨v3, v4, ys, rfl, s2, g2, dy, yl⟩
  rw [lx, List.take_length] at dy
  refine ⟨_, rfl, lf, _, rfl, .inl ⟨SqL.of g2, fun t ht => ?_⟩⟩
  have s3 := zag ht (.tup ys)
  exact q t _ (s2.trans s3) ⟨ys, zad, DnL.same s3 _ _ dy⟩
end
section
variable {P : Program} {w : World} {K : PySem.W.Frag} {mg : Str → Option Value} {base : Heap} {a : Adr} {d : Fds}
theorem zer (T : Txt K mg a d) : zbi P w K mg base CX0 1 a.f_without_place d.f_without_place ["cross", "place"] zo6 := by
 refine T.K_without_place.ok zg9 (fun vs H Q E h => ?_) (fun cdv A outer s H vs Q E hr h => ?_)
 ·obtain ⟨tc, C, p, rfl, _⟩ := h
  rfl
 obtain ⟨tc, C, p, rfl, ⟨xs, htc, dn⟩, pC, few, q⟩ := h
 have lx : xs.length = C.length := by
  have := dn.length
  rw [List.length_map] at this
  exact this.symm
 refine ⟨_, (zaj (zar (za7 zp6 (zm3 zn1 (pv 0) zoq (zoa (pv 1))) (zm3 zn1 (pv 0) (zoa (za7 zc9 (pv 1) zae)) zoq)))), ?_⟩
 refine ⟨_, rfl, _, rfl, _, rfl, tc, xs, rfl, htc, fun t1 H1 s1 h1 => ?_⟩
 refine ⟨_, rfl, _, rfl, _, _, rfl, rfl, _, rfl, tc, xs, rfl, s1 _ _ htc, fun t2 H2 s2 h2 => ?_⟩
 rw [zp9 xs p (by omega)] at h1
 have e1 : ((p : Int) + 1) = ((p + 1 : Nat) : Int) := by omega
 have h2' : H2 t2 = some (.tup (xs.drop (p + 1))) := by
  rw [← zq9 xs (p + 1) (by omega)]
  rw [show (((p + 1 : Nat) : Nat) : Int) = (p : Int) + 1 by omega]
  exact h2
 refine ⟨t1, t2, _, _, rfl, rfl, s2 _ _ h1, h2', small (by rw [List.length_take, List.length_drop]; omega), fun c H3 s3 h3 => ?_⟩
 have s13 := (s1.trans s2).trans s3
 refine q c H3 s13 ⟨_, h3, ?_⟩
 rw [List.eraseIdx_eq_take_drop_succ, List.map_append, List.map_take, List.map_drop]
 have d3 := DnL.same s13 _ _ dn
 exact (DnL.take p d3).append (DnL.drop (p + 1) d3)
end
section
variable {P : Program} {w : World} {K : PySem.W.Frag} {mg : Str → Option Value} {base : Heap} {a : Adr} {d : Fds}
theorem zee (T : Txt K mg a d) (LB : zgj mg base a.c_cases_of a.t_cases_of) : zbi P w K mg base CX0 22 a.f_first_breaking d.f_first_breaking ["many", "boughs", "cross", "place"] (spT a.t_cases_of zng) := by
 have G_wares := zh7 (P := P) (w := w) (base := base) T LB
 have G_keeps := zh4 (P := P) (w := w) (base := base) T
 have G_without_place := zer (P := P) (w := w) (base := base) T
 refine T.K_first_breaking.ok sc_first_breaking (fun vs H Q E h => ?_) (fun cdv A outer s H vs Q E hr h => ?_)
 ·obtain ⟨_, tb, tc, m, p, B, C, rfl, _⟩ := h
  rfl
 obtain ⟨ta, tb, tc, m, p, B, C, rfl, hB, hC, pC, m1, m9, okB, okC, Bl, Cl, q⟩ := h
 refine ⟨_, (zaf (ze4 PassesOwn.never rfl (piL (K := K) (zah G_wares hr.lv rfl T.g_wares T.K_wares.kp T.B_wares .nil zan (zaa (zb7 (zaa (pv 0) (zaa (pv 1) (zaa (zah G_without_place hr.lv rfl T.g_without_place T.K_without_place.kp T.B_without_place .nil zan (zaa (pv 2) (zaa (pv 3) zac))) zac)))) zac))) (zaz (i := 4) sc_first_breaking.nd rfl (Or.inl rfl)) (zaj (zbk (zfl (zcv (zah G_keeps hr.lv rfl T.g_keeps T.K_keeps.kp T.B_keeps .nil zan (zaa (zao (ixT (K := K)) (pv 2) (pv 3) (fun _ _ => rfl)) (zaa (pv 4) zac))))) (zaj (zar (pv 4))) za1)))
   (zaj (zar zdo))), ?_⟩
 refine ⟨_, rfl, _, rfl, _, rfl, _, rfl, tc, C, p, rfl, hC, pC, by omega, fun te H1 s1 hE => ?_⟩
 refine ⟨small (by show 3 ≤ 1000; decide), fun wd hwd => ?_⟩
 have s2 := s1.trans (zag hwd (.tup [.int (m : Int), .ref tb, .ref te]))
 have g2 : L2.upd H1 wd (.tup [.int (m : Int), .ref tb, .ref te]) wd = some (.tup [.int (m : Int), .ref tb, .ref te]) := zad
 have hE2 := hE.same (zag hwd (.tup [.int (m : Int), .ref tb, .ref te]))
 generalize L2.upd H1 wd (.tup [.int (m : Int), .ref tb, .ref te]) = H2 at s2 g2 hE2 ⊢
 have okE : ∀ t ∈ C.eraseIdx p, t.Ok m := fun t ht => okC t (List.mem_of_mem_eraseIdx ht)
 have El : (C.eraseIdx p).length ≤ 20 := Nat.le_trans (List.length_eraseIdx_le _ _) Cl
 have W := ze7 g2 (hB.same s2) hE2 (fun t ht => (List.mem_append.mp ht).elim (okB t) (okE t)) (by rw [List.length_append]; omega) (by omega)
 refine ⟨s2.tab ta, wd, m, B ++ C.eraseIdx p, rfl, W, m1, m9, fun ls H3 s3 nls hls => ?_⟩
 have s03 := s2.trans s3
 refine ⟨ls, rfl, ⟨_, SqL.of hls⟩, ?_⟩
 have hcp : C[p]? = some C[p] := List.getElem?_eq_getElem pC
 refine zi3 (K := K) (a := ls) (xs := zak (za3 m (B ++ C.eraseIdx p))) (fun i σ H4 => (∃ v4 : Option V, σ = [some (.int (m : Int)), some (.ref tb), some (.ref tc), some (.int (p : Int)), v4]) ∧ Same H3 H4 ∧ ∀ w ∈ (za3 m (B ++ C.eraseIdx p)).take i, C[p].keep w = true) ⟨⟨none, rfl⟩, Same.refl _, fun _ z => nomatch z⟩ (fun i σ H4 _ z => SqL.of (z.2.1 _ _ hls)) ?_ ?_
 ·rintro i x σ H4 hx ⟨⟨v4, rfl⟩, s4, all⟩
  rw [List.getElem?_map] at hx
  obtain ⟨wa, hwa, rfl⟩ := Option.map_eq_some_iff.mp hx
  obtain ⟨xs, hxs, dC⟩ := hC.same (s03.trans s4)
  obtain ⟨v, hv, dv⟩ := DnL.get' (i := p) (d := C[p].toD) dC (by rw [List.getElem?_map, hcp]; rfl)
  refine ⟨_, rfl, _, rfl, tc, _, _, v, rfl, rfl, sqT hxs, zc8 hv, _, rfl, C[p], m, wa, v, rfl, dv, okC _ (List.getElem_mem pC), by omega, fun H5 s5 => ?_⟩
  refine ⟨_, rfl, ?_⟩
  cases hk : C[p].keep wa
  ·refine zo0 ?_
   refine ⟨_, rfl, ?_⟩
   have e : zcr m B C p = some wa := by
    unfold zcr
    rw [hcp, List.find?_eq_some_iff_getElem]
    obtain ⟨il, ei⟩ := List.getElem?_eq_some_iff.mp hwa
    refine ⟨by simp [hk], i, il, ei, fun j hj => ?_⟩
    have := all (za3 m (B ++ C.eraseIdx p))[j] (List.mem_take_iff_getElem.mpr ⟨j, by omega, rfl⟩)
    simp [this]
   have q' := q H5 (s03.trans (s4.trans s5))
   rw [e] at q'
   exact q'
  ·refine zf8 ?_
   refine ⟨⟨_, rfl⟩, s4.trans s5, fun w' hw' => ?_⟩
   rw [List.take_add_one, hwa, Option.toList_some] at hw'
   rcases List.mem_append.mp hw' with z | z
   ·exact all w' z
   ·rw [List.mem_singleton.mp z]; exact hk
 ·rintro σ H4 ⟨⟨v4, rfl⟩, s4, all⟩
  rw [List.length_map, List.take_length] at all
  have e : zcr m B C p = none := by
   unfold zcr
   rw [hcp, List.find?_eq_none]
   intro w' hw'
   simp [all w' hw']
  have q' := q H4 (s03.trans s4)
  rw [e] at q'
  exact q'
end
section
variable {P : Program} {w : World} {K : PySem.W.Frag} {mg : Str → Option Value} {base : Heap} {a : Adr} {d : Fds}
theorem zga (T : Txt K mg a d) (LB : zgj mg base a.c_cases_of a.t_cases_of) : zbi P w K mg base CX0 23 a.f_without_needless d.f_without_needless ["many", "boughs", "cross"] (spT a.t_cases_of znj) := by
 have G_first_breaking := zee (P := P) (w := w) (base := base) T LB
 have G_without_place := zer (P := P) (w := w) (base := base) T
 refine T.K_without_needless.ok sc_without_needless (fun vs H Q E h => ?_) (fun cdv A outer s H vs Q E hr h => ?_)
 ·obtain ⟨_, tb, tc, m, B, C, rfl, _⟩ := h
  rfl
 obtain ⟨ta, tb, tc, m, B, C, rfl, hB, hC, m1, m9, okB, okC, Bl, Cl, q⟩ := h
 refine ⟨_, (zaf (zau (i := 3) sc_without_needless.nd rfl (Or.inl rfl) (pv 2))
   (zaf (zau (i := 4) sc_without_needless.nd rfl (Or.inl rfl) zae)
   (zaf (zqc PassesOwn.never (zat zon (pv 4) (zaw (zde (K := K)) rfl T.m_len PySem.boot_len (zaa (pv 3) zac)) (zax _)) (zaj (zbk (zat zrv (zah G_first_breaking hr.lv rfl T.g_first_breaking T.K_first_breaking.kp T.B_first_breaking .nil zan (zaa (pv 0) (zaa (pv 1) (zaa (pv 3) (zaa (pv 4) zac))))) zdo (zax _)) (zaj (zau (i := 3) sc_without_needless.nd rfl (Or.inl rfl) (zah G_without_place hr.lv rfl T.g_without_place T.K_without_place.kp T.B_without_place .nil zan (zaa (pv 3) (zaa (pv 4) zac))))) (zaj (zau (i := 4) sc_without_needless.nd rfl (Or.inl rfl) (za7 zc9 (pv 4) zae))))))
   (zaj (zar (pv 3)))))), ?_⟩
 refine ⟨_, rfl, ?_⟩
 refine zq7 (fun σ H2 => ∃ (tl : Addr) (D : List Tie) (p f : Nat), σ = [some (.int (m : Int)), some (.ref tb), some (.ref tc), some (.ref tl), some (.int (p : Int))] ∧ Same H H2 ∧ TiesAt H2 tl D ∧ (∀ t ∈ D, t.Ok m) ∧ D.length = p + f ∧ D.length ≤ 20 ∧ zbn m B f D p = zbn m B C.length C 0) (fun σ H2 => match σ with | [_, _, _, some (.ref tl), some (.int p)] => (match H2 tl with | some (.tup xs) => xs.length - p.toNat | _ => 0) | _ => 0) ⟨tc, C, 0, C.length, rfl, Same.refl _, hC, okC, by omega, Cl, rfl⟩ ?_ ?_
 ·rintro σ H2 ⟨tl, D, p, f, rfl, s2, ⟨xs, htl, dn⟩, okD, eD, Dl, eN⟩
  have lx : xs.length = D.length := by
   have := dn.length
   rw [List.length_map] at this
   exact this.symm
  refine ⟨_, rfl, _, rfl, tl, _, rfl, .inr (sqT htl), _, _, rfl, rfl, _, rfl, ?_⟩
  by_cases c : p < D.length
  ·refine zjq (decide_eq_true (show (p : Int) < ((xs.length : Nat) : Int) by omega)) ?_
   obtain ⟨f', rfl⟩ : ∃ f', f = f' + 1 := ⟨f - 1, by omega⟩
   refine ⟨_, rfl, _, rfl, _, rfl, _, rfl, s2.tab ta, tb, tl, m, p, B, D, rfl, hB.same s2, ⟨xs, htl, dn⟩, c, m1, m9, okB, okD, Bl, Dl, fun H3 s3 => ?_⟩
   have htl3 : H3 tl = some (.tup xs) := s3 _ _ htl
   refine ⟨rfl, _, rfl, ?_⟩
   have eN' : (if zcr m B D p = none then zbn m B f' (D.eraseIdx p) p else zbn m B f' D (p + 1)) = zbn m B C.length C 0 := eN
   cases e : zcr m B D p with
   | none =>
    refine zep rfl ?_
    rw [if_pos e] at eN'
    refine ⟨_, rfl, _, rfl, tl, D, p, rfl, ⟨xs, htl3, DnL.same s3 _ _ dn⟩, c, by omega, fun t4 H4 s4 ⟨ys, h4, d4⟩ => ?_⟩
    have le : (D.eraseIdx p).length + 1 = D.length := by
     rw [List.length_eraseIdx, if_pos c]
     omega
    have ly := d4.length
    rw [List.length_map] at ly
    refine ⟨⟨t4, D.eraseIdx p, p, f', rfl, s2.trans (s3.trans s4), ⟨ys, h4, d4⟩, fun t ht => okD t (List.mem_of_mem_eraseIdx ht), by omega, by omega, eN'⟩, ?_⟩
    show (match H4 t4 with | some (.tup xs) => xs.length - ((p : Nat) : Int).toNat | _ => 0) < (match H2 tl with | some (.tup xs) => xs.length - ((p : Nat) : Int).toNat | _ => 0)
    rw [h4, htl]
    show ys.length - ((p : Nat) : Int).toNat < xs.length - ((p : Nat) : Int).toNat
    omega
   | some w0 =>
    refine zcm (fun z => nomatch z) ?_
    rw [e, if_neg (fun z => nomatch z)] at eN'
    refine ⟨_, rfl, _, _, rfl, rfl, ?_⟩
    have e1 : (p : Int) + 1 = ((p + 1 : Nat) : Int) := by omega
    refine ⟨⟨tl, D, p + 1, f', by rw [← e1]; rfl, s2.trans s3, ⟨xs, htl3, DnL.same s3 _ _ dn⟩, okD, by omega, Dl, eN'⟩, ?_⟩
    show (match H3 tl with | some (.tup xs) => xs.length - ((p : Int) + 1).toNat | _ => 0) < (match H2 tl with | some (.tup xs) => xs.length - ((p : Nat) : Int).toNat | _ => 0)
    rw [htl3, htl]
    show xs.length - ((p : Int) + 1).toNat < xs.length - ((p : Nat) : Int).toNat
    omega
  ·refine zgi (decide_eq_false (show ¬ (p : Int) < ((xs.length : Nat) : Int) by omega)) ?_
   obtain rfl : f = 0 := by omega
   refine ⟨_, rfl, ?_⟩
   have eD' : D = zbn m B C.length C 0 := eN
   exact q tl H2 s2 ⟨xs, htl, by rw [← eD']; exact dn⟩
 ·rintro σ H2 Q1 Q2 mono ⟨x1, h1, x2, h2, pq, ys, h3, h4, i, j, h5, h6, b, h7, h8⟩
  exact ⟨x1, h1, x2, h2, pq, ys, h3, h4, i, j, h5, h6, b, h7, mono _ _ h8⟩
end
section
variable {P : Program} {w : World} {K : PySem.W.Frag} {mg : Str → Option Value} {base : Heap} {a : Adr} {d : Fds}
theorem zlb (T : Txt K mg a d) : zbi P w K mg base CX0 3 a.f_tightened d.f_tightened ["bough", "sold"] zs4 := by
 have G_has := zei (P := P) (w := w) (base := base) T
 have G_count_in := zeb (P := P) (w := w) (base := base) T
 refine T.K_tightened.ok sc_tightened (fun vs H Q E h => ?_) (fun cdv A outer s H vs Q E hr h => ?_)
 ·obtain ⟨v, ls, b, sold, rfl, _⟩ := h
  rfl
 obtain ⟨v, ls, b, sold, rfl, hd, kl, hls, sl, ⟨w0, hw0, hb0⟩, q⟩ := h
 obtain ⟨p, pk, rfl, hp, hpk⟩ := zdm hd
 refine ⟨_, (zaf (zeq (i := 2) sc_tightened.nd rfl rfl rfl (sc0 := zab zcb) (XN := ["bough", "sold", "counts"]) (N' := ["ware", "bough"]) (n := 1) (kp := [0]) rfl (piL (K := K) (pv 1)) rfl rfl (by decide +kernel) (fun _ _ _ _ _ => (zaz (i := 0) (by show List.Nodup (["ware", "bough"] : List Str); decide +kernel) rfl (Or.inl rfl))) (fun _ _ _ _ _ => (zcf (zcv (zah G_has hr.lv rfl T.g_has T.K_has.kp T.B_has .nil zan (zaa (pv 0) (zaa (zao (ixT (K := K)) (pv 1) zae (fun _ _ => rfl)) zac)))))) (fun _ _ _ _ _ => (zah G_count_in hr.lv rfl T.g_count_in T.K_count_in.kp T.B_count_in .nil zan (zaa (zao (ixT (K := K)) (pv 1) zae (fun _ _ => rfl)) (zaa (pv 0) zac)))))
   (zaj (zar (zb7 (zaa (zao (ixT (K := K)) (pv 0) zae (fun _ _ => rfl)) (zaa (zaw (zpp (K := K) rfl) rfl T.m_min PyProof.Rows.boot_min (zaa (pv 2) zac)) (zaa (zaw (zp2 (K := K) rfl) rfl T.m_max PyProof.Rows.boot_max (zaa (pv 2) zac)) (zaa (zao (ixT (K := K)) (pv 0) zae (fun _ _ => rfl)) zac)))))))), ?_⟩
 refine ⟨_, rfl, ls, rfl, ⟨_, SqL.of hls⟩, ?_⟩
 refine zdf (K := K) (a := ls) (xs := zak sold) (fun i ys σ H2 => (∃ v, σ = [v, some (.ref p)]) ∧ Same H H2 ∧ ys = zak (((sold.take i).filter fun w => w.testBit b.u).map (cnt b.ks))) ⟨⟨none, rfl⟩, Same.refl _, rfl⟩ (fun i ys σ H2 hi pv => ?_) (fun i ys σ H2 hi pv => ?_) (fun i x ys σ H2 hx pv => ?_) (fun ys σ H2 pv lc hlc => ?_)
 ·obtain ⟨_, _, rfl⟩ := pv
  rw [List.length_map, List.length_map]
  refine small (Nat.le_trans (List.length_filter_le _ _) ?_)
  rw [List.length_take]
  omega
 ·exact SqL.of (pv.2.1 _ _ hls)
 ·obtain ⟨⟨v, rfl⟩, s2, rfl⟩ := pv
  rw [List.getElem?_map] at hx
  obtain ⟨wa, hwa, rfl⟩ := Option.map_eq_some_iff.mp hx
  have ek : (sold.take (i + 1)).filter (fun w => w.testBit b.u) = (sold.take i).filter (fun w => w.testBit b.u) ++ (if wa.testBit b.u = true then [wa] else []) := by
   rw [List.take_add_one, hwa, Option.toList_some, List.filter_append]
   cases z : wa.testBit b.u <;> simp [z]
  refine ⟨_, rfl, _, rfl, p, _, _, _, rfl, rfl, sqT (s2 _ _ hp), at0, _, _, rfl, _, rfl, ?_⟩
  rw [zbt]
  refine zc0 (fun c => ?_) (fun c => ?_)
  ·refine ⟨_, rfl, p, _, _, _, rfl, rfl, sqT (s2 _ _ hp), at3, _, rfl, pk, b.ks, wa, rfl, s2 _ _ hpk, kl, fun H3 s3 => ?_⟩
   refine ⟨⟨_, rfl⟩, s2.trans s3, ?_⟩
   rw [ek, if_pos c, List.map_append, zcx]
   rfl
  ·refine ⟨⟨_, rfl⟩, s2, ?_⟩
   rw [ek, if_neg c, List.append_nil]
 obtain ⟨_, s2, rfl⟩ := pv
 have lsl : (zak sold).length = sold.length := List.length_map _
 rw [lsl, List.take_length]
 have s3' := zag hlc (.lst (zak ((sold.filter fun w => w.testBit b.u).map (cnt b.ks))))
 have s3 := s2.trans s3'
 have g3 : L2.upd H2 lc (.lst (zak ((sold.filter fun w => w.testBit b.u).map (cnt b.ks)))) lc = some (.lst (zak ((sold.filter fun w => w.testBit b.u).map (cnt b.ks)))) := zad
 generalize L2.upd H2 lc (.lst (zak ((sold.filter fun w => w.testBit b.u).map (cnt b.ks)))) = H3 at s3 g3 s3' ⊢
 have hp3 := s3 _ _ hp
 have cm : ∀ M : Int, M ∈ ((sold.filter fun w => w.testBit b.u).map (cnt b.ks)).map (fun k : Nat => (k : Int)) ↔ ∃ w ∈ sold, w.testBit b.u = true ∧ M = (cnt b.ks w : Int) := fun M => by
  rw [List.map_map, List.mem_map]
  constructor
  ·rintro ⟨w, hw, e⟩
   obtain ⟨h1, h2⟩ := List.mem_filter.mp hw
   exact ⟨w, h1, h2, e.symm⟩
  ·rintro ⟨w, h1, h2, e⟩
   exact ⟨w, List.mem_filter.mpr ⟨h1, h2⟩, e.symm⟩
 have pos : 0 < (((sold.filter fun w => w.testBit b.u).map (cnt b.ks)).map (fun k : Nat => (k : Int))).length := by
  rw [List.length_map, List.length_map]
  exact List.length_pos_of_mem (List.mem_filter.mpr ⟨hw0, hb0⟩)
 have sq : SqL K H3 lc ((((sold.filter fun w => w.testBit b.u).map (cnt b.ks)).map (fun k : Nat => (k : Int))).map V.int) := SqL.of (by rw [zn9]; exact g3)
 refine ⟨_, rfl, p, _, _, _, rfl, rfl, sqT hp3, at0, _, rfl, lc, _, rfl, sq, pos, fun lo hlo lo' => ?_⟩
 refine ⟨_, rfl, lc, _, rfl, sq, pos, fun hi hhi hi' => ?_⟩
 refine ⟨_, rfl, p, _, _, _, rfl, rfl, sqT hp3, at3, small (by show 4 ≤ 1000; decide), fun tn htn => ?_⟩
 have s4 := zag htn (.tup [.int (b.u : Int), .int lo, .int hi, .ref pk])
 refine q ⟨b.u, lo, hi, b.ks⟩ _ _ (s3.trans s4) ⟨rfl, rfl, (cm lo).mp hlo, fun w hw hb => lo' _ ((cm _).mpr ⟨w, hw, hb, rfl⟩), (cm hi).mp hhi, fun w hw hb => hi' _ ((cm _).mpr ⟨w, hw, hb, rfl⟩)⟩ ?_
 exact ⟨tn, _, rfl, zad, _, _, rfl, rfl, _, _, rfl, rfl, _, _, rfl, rfl, _, _, rfl, ⟨pk, _, rfl, s4 _ _ (s3 _ _ hpk), zfd _⟩, rfl⟩
end
section
variable {P : Program} {w : World} {K : PySem.W.Frag} {mg : Str → Option Value} {base : Heap} {a : Adr} {d : Fds}
theorem zjg (T : Txt K mg a d) : zbi P w K mg base CX0 3 a.f_first_with d.f_first_with ["sold", "bough", "count"] zl6 := by
 have G_has := zei (P := P) (w := w) (base := base) T
 have G_count_in := zeb (P := P) (w := w) (base := base) T
 refine T.K_first_with.ok zjf (fun vs H Q E h => ?_) (fun cdv A outer s H vs Q E hr h => ?_)
 ·obtain ⟨ls, v, b, sold, c, w0, rfl, _⟩ := h
  rfl
 obtain ⟨ls, v, b, sold, c, w0, rfl, hd, kl, hls, sl, hf, q⟩ := h
 obtain ⟨p, pk, rfl, hp, hpk⟩ := zdm hd
 refine ⟨_, (zaj (zar (zao (ixL (K := K)) (zdt (sc0 := zab zbz) (XN := ["sold", "bough", "count"]) (N' := ["ware", "count", "bough"]) (n := 1) (kp := [2, 1]) rfl (piL (K := K) (pv 0)) rfl rfl (by decide +kernel) (fun _ _ _ _ _ => (zaz (i := 0) (by show List.Nodup (["ware", "count", "bough"] : List Str); decide +kernel) rfl (Or.inl rfl))) (fun _ _ _ _ _ => (zcf (PW.pt (zlp (zcv (zah G_has hr.lv rfl T.g_has T.K_has.kp T.B_has .nil zan (zaa (pv 0) (zaa (zao (ixT (K := K)) (pv 2) zae (fun _ _ => rfl)) zac)))) (zhz (zat zb6 (zah G_count_in hr.lv rfl T.g_count_in T.K_count_in.kp T.B_count_in .nil zan (zaa (zao (ixT (K := K)) (pv 2) zae (fun _ _ => rfl)) (zaa (pv 0) zac))) (pv 1) (zax _))))))) (fun _ _ _ _ _ => (pv 0))) zae (fun _ _ => rfl)))), ?_⟩
 refine ⟨_, rfl, ls, rfl, ⟨_, SqL.of hls⟩, ?_⟩
 refine zdf (K := K) (a := ls) (xs := zak sold) (fun i ys σ H2 => (∃ v, σ = [v, some (.int c), some (.ref p)]) ∧ Same H H2 ∧ ys = zak ((sold.take i).filter fun w => w.testBit b.u && decide ((cnt b.ks w : Int) = c))) ⟨⟨none, rfl⟩, Same.refl _, rfl⟩ (fun i ys σ H2 hi pv => ?_) (fun i ys σ H2 hi pv => ?_) (fun i x ys σ H2 hx pv => ?_) (fun ys σ H2 pv lc hlc => ?_)
 ·obtain ⟨_, _, rfl⟩ := pv
  rw [List.length_map]
  refine small (Nat.le_trans (List.length_filter_le _ _) ?_)
  rw [List.length_take]
  omega
 ·exact SqL.of (pv.2.1 _ _ hls)
 ·obtain ⟨⟨v, rfl⟩, s2, rfl⟩ := pv
  rw [List.getElem?_map] at hx
  obtain ⟨wa, hwa, rfl⟩ := Option.map_eq_some_iff.mp hx
  have ek : ∀ z, (wa.testBit b.u && decide ((cnt b.ks wa : Int) = c)) = z → (sold.take (i + 1)).filter (fun w => w.testBit b.u && decide ((cnt b.ks w : Int) = c)) = (sold.take i).filter (fun w => w.testBit b.u && decide ((cnt b.ks w : Int) = c)) ++ (if z = true then [wa] else []) := fun z hz => by
   rw [List.take_add_one, hwa, Option.toList_some, List.filter_append]
   congr 1
   cases z
   ·rw [List.filter_cons_of_neg (by rw [hz]; exact Bool.false_ne_true)]; rfl
   ·rw [List.filter_cons_of_pos (by exact hz)]; rfl
  refine ⟨_, rfl, _, rfl, p, _, _, _, rfl, rfl, sqT (s2 _ _ hp), at0, _, _, rfl, _, rfl, ?_⟩
  rw [zbt]
  refine zc0 (fun c1 => ?_) (fun c1 => ?_)
  ·refine ⟨_, rfl, p, _, _, _, rfl, rfl, sqT (s2 _ _ hp), at3, _, rfl, pk, b.ks, wa, rfl, s2 _ _ hpk, kl, fun H3 s3 => ?_⟩
   refine ⟨_, rfl, rfl, _, rfl, ?_⟩
   by_cases c2 : (cnt b.ks wa : Int) = c
   ·refine zep (by rw [c2]) ?_
    refine ⟨_, rfl, ⟨_, rfl⟩, s2.trans s3, ?_⟩
    rw [ek true (by rw [c1, decide_eq_true c2]; rfl), if_pos rfl, zcx]
    rfl
   ·refine zcm (fun z => c2 (by injection z)) ?_
    refine ⟨⟨_, rfl⟩, s2.trans s3, ?_⟩
    rw [ek false (by rw [decide_eq_false c2, Bool.and_false]), if_neg Bool.false_ne_true, List.append_nil]
  ·refine zf8 ?_
   refine ⟨⟨_, rfl⟩, s2, ?_⟩
   rw [ek false (by rw [Bool.eq_false_iff.mpr c1, Bool.false_and]), if_neg Bool.false_ne_true, List.append_nil]
 obtain ⟨_, s2, rfl⟩ := pv
 have lsl : (zak sold).length = sold.length := List.length_map _
 rw [lsl, List.take_length]
 have h0 : (sold.filter fun w => w.testBit b.u && decide ((cnt b.ks w : Int) = c))[0]? = some w0 := by
  rw [← List.head?_eq_getElem?, List.head?_filter]
  exact hf
 have s3' := zag hlc (.lst (zak (sold.filter fun w => w.testBit b.u && decide ((cnt b.ks w : Int) = c))))
 have g3 : L2.upd H2 lc (.lst (zak (sold.filter fun w => w.testBit b.u && decide ((cnt b.ks w : Int) = c)))) lc = some (.lst (zak (sold.filter fun w => w.testBit b.u && decide ((cnt b.ks w : Int) = c)))) := zad
 generalize L2.upd H2 lc (.lst (zak (sold.filter fun w => w.testBit b.u && decide ((cnt b.ks w : Int) = c)))) = H3 at s3' g3 ⊢
 refine ⟨lc, _, _, .int (w0 : Int), rfl, rfl, SqL.of g3, zc8 (by rw [List.getElem?_map, h0]; rfl), ?_⟩
 exact q H3 (s2.trans s3')
end
section
variable {P : Program} {w : World} {K : PySem.W.Frag} {mg : Str → Option Value} {base : Heap} {a : Adr} {d : Fds}
theorem zj4 (T : Txt K mg a d) (LB : zgj mg base a.c_cases_of a.t_cases_of) : zbi P w K mg base CX0 25 a.f_folded d.f_folded ["wood"] (spT a.t_cases_of zqu) := by
 have G_wares := zh7 (P := P) (w := w) (base := base) T LB
 have G_has := zei (P := P) (w := w) (base := base) T
 have G_boughs_left := zih (P := P) (w := w) (base := base) T
 have G_cross_left := zjk (P := P) (w := w) (base := base) T
 have G_tightened := zlb (P := P) (w := w) (base := base) T
 have G_first_with := zjg (P := P) (w := w) (base := base) T
 have G_first_breaking := zee (P := P) (w := w) (base := base) T LB
 have G_without_needless := zga (P := P) (w := w) (base := base) T LB
 refine T.K_folded.ok sc_folded (fun vs H Q E h => ?_) (fun cdv A outer s H vs Q E hr h => ?_)
 ·obtain ⟨_, wd, tb, tc, m, L, C, rfl, _⟩ := h
  rfl
 obtain ⟨ta, wd, tb, tc, m, L, C, rfl, W, ware, q⟩ := h
 have p62 : (2 : Int) ^ 62 = 4611686018427387904 := by decide
 have m1 := W.m1
 have m9 := W.m9
 have kpos := zmm ware
 have klen := zj2 m (zaq L C)
 have few := zf6 (m := m) (ts := zaq L C) m9
 obtain ⟨ct3, ch3, cu3⟩ := zsl (X := (zd5 CX0 P w K mg base ["wood", "sold", "kept", "boughs", "cross", "tight", "needed"] "folded" (zab zbu) a.f_folded cdv A outer s H E).nox) (st := (zai zbu).drop 3) (zaf (zau (i := 3) sc_folded.nd rfl (Or.inr rfl) (zah G_boughs_left hr.lv rfl T.g_boughs_left T.K_boughs_left.kp T.B_boughs_left .nil zan (zaa (zao (ixT (K := K)) (pv 0) zae (fun _ _ => rfl)) (zaa (pv 2) zac))))
   (zaf (zau (i := 4) sc_folded.nd rfl (Or.inr rfl) (zah G_cross_left hr.lv rfl T.g_cross_left T.K_cross_left.kp T.B_cross_left .nil zan (zaa (zao (ixT (K := K)) (pv 0) zae (fun _ _ => rfl)) (zaa (pv 2) zac))))
   (zaf (zau (i := 1) sc_folded.nd rfl (Or.inr rfl) (zah G_wares hr.lv rfl T.g_wares T.K_wares.kp T.B_wares .nil zan (zaa (zb7 (zaa (zaw (zde (K := K)) rfl T.m_len PySem.boot_len (zaa (pv 2) zac)) (zaa (pv 3) (zaa (pv 4) zac)))) zac)))
   (zaf (zau (i := 3) sc_folded.nd rfl (Or.inr rfl) (zbd zb1 rfl T.m_tuple PyProof.Rows.boot_tuple (zaa (zdt (sc0 := zab zbu) (XN := ["wood", "sold", "kept", "boughs", "cross", "tight", "needed"]) (N' := ["bough", "sold"]) (n := 1) (kp := [1]) rfl (piT (K := K) (pv 3)) rfl rfl (by decide +kernel) (fun _ _ _ _ _ => (zaz (i := 0) (by show List.Nodup (["bough", "sold"] : List Str); decide +kernel) rfl (Or.inl rfl))) (fun _ _ _ _ _ => ze6) (fun _ _ _ _ _ => (zah G_tightened hr.lv rfl T.g_tightened T.K_tightened.kp T.B_tightened .nil zan (zaa (pv 0) (zaa (pv 1) zac))))) zac)))
   (zaf (zau (i := 4) sc_folded.nd rfl (Or.inr rfl) (zah G_without_needless hr.lv rfl T.g_without_needless T.K_without_needless.kp T.B_without_needless .nil zan (zaa (zaw (zde (K := K)) rfl T.m_len PySem.boot_len (zaa (pv 2) zac)) (zaa (pv 3) (zaa (pv 4) zac)))))
   (zaf (zeq (i := 5) sc_folded.nd rfl rfl rfl (sc0 := zab zbu) (XN := ["wood", "sold", "kept", "boughs", "cross", "tight", "needed"]) (N' := ["bough", "sold"]) (n := 1) (kp := [1]) rfl (piT (K := K) (pv 3)) rfl rfl (by decide +kernel) (fun _ _ _ _ _ => (zaz (i := 0) (by show List.Nodup (["bough", "sold"] : List Str); decide +kernel) rfl (Or.inl rfl))) (fun _ _ _ _ _ => ze6) (fun _ _ _ _ _ => (zb7 (zaa (zah G_first_with hr.lv rfl T.g_first_with T.K_first_with.kp T.B_first_with .nil zan (zaa (pv 1) (zaa (pv 0) (zaa (zao (ixT (K := K)) (pv 0) zae (fun _ _ => rfl)) zac)))) (zaa (zah G_first_with hr.lv rfl T.g_first_with T.K_first_with.kp T.B_first_with .nil zan (zaa (pv 1) (zaa (pv 0) (zaa (zao (ixT (K := K)) (pv 0) zae (fun _ _ => rfl)) zac)))) zac)))))
   (zaf (zeq (i := 6) sc_folded.nd rfl rfl rfl (sc0 := zab zbu) (XN := ["wood", "sold", "kept", "boughs", "cross", "tight", "needed"]) (N' := ["place", "boughs", "cross", "kept"]) (n := 1) (kp := [3, 4, 2]) rfl (zdq rfl T.m_range (zaa (zaw (zde (K := K)) rfl T.m_len PySem.boot_len (zaa (pv 4) zac)) zac)) rfl rfl (by decide +kernel) (fun _ _ _ _ _ => (zaz (i := 0) (by show List.Nodup (["place", "boughs", "cross", "kept"] : List Str); decide +kernel) rfl (Or.inl rfl))) (fun _ _ _ _ _ => ze6) (fun _ _ _ _ _ => (zah G_first_breaking hr.lv rfl T.g_first_breaking T.K_first_breaking.kp T.B_first_breaking .nil zan (zaa (zaw (zde (K := K)) rfl T.m_len PySem.boot_len (zaa (pv 3) zac)) (zaa (pv 1) (zaa (pv 2) (zaa (pv 0) zac)))))))
   (zaj (zar (zb7 (zaa (zb7 (zaa (zaw (zde (K := K)) rfl T.m_len PySem.boot_len (zaa (pv 2) zac)) (zaa (pv 3) (zaa (pv 4) zac)))) (zaa (pv 2) (zaa (pv 5) (zaa (pv 6) zac))))))))))))))
 refine ⟨_, (zaf (zau (i := 1) sc_folded.nd rfl (Or.inr rfl) (zah G_wares hr.lv rfl T.g_wares T.K_wares.kp T.B_wares .nil zan (zaa (pv 0) zac)))
   (zaf (zbk (zat zb6 (zaw (zde (K := K)) rfl T.m_len PySem.boot_len (zaa (pv 1) zac)) zae (zax _)) (zaj zrp) za1)
   (zaf (zau (i := 2) sc_folded.nd rfl (Or.inr rfl) (zrr (sc0 := zab zbu) (XN := ["wood", "sold", "kept", "boughs", "cross", "tight", "needed"]) (N' := ["k", "sold"]) (n := 1) (kp := [1]) rfl (zdq rfl T.m_range (zaa (zao (ixT (K := K)) (pv 0) zae (fun _ _ => rfl)) zac)) rfl rfl (by decide +kernel) (fun _ _ _ _ _ => (zaz (i := 0) (by show List.Nodup (["k", "sold"] : List Str); decide +kernel) rfl (Or.inr rfl))) (fun _ _ _ _ _ => (zcf (zcv (zaw (zm6 (K := K) rfl) rfl T.m_any PyProof.Rows.boot_any (zaa (zdt (sc0 := (zf9 (lcS (zv5 (zai zbu)[2]?)) (zab zbu))) (XN := ["k", "sold"]) (N' := ["ware", "k"]) (n := 1) (kp := [0]) rfl (piL (K := K) (pv 1)) rfl rfl (by decide +kernel) (fun _ _ _ _ _ => (zaz (i := 0) (by show List.Nodup (["ware", "k"] : List Str); decide +kernel) rfl (Or.inl rfl))) (fun _ _ _ _ _ => ze6) (fun _ _ _ _ _ => (zah G_has hr.lv rfl T.g_has T.K_has.kp T.B_has .nil zan (zaa (pv 0) (zaa (pv 1) zac))))) zac))))) (fun _ _ _ _ _ => (pv 0))))
   ch3))), ?_⟩
 refine ⟨_, rfl, ta, wd, m, zaq L C, rfl, W.woodT, m1, m9, fun ls H1 s1 nls hls => ?_⟩
 have wne : za3 m (zaq L C) ≠ [] := fun z => by
  obtain ⟨w0, h1, h2⟩ := ware
  have := mem_wareL.mpr ⟨h1, h2⟩
  rw [z] at this
  cases this
 have lw : (zak (za3 m (zaq L C))).length = (za3 m (zaq L C)).length := List.length_map _
 have lpos := List.length_pos_iff.mpr wne
 refine ⟨_, rfl, ls, _, rfl, .inl (SqL.of hls), rfl, _, rfl, ?_⟩
 refine zcm (fun z => ?_) ?_
 ·injection z with z
  omega
 have W1 := W.same s1
 refine ⟨_, rfl, wd, _, _, _, rfl, rfl, sqT W1.at_, at0, _, rfl, by rw [p62]; omega, by rw [p62]; omega, ?_⟩
 rw [Int.toNat_natCast]
 refine zeo (k := m) (fun i zs σ H2 => (∃ v, σ = [v, some (.ref ls)]) ∧ Same H1 H2 ∧ zs = zak ((List.range i).filter fun k => (za3 m (zaq L C)).any fun w => w.testBit k)) ⟨⟨none, rfl⟩, Same.refl _, rfl⟩ (fun i zs σ H2 hi pv => ?_) (fun i zs σ H2 hi pv => ?_) (fun zs σ H2 pv lk hlk => ?_)
 ·obtain ⟨_, _, rfl⟩ := pv
  rw [List.length_map]
  refine small (Nat.le_trans (List.length_filter_le _ _) ?_)
  rw [List.length_range]
  omega
 ·obtain ⟨⟨v, rfl⟩, s2, rfl⟩ := pv
  have hls2 : H2 ls = some (.lst (zak (za3 m (zaq L C)))) := s2 _ _ hls
  refine ⟨_, rfl, ls, rfl, ⟨_, SqL.of hls2⟩, ?_⟩
  refine zdf (K := K) (a := ls) (xs := zak (za3 m (zaq L C))) (fun j ys σ H3 => (∃ v, σ = [v, some (.int (i : Int))]) ∧ H3 = H2 ∧ ys = (((za3 m (zaq L C)).take j).map fun w => w.testBit i).map V.bl) ⟨⟨none, rfl⟩, rfl, rfl⟩ (fun j ys σ H3 hj pv => ?_) (fun j ys σ H3 hj pv => ?_) (fun j x ys σ H3 hx pv => ?_) (fun ys σ H3 pv la hla => ?_)
  ·obtain ⟨_, _, rfl⟩ := pv
   rw [List.length_map, List.length_map, List.length_take]
   exact small (by omega)
  ·rw [pv.2.1]
   exact SqL.of hls2
  ·obtain ⟨⟨v, rfl⟩, rfl, rfl⟩ := pv
   rw [List.getElem?_map] at hx
   obtain ⟨wa, hwa, rfl⟩ := Option.map_eq_some_iff.mp hx
   refine ⟨_, rfl, _, rfl, _, _, rfl, ⟨_, rfl⟩, rfl, ?_⟩
   rw [zbt, zem hwa, List.map_append]
   rfl
  obtain ⟨_, rfl, rfl⟩ := pv
  rw [lw, List.take_length]
  have s3 := zag hla (.lst (((za3 m (zaq L C)).map fun w => w.testBit i).map V.bl))
  have g3 : L2.upd H3 la (.lst (((za3 m (zaq L C)).map fun w => w.testBit i).map V.bl)) la = some (.lst (((za3 m (zaq L C)).map fun w => w.testBit i).map V.bl)) := zad
  generalize L2.upd H3 la (.lst (((za3 m (zaq L C)).map fun w => w.testBit i).map V.bl)) = H4 at s3 g3 ⊢
  refine ⟨la, _, rfl, SqL.of g3, _, rfl, ?_⟩
  have ea : ((za3 m (zaq L C)).map fun w => w.testBit i).any id = (za3 m (zaq L C)).any fun w => w.testBit i := by
   rw [List.any_map]
   rfl
  rw [ea]
  have er : ∀ z, ((za3 m (zaq L C)).any fun w => w.testBit i) = z → (List.range (i + 1)).filter (fun k => (za3 m (zaq L C)).any fun w => w.testBit k) = (List.range i).filter (fun k => (za3 m (zaq L C)).any fun w => w.testBit k) ++ (if z = true then [i] else []) := fun z hz => by
   rw [List.range_succ, List.filter_append]
   congr 1
   cases z
   ·rw [List.filter_cons_of_neg (by rw [hz]; exact Bool.false_ne_true)]; rfl
   ·rw [List.filter_cons_of_pos (by exact hz)]; rfl
  refine zc0 (fun c => ?_) (fun c => ?_)
  ·refine ⟨_, rfl, ⟨_, rfl⟩, s2.trans s3, ?_⟩
   rw [er true c, if_pos rfl, zcx]
   rfl
  ·refine ⟨⟨_, rfl⟩, s2.trans s3, ?_⟩
   rw [er false (Bool.eq_false_iff.mpr c), if_neg Bool.false_ne_true, List.append_nil]
 obtain ⟨_, s2, rfl⟩ := pv
 have hk : (List.range m).filter (fun k => (za3 m (zaq L C)).any fun w => w.testBit k) = za0 m (zaq L C) := rfl
 rw [hk]
 have nlk : H lk = none := (s1.trans s2).free hlk
 have s3' := zag hlk (.lst (zak (za0 m (zaq L C))))
 have s3 := (s1.trans s2).trans s3'
 have g3 : L2.upd H2 lk (.lst (zak (za0 m (zaq L C)))) lk = some (.lst (zak (za0 m (zaq L C)))) := zad
 generalize L2.upd H2 lk (.lst (zak (za0 m (zaq L C)))) = H3 at s3' s3 g3 ⊢
 refine cu3 _ _ _ ?_
 have W3 := W.same s3
 have pw := zid m (zaq L C)
 refine ⟨_, rfl, wd, _, _, _, rfl, rfl, sqT W3.at_, at1, _, rfl, tb, lk, L, za0 m (zaq L C), m, rfl, W3.bs, g3, pw, by omega, W.fewb, m9, W.okb, fun b hb => zg3 (List.mem_append.mpr (.inl (List.mem_map.mpr ⟨b, hb, rfl⟩))), fun tb1 H4 s4 hB1 => ?_⟩
 have W4 := W3.same s4
 have g4 : H4 lk = some (.lst (zak (za0 m (zaq L C)))) := s4 _ _ g3
 refine ⟨_, rfl, wd, _, _, _, rfl, rfl, sqT W4.at_, at2, _, rfl, tc, lk, C, za0 m (zaq L C), m, rfl, W4.cs, g4, pw, by omega, W.fewc, m9, W.okc, W.nb, fun tc1 H5 s5 hC1 => ?_⟩
 have s35 := s4.trans s5
 have g5 : H5 lk = some (.lst (zak (za0 m (zaq L C)))) := s5 _ _ g4
 have lk1 : (zak (za0 m (zaq L C))).length = (za0 m (zaq L C)).length := List.length_map _
 have ok1 : ∀ b ∈ fL1 m L C, Tie.BoughOkW (za0 m (zaq L C)).length b.u b.lo b.hi b.ks := fun b' hb' => by
  obtain ⟨b, hb, e⟩ := List.mem_filterMap.mp hb'
  exact zkm pw (W.okb b hb) (zg3 (List.mem_append.mpr (.inl (List.mem_map.mpr ⟨b, hb, rfl⟩)))) e
 have okc1 : ∀ t ∈ fC1 m L C, t.Ok (za0 m (zaq L C)).length := fun t ht => by
  obtain ⟨c, hc, e⟩ := List.mem_filterMap.mp ht
  exact zk3 pw (W.okc c hc) (W.nb c hc) e
 have nb1 : True := trivial
 have fb1 : (fL1 m L C).length ≤ 20 := Nat.le_trans (List.length_filterMap_le _ _) W.fewb
 have fc1 : (fC1 m L C).length ≤ 20 := Nat.le_trans (List.length_filterMap_le _ _) W.fewc
 have tieOk : ∀ (M : List Bg), (∀ b ∈ M, Tie.BoughOkW (za0 m (zaq L C)).length b.u b.lo b.hi b.ks) → ∀ t ∈ M.map Bg.tie, t.Ok (za0 m (zaq L C)).length := fun M hM t ht => by
  obtain ⟨b, hb, rfl⟩ := List.mem_map.mp ht
  exact hM b hb
 refine ⟨_, rfl, lk, _, rfl, .inl (SqL.of g5), ?_⟩
 rw [lk1]
 refine ⟨_, rfl, _, rfl, small (by show 3 ≤ 1000; decide), fun w1 hw1 => ?_⟩
 have s6' := zag hw1 (.tup [.int ((za0 m (zaq L C)).length : Int), .ref tb1, .ref tc1])
 have s6 := s35.trans s6'
 have gw : L2.upd H5 w1 (.tup [.int ((za0 m (zaq L C)).length : Int), .ref tb1, .ref tc1]) w1 = some (.tup [.int ((za0 m (zaq L C)).length : Int), .ref tb1, .ref tc1]) := zad
 generalize L2.upd H5 w1 (.tup [.int ((za0 m (zaq L C)).length : Int), .ref tb1, .ref tc1]) = H6 at s6' s6 gw ⊢
 have hB6 := (hB1.same s5).same s6'
 have hC6 := hC1.same s6'
 have Wf : WoodT H6 w1 (za0 m (zaq L C)).length (zaq (fL1 m L C) (fC1 m L C)) := ze7 gw hB6 hC6 (fun t ht => (List.mem_append.mp ht).elim (tieOk _ ok1 t) (okc1 t)) (by rw [List.length_append, List.length_map]; omega) (by omega)
 have s06 := s3.trans s6
 refine ⟨s06.tab ta, w1, (za0 m (zaq L C)).length, zaq (fL1 m L C) (fC1 m L C), rfl, Wf, kpos, by omega, fun ls2 H7 s7 nls2 hls2 => ?_⟩
 have fewS := zf6 (m := (za0 m (zaq L C)).length) (ts := zaq (fL1 m L C) (fC1 m L C)) (by omega)
 have fewS' : (zdc m L C).length ≤ 512 := fewS
 have hls7 : H7 ls2 = some (.lst (zak (zdc m L C))) := hls2
 obtain ⟨xb, hxb, dxb⟩ := hB6.same s7
 have lxb : xb.length = (fL1 m L C).length := by
  have := dxb.length
  rw [List.length_map, List.length_map] at this
  exact this.symm
 refine ⟨_, rfl, tb1, rfl, ⟨_, sqT hxb⟩, ?_⟩
 refine zfo (K := K) (a := tb1) (xs := xb) (fun i ys σ H8 => (∃ v, σ = [v, some (.ref ls2)]) ∧ Same H7 H8 ∧ ∃ M2 : List Bg, TightL (zdc m L C) ((fL1 m L C).take i) M2 ∧ DnL H8 ((M2.map Bg.tie).map Tie.toD) ys) ⟨⟨none, rfl⟩, Same.refl _, [], rfl, rfl⟩ (fun i ys σ H8 hi pv => ?_) (fun i ys σ H8 hi pv => ?_) (fun i x ys σ H8 hx pv => ?_) (fun ys σ H8 pv lb2 hlb2 => ?_)
 ·obtain ⟨_, _, M2, tl, dl⟩ := pv
  have := dl.length
  rw [List.length_map, List.length_map, tl.length, List.length_take] at this
  exact small (by omega)
 ·exact sqT (pv.2.1 _ _ hxb)
 ·obtain ⟨⟨v, rfl⟩, s8, M2, tl, dl⟩ := pv
  obtain ⟨t0, ht0, hd⟩ := zik (DnL.same s8 _ _ dxb) hx
  rw [List.getElem?_map] at ht0
  obtain ⟨b, hb, rfl⟩ := Option.map_eq_some_iff.mp ht0
  have hbL := List.mem_of_getElem? hb
  have okb := ok1 b hbL
  refine ⟨_, rfl, _, rfl, x, ls2, b, zdc m L C, rfl, hd, Nat.le_trans okb.few (by omega), s8 _ _ hls7, by omega, zs6 (w0 := 0) W.nb hbL, fun b' v' H9 s9 tg dv => ?_⟩
  refine ⟨⟨_, rfl⟩, s8.trans s9, M2 ++ [b'], ?_, ?_⟩
  ·have hb' : (fL1 m L C)[i]? = some b := hb
   rw [List.take_add_one, hb', Option.toList_some]
   exact tl.snoc tg
  ·rw [List.map_append, List.map_append]
   exact (DnL.same s9 _ _ dl).append ⟨v', [], rfl, dv, rfl⟩
 obtain ⟨_, s8, M2, tl, dl⟩ := pv
 rw [lxb, List.take_length] at tl
 have s9' := zag hlb2 (.lst ys)
 have gl9 : L2.upd H8 lb2 (.lst ys) lb2 = some (.lst ys) := zad
 have dl9 := DnL.same s9' _ _ dl
 generalize L2.upd H8 lb2 (.lst ys) = H9 at s9' gl9 dl9 ⊢
 refine ⟨lb2, _, rfl, .inl ⟨SqL.of gl9, fun tb2 htb2 => ?_⟩⟩
 have sA' := zag htb2 (.tup ys)
 have gA : L2.upd H9 tb2 (.tup ys) tb2 = some (.tup ys) := zad
 have dlA := DnL.same sA' _ _ dl9
 generalize L2.upd H9 tb2 (.tup ys) = HA at sA' gA dlA ⊢
 have s7A := (s8.trans s9').trans sA'
 have hB2 : TiesAt HA tb2 (M2.map Bg.tie) := ⟨ys, gA, dlA⟩
 have ok2 := tl.ok ok1
 have fb2 : M2.length ≤ 20 := by rw [tl.length]; exact fb1
 have s6A := s7.trans s7A
 have s0A := s06.trans s6A
 have gAk : HA lk = some (.lst (zak (za0 m (zaq L C)))) := (s6.trans s6A) _ _ g3
 refine ⟨_, rfl, lk, _, rfl, .inl (SqL.of gAk), ?_⟩
 rw [lk1]
 refine ⟨_, rfl, _, rfl, s0A.tab ta, tb2, tc1, (za0 m (zaq L C)).length, M2.map Bg.tie, fC1 m L C, rfl, hB2, hC6.same s6A, kpos, by omega, tieOk _ ok2, okc1, by rw [List.length_map]; exact fb2, fc1, fun tc2 HB sB hC2 => ?_⟩
 have hC2' : TiesAt HB tc2 (fC2 m L C M2) := hC2
 have hBB := hB2.same sB
 obtain ⟨xb2, hxb2, dxb2⟩ := hBB
 have lxb2 : xb2.length = M2.length := by
  have := dxb2.length
  rw [List.length_map, List.length_map] at this
  exact this.symm
 have s7B := s7A.trans sB
 have hlsB : HB ls2 = some (.lst (zak (zdc m L C))) := s7B _ _ hls7
 refine ⟨_, rfl, tb2, rfl, ⟨_, sqT hxb2⟩, ?_⟩
 refine zfo (K := K) (a := tb2) (xs := xb2) (fun i ys σ H8 => (∃ v, σ = [v, some (.ref ls2)]) ∧ Same HB H8 ∧ DnL H8 ((M2.take i).map (zd8 (zdc m L C))) ys) ⟨⟨none, rfl⟩, Same.refl _, rfl⟩ (fun i ys σ H8 hi pv => ?_) (fun i ys σ H8 hi pv => ?_) (fun i x ys σ H8 hx pv => ?_) (fun xt σ H8 pv lt hlt => ?_)
 ·have := pv.2.2.length
  rw [List.length_map, List.length_take] at this
  exact small (by omega)
 ·exact sqT (pv.2.1 _ _ hxb2)
 ·obtain ⟨⟨v, rfl⟩, s8, dl⟩ := pv
  obtain ⟨t0, ht0, hd⟩ := zik (DnL.same s8 _ _ dxb2) hx
  rw [List.getElem?_map] at ht0
  obtain ⟨b, hb, rfl⟩ := Option.map_eq_some_iff.mp ht0
  have okb := ok2 b (List.mem_of_getElem? hb)
  have kb9 : b.ks.length ≤ 1000 := Nat.le_trans okb.few (by omega)
  obtain ⟨b0, hb0, tg⟩ := tl.get hb
  obtain ⟨wl, hwl⟩ := tg.first_lo
  obtain ⟨wh, hwh⟩ := tg.first_hi
  obtain ⟨p, pk, rfl, hp, hpk⟩ := zdm hd
  refine ⟨_, rfl, _, rfl, _, rfl, p, _, _, _, rfl, rfl, sqT hp, at1, ls2, .ref p, b, zdc m L C, b.lo, wl, rfl, hd, kb9, s8 _ _ hlsB, by omega, hwl, fun H9 s9 => ?_⟩
  refine ⟨_, rfl, _, rfl, _, rfl, p, _, _, _, rfl, rfl, sqT (s9 _ _ hp), at2, ls2, .ref p, b, zdc m L C, b.hi, wh, rfl, Dn.same s9 _ _ hd, kb9, (s8.trans s9) _ _ hlsB, by omega, hwh, fun HC sC => ?_⟩
  refine ⟨small (by show 2 ≤ 1000; decide), fun tn htn => ?_⟩
  have sD := zag htn (.tup [.int (wl : Int), .int (wh : Int)])
  refine ⟨⟨_, rfl⟩, s8.trans ((s9.trans sC).trans sD), ?_⟩
  rw [zem hb]
  refine (DnL.same ((s9.trans sC).trans sD) _ _ dl).append ⟨_, [], rfl, ?_, rfl⟩
  unfold zd8
  rw [hwl, hwh]
  exact ⟨tn, _, rfl, zad, _, _, rfl, rfl, _, _, rfl, rfl, rfl⟩
 obtain ⟨_, s8, dt⟩ := pv
 rw [lxb2, List.take_length] at dt
 have nlt : H8 lt = none := hlt
 have sD' := zag hlt (.lst xt)
 have gD : L2.upd H8 lt (.lst xt) lt = some (.lst xt) := zad
 have dtD := DnL.same sD' _ _ dt
 generalize L2.upd H8 lt (.lst xt) = HD at sD' gD dtD ⊢
 have sBD := s8.trans sD'
 have hC2D := hC2'.same sBD
 obtain ⟨xc, hxc, dxc⟩ := hC2D
 have lxc : xc.length = (fC2 m L C M2).length := by
  have := dxc.length
  rw [List.length_map] at this
  exact this.symm
 have fc2 : (fC2 m L C M2).length ≤ 20 := Nat.le_trans (needless_sub.length_le) fc1
 have okc2 : ∀ t ∈ fC2 m L C M2, t.Ok (za0 m (zaq L C)).length := fun t ht => okc1 t (needless_sub.mem ht)
 have s0D := (s0A.trans sB).trans sBD
 refine ⟨_, rfl, tc2, _, rfl, .inr (sqT hxc), _, rfl, by rw [p62]; omega, by rw [p62]; omega, ?_⟩
 rw [Int.toNat_natCast, lxc]
 refine zeo (k := (fC2 m L C M2).length) (fun i ys σ HE => (∃ v, σ = [v, some (.ref tb2), some (.ref tc2), some (.ref lk)]) ∧ Same HD HE ∧ ys = (List.range i).map fun p => zgc (zcr (za0 m (zaq L C)).length (M2.map Bg.tie) (fC2 m L C M2) p)) ⟨⟨none, rfl⟩, Same.refl _, rfl⟩ (fun i ys σ HE hi pv => ?_) (fun i ys σ HE hi pv => ?_) (fun ys σ HE pv ln hln => ?_)
 ·obtain ⟨_, _, rfl⟩ := pv
  rw [List.length_map, List.length_range]
  exact small (by omega)
 ·obtain ⟨⟨v, rfl⟩, sE, rfl⟩ := pv
  have gEk : HE lk = some (.lst (zak (za0 m (zaq L C)))) := (((sB.trans sBD).trans sE) _ _ gAk)
  refine ⟨_, rfl, lk, _, rfl, .inl (SqL.of gEk), ?_⟩
  rw [lk1]
  refine ⟨_, rfl, _, rfl, _, rfl, (s0D.trans sE).tab ta, tb2, tc2, (za0 m (zaq L C)).length, i, M2.map Bg.tie, fC2 m L C M2, rfl, hB2.same ((sB.trans sBD).trans sE), hC2'.same (sBD.trans sE), hi, kpos, by omega, tieOk _ ok2, okc2, by rw [List.length_map]; exact fb2, fc2, fun HF sF => ?_⟩
  refine ⟨⟨_, rfl⟩, sE.trans sF, ?_⟩
  rw [List.range_succ, List.map_append]
  rfl
 obtain ⟨_, sE, rfl⟩ := pv
 have sF' := zag hln (.lst ((List.range (fC2 m L C M2).length).map fun p => zgc (zcr (za0 m (zaq L C)).length (M2.map Bg.tie) (fC2 m L C M2) p)))
 have gF : L2.upd HE ln (.lst ((List.range (fC2 m L C M2).length).map fun p => zgc (zcr (za0 m (zaq L C)).length (M2.map Bg.tie) (fC2 m L C M2) p))) ln = some (.lst ((List.range (fC2 m L C M2).length).map fun p => zgc (zcr (za0 m (zaq L C)).length (M2.map Bg.tie) (fC2 m L C M2) p))) := zad
 generalize L2.upd HE ln (.lst ((List.range (fC2 m L C M2).length).map fun p => zgc (zcr (za0 m (zaq L C)).length (M2.map Bg.tie) (fC2 m L C M2) p))) = HF at sF' gF ⊢
 have sDF := sE.trans sF'
 have sAF := (sB.trans sBD).trans sDF
 have gFk : HF lk = some (.lst (zak (za0 m (zaq L C)))) := sAF _ _ gAk
 refine ⟨_, rfl, lk, _, rfl, .inl (SqL.of gFk), ?_⟩
 rw [lk1]
 refine ⟨_, rfl, _, rfl, small (by show 3 ≤ 1000; decide), fun w2 hw2 => ?_⟩
 have sG' := zag hw2 (.tup [.int ((za0 m (zaq L C)).length : Int), .ref tb2, .ref tc2])
 have gG : L2.upd HF w2 (.tup [.int ((za0 m (zaq L C)).length : Int), .ref tb2, .ref tc2]) w2 = some (.tup [.int ((za0 m (zaq L C)).length : Int), .ref tb2, .ref tc2]) := zad
 generalize L2.upd HF w2 (.tup [.int ((za0 m (zaq L C)).length : Int), .ref tb2, .ref tc2]) = HG at sG' gG ⊢
 refine ⟨_, rfl, _, rfl, _, rfl, small (by show 4 ≤ 1000; decide), fun f hf => ?_⟩
 have sH' := zag hf (.tup [.ref w2, .ref lk, .ref lt, .ref ln])
 have sFH := sG'.trans sH'
 have sDH := sDF.trans sFH
 have sBH := sBD.trans sDH
 refine q f M2 _ ((s0A.trans sB).trans sBH) ⟨tl, w2, lk, lt, ln, tb2, tc2, xt, zad, sH' _ _ gG, hB2.same (sB.trans sBH), hC2'.same sBH, (sAF.trans sFH) _ _ gAk, sDH _ _ gD, DnL.same sDH _ _ dtD, sFH _ _ gF, nlk, ?_, ?_, ?_, ?_, ?_⟩
 ·exact ((s0A.trans sB).trans s8).free hlt
 ·exact (s0D.trans sE).free hln
 ·exact fun z => by
   have : H8 lk = some (.lst (zak (za0 m (zaq L C)))) := (sB.trans s8) _ _ gAk
   rw [z, nlt] at this
   cases this
 ·exact fun z => by
   have : HE lk = some (.lst (zak (za0 m (zaq L C)))) := ((sB.trans sBD).trans sE) _ _ gAk
   rw [z, hln] at this
   cases this
 ·exact fun z => by
   have : HE lt = some (.lst xt) := sE _ _ gD
   rw [z, hln] at this
   cases this
theorem znm (T : Txt K mg a d) (LB : zgj mg base a.c_cases_of a.t_cases_of) : zbi P w K mg base (CXR P w) 25 a.f_folded d.f_folded ["wood"] (spT a.t_cases_of (zo7 a.x_NoWares)) := by
 have G_wares := zh7 (P := P) (w := w) (base := base) T LB
 refine T.K_folded.okR sc_folded (fun vs H Q E h => ?_) (fun cdv A outer s H vs Q E hr h => ?_)
 ·obtain ⟨_, wd, tb, tc, m, L, C, rfl, _⟩ := h
  rfl
 obtain ⟨ta, wd, tb, tc, m, L, C, rfl, W, void, hE⟩ := h
 have rest : PSs (zd5 (CXR P w) P w K mg base ["wood", "sold", "kept", "boughs", "cross", "tight", "needed"] "folded" (zab zbu) a.f_folded cdv A outer s H E) ((zai zbu).drop 2) (fun _ _ _ => False) := fun _ _ _ _ _ _ h => h.elim
 refine ⟨_, (zaf (zau (i := 1) sc_folded.nd rfl (Or.inr rfl) (zah G_wares hr.lv rfl T.g_wares T.K_wares.kp T.B_wares .nil zan (zaa (pv 0) zac)))
   (zaf (zbk (zat zb6 (zaw (zde (K := K)) rfl T.m_len PySem.boot_len (zaa (pv 1) zac)) zae (zax _)) (zaj (zr2 rfl rfl T.g_NoWares T.x_NoWares.cl (zaa zcs zac) (fun _ _ _ _ _ _ _ I hx hW => zse I hx hW))) za1)
   rest)), ?_⟩
 refine ⟨_, rfl, ta, wd, m, zaq L C, rfl, W.woodT, W.m1, W.m9, fun ls H1 s1 nls hls => ?_⟩
 have e : za3 m (zaq L C) = [] := by
  rw [List.eq_nil_iff_forall_not_mem]
  intro s hs
  obtain ⟨h1, h2⟩ := mem_wareL.mp hs
  rw [void s h1] at h2
  cases h2
 rw [e] at hls
 refine ⟨_, rfl, ls, _, rfl, .inl (SqL.of hls), rfl, _, rfl, ?_⟩
 refine zep rfl ?_
 exact ⟨by show 1 ≤ 1000; decide, hE _ s1⟩
end
section
variable {P : Program} {w : World} {K : PySem.W.Frag} {mg : Str → Option Value} {base : Heap} {a : Adr} {d : Fds}
theorem zdv (T : Txt K mg a d) : zbi P w K mg base CX0 1 a.f_law_take d.f_law_take ["_law_state", "_law_most_here"] (ztr K) := by
 refine T.K_law_take.ok sc_law_take (fun vs H Q E h => ?_) (fun cdv A outer s H vs Q E hr h => ?_)
 ·obtain ⟨pen, sp, ns, most, k, rfl, _⟩ := h
  rfl
 obtain ⟨pen, sp, ns, most, k, rfl, pn, k0, k1, m0, q⟩ := h
 have hp := pn.at_
 have el : (ns.map V.int).length = ns.length := List.length_map _
 have kk0 : 0 ≤ k * k := Int.mul_nonneg k0 k0
 have kk1 : k * k ≤ 1000000 * 1000000 := Int.mul_le_mul k1 k1 k0 (by decide)
 have p64 : (2 : Int) ^ 64 = 18446744073709551616 := by decide
 have item : ∀ j : Int, 0 ≤ j → j < ns.length → ∃ v : Int, atI (ns.map V.int) j = some (.int v) := fun j j0 j1 => by
  obtain ⟨m, rfl⟩ : ∃ m : Nat, j = (m : Int) := ⟨j.toNat, by omega⟩
  have hj : m < ns.length := by omega
  refine ⟨ns[m], zc8 ?_⟩
  rw [List.getElem?_map, List.getElem?_eq_getElem hj]
  rfl
 have last : ∃ t, PSs (zd5 CX0 P w K mg base ["_law_state", "_law_most_here", "_law_at", "_law_script", "_law_mingled"] "_law_take" (zab zce) a.f_law_take cdv A outer s H E).nox ((zai zce).drop 6) t ∧ ∀ (N : Int) (v0 v2 v3 : Option V), 0 ≤ N → N ≤ 1000000000000000 → t { nx := fun _ H' => Q .non H', rt := Q } [v0, some (.int most), v2, v3, some (.int N)] (L2.upd H pen (.lst [.ref sp, .int (k + 1)])) := by
  refine ⟨_, (zaj (zar (za7 zgn (za7 zgn (za7 zfn (pv 4) (pv 4)) zae) (pv 1)))), fun N v0 v2 v3 n0 n1 => ?_⟩
  refine ⟨_, rfl, _, rfl, _, _, rfl, rfl, .inl ⟨by rw [p64]; omega, by rw [p64]; omega⟩, _, _, rfl, rfl, (by show (0 : Int) < 2147483647; decide), _, rfl, _, _, rfl, rfl, m0, ?_⟩
  exact q _ (Int.emod_nonneg _ (by omega)) (Int.emod_lt_of_pos _ m0)
 obtain ⟨t6, h6, r6⟩ := last
 refine ⟨_, (zaf (zau (i := 2) sc_law_take.nd rfl (Or.inl rfl) (zao (ixL (K := K)) (pv 0) zae (fun _ _ => rfl)))
   (zaf (zt4 (za7 zc9 (pv 2) zae) (ztn (pv 0) zae zq1))
   (zaf (zau (i := 3) sc_law_take.nd rfl (Or.inl rfl) (zao (ixL (K := K)) (pv 0) zae (fun _ _ => rfl)))
   (zaf (zbk (zat zon (pv 2) (zaw (zde (K := K)) rfl T.m_len PySem.boot_len (zaa (pv 3) zac)) (zax _)) (zaj (zar (za7 zgn (zao (ixL (K := K)) (pv 3) (pv 2) (fun _ _ => rfl)) (pv 1)))) za1)
   (zaf (zau (i := 4) sc_law_take.nd rfl (Or.inl rfl) (za7 zc9 (za7 zc9 (za7 zfn (pv 2) (pv 2)) (za7 zfn zae (pv 2))) zae))
   (zaf (zbk (zat zhi (zaw (zde (K := K)) rfl T.m_len PySem.boot_len (zaa (pv 3) zac)) zae (zax _)) (zaj (zau (i := 4) sc_law_take.nd rfl (Or.inl rfl) (za7 zc9 (pv 4) (za7 zfn (za7 zgn (zao (ixL (K := K)) (pv 3) (za7 zgn (za7 zc9 (za7 zfn zae (pv 2)) zae) (zaw (zde (K := K)) rfl T.m_len PySem.boot_len (zaa (pv 3) zac))) (fun _ _ => rfl)) zae) zae)))) za1)
   h6)))))), ?_⟩
 refine ⟨_, rfl, pen, _, _, _, rfl, rfl, SqL.of hp, rfl, ?_⟩
 refine ⟨_, rfl, _, _, rfl, rfl, _, rfl, pen, _, _, _, rfl, rfl, hp, rfl, ?_⟩
 have hS := pn.scr _ (za2 (pen := pen) (H := H) (.lst [.ref sp, .int (k + 1)]))
 have hp1 : L2.upd H pen (.lst [.ref sp, .int (k + 1)]) pen = some (.lst [.ref sp, .int (k + 1)]) := zad
 refine ⟨_, rfl, pen, _, _, _, rfl, rfl, SqL.of hp1, rfl, ?_⟩
 refine ⟨_, rfl, _, rfl, sp, _, rfl, .inl hS, _, _, rfl, rfl, _, rfl, ?_⟩
 refine zc0 (fun c => ?_) (fun c => ?_)
 ·have c' : k < ((ns.map V.int).length : Nat) := of_decide_eq_true c
  rw [el] at c'
  obtain ⟨v, hv⟩ := item k k0 c'
  exact ⟨_, rfl, _, rfl, sp, _, _, _, rfl, rfl, hS, hv, _, rfl, _, _, rfl, rfl, m0, q _ (Int.emod_nonneg _ (by omega)) (Int.emod_lt_of_pos _ m0)⟩
 refine ⟨_, rfl, _, rfl, _, _, rfl, rfl, (by unfold CMul; omega), _, rfl, _, _, rfl, rfl, .inl ⟨by decide, by decide⟩, _, _, rfl, rfl, _, _, rfl, rfl, ?_⟩
 refine ⟨_, rfl, sp, _, rfl, .inl hS, _, _, rfl, rfl, _, rfl, ?_⟩
 refine zc0 (fun c2 => ?_) (fun c2 => ?_)
 ·have c2' : (0 : Int) < ((ns.map V.int).length : Nat) := of_decide_eq_true c2
  rw [el] at c2'
  have m0' : 0 ≤ (5 * k + 2) % (ns.length : Int) := Int.emod_nonneg _ (by omega)
  have m1' : (5 * k + 2) % (ns.length : Int) < ns.length := Int.emod_lt_of_pos _ c2'
  obtain ⟨v, hv⟩ := item _ m0' m1'
  have v0 : 0 ≤ v % 2147483629 := Int.emod_nonneg _ (by decide)
  have v1 : v % 2147483629 < 2147483629 := Int.emod_lt_of_pos _ (by decide)
  refine ⟨_, rfl, _, rfl, _, rfl, _, _, rfl, rfl, .inl ⟨by decide, by decide⟩, _, _, rfl, rfl, _, rfl, sp, _, rfl, .inl hS, _, _, rfl, rfl, (by rw [el]; exact c2'), sp, _, _, _, rfl, rfl, hS, (by rw [el]; exact hv), ?_⟩
  refine ⟨_, _, rfl, rfl, (by show (0 : Int) < 2147483629; decide), _, _, rfl, rfl, .inr ⟨by decide, by decide⟩, _, _, rfl, rfl, ?_⟩
  exact r6 _ _ _ _ (by omega) (by omega)
 ·exact r6 _ _ _ _ (by omega) (by omega)
end
section
variable {P : Program} {w : World} {K : PySem.W.Frag} {mg : Str → Option Value} {base : Heap} {a : Adr} {d : Fds}
theorem zla (T : Txt K mg a d) : zbi P w K mg base CX0 3 a.f_law_bough d.f_law_bough ["_law_state", "_law_up", "_law_kids"] (zrs K) := by
 have G_law_take := zdv (P := P) (w := w) (base := base) T
 refine T.K_law_bough.ok sc_law_bough (fun vs H Q E h => ?_) (fun cdv A outer s H vs Q E hr h => ?_)
 ·obtain ⟨pen, sp, ns, tk, u, kids, m, k, rfl, _⟩ := h
  rfl
 obtain ⟨pen, sp, ns, tk, u, kids, m, k, rfl, pn, k0, k1, hk, kl, u0, kne, ris, q⟩ := h
 have el : (kids.map V.int).length = kids.length := List.length_map _
 have kp := List.length_pos_iff.mpr kne
 have done : ∀ (lo hi k' : Int) (H1 : Hp), SameX pen H H1 → H1 pen = some (.lst [.ref sp, .int k']) → k ≤ k' → k' ≤ k + 3 → 0 ≤ lo → lo ≤ hi → 1 ≤ hi → hi ≤ kids.length → ∀ tb, H1 tb = none → Q (.ref tb) (L2.upd H1 tb (.tup [.int u, .int lo, .int hi, .ref tk])) := by
  intro lo hi k' H1 sx hp kk0 kk1 l0 l1 h1 h2 tb htb
  have s1 := zag htb (.tup [.int u, .int lo, .int hi, .ref tk])
  refine q (zq3 u lo hi kids) _ k' _ (sx.trans (Same.x s1)) (s1 _ _ hp) kk0 kk1 ?_ (zuu u0 kne ris l0 l1 h1 h2) (zly _ _ _ _ (by omega)) (zrx _ _ _ _)
  exact ⟨tb, _, rfl, zad, _, _, rfl, rfl, _, _, rfl, rfl, _, _, rfl, rfl, _, _, rfl, ⟨tk, _, rfl, s1 _ _ (SameX.tup pn.at_ sx _ _ hk), zmi kids⟩, rfl⟩
 refine ⟨_, (zaf (zau (i := 3) sc_law_bough.nd rfl (Or.inl rfl) (zaw (zde (K := K)) rfl T.m_len PySem.boot_len (zaa (pv 2) zac)))
   (zaf (zau (i := 4) sc_law_bough.nd rfl (Or.inl rfl) (zah G_law_take hr.lv rfl T.g_law_take T.K_law_take.kp T.B_law_take .nil zan (zaa (pv 0) (zaa zae zac))))
   (zaf (zbk (zat zb6 (pv 4) zae (zax _)) (zaj (zar (zb7 (zaa (pv 1) (zaa zae (zaa (pv 3) (zaa (pv 2) zac))))))) za1)
   (zaf (zbk (zat zb6 (pv 4) zae (zax _)) (zaj (zar (zb7 (zaa (pv 1) (zaa zae (zaa zae (zaa (pv 2) zac))))))) za1)
   (zaf (zbk (zat zb6 (pv 4) zae (zax _)) (zaj (zar (zb7 (zaa (pv 1) (zaa (pv 3) (zaa (pv 3) (zaa (pv 2) zac))))))) za1)
   (zaf (zau (i := 5) sc_law_bough.nd rfl (Or.inl rfl) (za7 zc9 zae (zah G_law_take hr.lv rfl T.g_law_take T.K_law_take.kp T.B_law_take .nil zan (zaa (pv 0) (zaa (pv 3) zac)))))
   (zaj (zar (zb7 (zaa (pv 1) (zaa (zah G_law_take hr.lv rfl T.g_law_take T.K_law_take.kp T.B_law_take .nil zan (zaa (pv 0) (zaa (za7 zc9 (pv 5) zae) zac))) (zaa (pv 5) (zaa (pv 2) zac))))))))))))), ?_⟩
 refine ⟨_, rfl, tk, _, rfl, .inr (sqT hk), ?_⟩
 rw [el]
 refine ⟨_, rfl, pen, sp, ns, 5, k, rfl, pn, by omega, by omega, by decide, fun w1 w10 w11 => ?_⟩
 have sx1 := za2 (pen := pen) (H := H) (.lst [.ref sp, .int (k + 1)])
 have g1 : L2.upd H pen (.lst [.ref sp, .int (k + 1)]) pen = some (.lst [.ref sp, .int (k + 1)]) := zad
 generalize L2.upd H pen (.lst [.ref sp, .int (k + 1)]) = H1 at sx1 g1 ⊢
 refine ⟨_, rfl, rfl, _, rfl, ?_⟩
 refine zc0 (fun c => ?_) (fun c => ?_)
 ·refine ⟨_, rfl, _, rfl, _, rfl, small (by show 4 ≤ 1000; decide), fun tb htb => ?_⟩
  exact done 0 kids.length (k + 1) H1 sx1 g1 (by omega) (by omega) (by omega) (by omega) (by omega) (by omega) tb htb
 refine ⟨_, rfl, rfl, _, rfl, ?_⟩
 refine zc0 (fun c2 => ?_) (fun c2 => ?_)
 ·refine ⟨_, rfl, _, rfl, small (by show 4 ≤ 1000; decide), fun tb htb => ?_⟩
  exact done 1 1 (k + 1) H1 sx1 g1 (by omega) (by omega) (by omega) (by omega) (by omega) (by omega) tb htb
 refine ⟨_, rfl, rfl, _, rfl, ?_⟩
 refine zc0 (fun c3 => ?_) (fun c3 => ?_)
 ·refine ⟨_, rfl, _, rfl, _, rfl, _, rfl, small (by show 4 ≤ 1000; decide), fun tb htb => ?_⟩
  exact done kids.length kids.length (k + 1) H1 sx1 g1 (by omega) (by omega) (by omega) (by omega) (by omega) (by omega) tb htb
 refine ⟨_, rfl, _, rfl, pen, sp, ns, _, k + 1, rfl, pn.to sx1 g1, by omega, by omega, by omega, fun w2 w20 w21 => ?_⟩
 have sx2 := sx1.trans (za2 (pen := pen) (H := H1) (.lst [.ref sp, .int (k + 1 + 1)]))
 have g2 : L2.upd H1 pen (.lst [.ref sp, .int (k + 1 + 1)]) pen = some (.lst [.ref sp, .int (k + 1 + 1)]) := zad
 generalize L2.upd H1 pen (.lst [.ref sp, .int (k + 1 + 1)]) = H2 at sx2 g2 ⊢
 refine ⟨_, _, rfl, rfl, _, rfl, _, rfl, _, rfl, _, _, rfl, rfl, pen, sp, ns, _, k + 1 + 1, rfl, pn.to sx2 g2, by omega, by omega, by omega, fun w3 w30 w31 => ?_⟩
 have sx3 := sx2.trans (za2 (pen := pen) (H := H2) (.lst [.ref sp, .int (k + 1 + 1 + 1)]))
 have g3 : L2.upd H2 pen (.lst [.ref sp, .int (k + 1 + 1 + 1)]) pen = some (.lst [.ref sp, .int (k + 1 + 1 + 1)]) := zad
 generalize L2.upd H2 pen (.lst [.ref sp, .int (k + 1 + 1 + 1)]) = H3 at sx3 g3 ⊢
 refine ⟨_, rfl, _, rfl, small (by show 4 ≤ 1000; decide), fun tb htb => ?_⟩
 exact done w3 (1 + w2) (k + 1 + 1 + 1) H3 sx3 g3 (by omega) (by omega) (by omega) (by omega) (by omega) (by omega) tb htb
end
section
variable {P : Program} {w : World} {K : PySem.W.Frag} {mg : Str → Option Value} {base : Heap} {a : Adr} {d : Fds}
theorem zjs (T : Txt K mg a d) : zbi P w K mg base CX0 5 a.f_law_boughs d.f_law_boughs ["_law_state", "_law_many"] (zox K) := by
 have G_law_take := zdv (P := P) (w := w) (base := base) T
 have G_law_bough := zla (P := P) (w := w) (base := base) T
 refine T.K_law_boughs.ok sc_law_boughs (fun vs H Q E h => ?_) (fun cdv A outer s H vs Q E hr h => ?_)
 ·obtain ⟨pen, sp, ns, m, k, rfl, _⟩ := h
  rfl
 obtain ⟨pen, sp, ns, m, k, rfl, pn, k0, k1, m1, m9, q⟩ := h
 have p62 : (2 : Int) ^ 62 = 4611686018427387904 := by decide
 refine ⟨_, (zaf (zau (i := 2) sc_law_boughs.nd rfl (Or.inl rfl) (zc4 zac))
   (zaf (ze4 PassesOwn.never rfl (zo8 rfl T.m_range (zaa zae (zaa (pv 1) zac))) (zaz (i := 3) sc_law_boughs.nd rfl (Or.inl rfl)) (zaf (zau (i := 4) sc_law_boughs.nd rfl (Or.inr rfl) (zah G_law_take hr.lv rfl T.g_law_take T.K_law_take.kp T.B_law_take .nil zan (zaa (pv 0) (zaa (pv 3) zac))))
   (zaf (zeq (i := 5) sc_law_boughs.nd rfl rfl rfl (sc0 := zab zbq) (XN := ["_law_state", "_law_many", "_law_groups", "_law_k", "_law_up", "_law_mates"]) (N' := ["_law_group", "_law_up"]) (n := 1) (kp := [4]) rfl (piL (K := K) (pv 2)) rfl rfl (by decide +kernel) (fun _ _ _ _ _ => (zaz (i := 0) (by show List.Nodup (["_law_group", "_law_up"] : List Str); decide +kernel) rfl (Or.inl rfl))) (fun _ _ _ _ _ => (zcf (zat zb6 (zao (ixT (K := K)) (pv 0) zae (fun _ _ => rfl)) (pv 1) (zax _)))) (fun _ _ _ _ _ => (pv 0)))
   (zaj (zbk (PW.pt (zlp (zat zhi (zaw (zde (K := K)) rfl T.m_len PySem.boot_len (zaa (pv 5) zac)) zae (zax _)) (zhz (zat zhi (zah G_law_take hr.lv rfl T.g_law_take T.K_law_take.kp T.B_law_take .nil zan (zaa (pv 0) (zaa zae zac))) zae (zax _))))) (zaj (zdj (zc5 (K := K) PySem.F.plainAttrs_list PySem.F.slot_list_append PySem.F.type_list_append zcy (zao (ixT (K := K)) (zao (ixL (K := K)) (pv 5) (zah G_law_take hr.lv rfl T.g_law_take T.K_law_take.kp T.B_law_take .nil zan (zaa (pv 0) (zaa (zaw (zde (K := K)) rfl T.m_len PySem.boot_len (zaa (pv 5) zac)) zac))) (fun _ _ => rfl)) zae (fun _ _ => rfl)) (zaa (pv 3) zac)))) (zaj (zdj (zc5 (K := K) PySem.F.plainAttrs_list PySem.F.slot_list_insert PySem.F.type_list_insert zpx (pv 2) (zaa (zah G_law_take hr.lv rfl T.g_law_take T.K_law_take.kp T.B_law_take .nil zan (zaa (pv 0) (zaa (za7 zc9 (zaw (zde (K := K)) rfl T.m_len PySem.boot_len (zaa (pv 2) zac)) zae) zac))) (zaa (zb7 (zaa (pv 4) (zaa (zc4 (zaa (pv 3) zac)) zac))) zac))))))))))
   (zaj (zar (zdt (sc0 := zab zbq) (XN := ["_law_state", "_law_many", "_law_groups", "_law_k", "_law_up", "_law_mates"]) (N' := ["_law_up", "_law_kids", "_law_state"]) (n := 2) (kp := [0]) rfl (piL (K := K) (pv 2)) rfl rfl (by decide +kernel) (fun _ _ _ _ _ => (pgT (K := K) (n := 2) rfl (zb8 (zaz (i := 0) (by show List.Nodup (["_law_up", "_law_kids", "_law_state"] : List Str); decide +kernel) rfl (Or.inl rfl)) (zb8 (zaz (i := 1) (by show List.Nodup (["_law_up", "_law_kids", "_law_state"] : List Str); decide +kernel) rfl (Or.inl rfl)) zf7)))) (fun _ _ _ _ _ => ze6) (fun _ _ _ _ _ => (zah G_law_bough hr.lv rfl T.g_law_bough T.K_law_bough.kp T.B_law_bough .nil zan (zaa (pv 2) (zaa (pv 0) (zaa (zbd (zup (K := K)) rfl T.m_tuple PyProof.Rows.boot_tuple (zaa (pv 1) zac)) zac)))))))))), ?_⟩
 refine ⟨small (by decide), fun g hg => ?_⟩
 have ngp : pen ≠ g := zav pn.at_ hg
 refine ⟨_, rfl, _, _, rfl, ⟨by rw [p62]; omega, by rw [p62]; omega, by rw [p62]; omega, by rw [p62]; omega⟩, ?_⟩
 obtain ⟨Pv, hPv⟩ : ∃ Pv : Nat → St → Hp → Prop, ∀ i σ H2, Pv i σ H2 ↔ (∃ (v3 v4 v5 : Option V) (gs : List Grp) (kk : Int), σ = [some (.ref pen), some (.int (m : Int)), some (.ref g), v3, v4, v5] ∧ SameX pen H H2 ∧ H2 pen = some (.lst [.ref sp, .int kk]) ∧ k ≤ kk ∧ kk ≤ k + 4 * i ∧ GAt H H2 g gs ∧ GOk ((i : Int) + 1) gs) := ⟨_, fun _ _ _ => Iff.rfl⟩
 refine zj6 (lo := 1) (n := ((m : Int) - 1).toNat) Pv ((hPv _ _ _).mpr ⟨none, none, none, [], k, rfl, Same.x (zag hg _), (zag hg _) _ _ pn.at_, Int.le_refl _, by omega, ⟨zad, hg, (fun _ z => nomatch z), (fun _ z => nomatch z), List.nodup_nil⟩, ⟨(fun _ z => nomatch z), List.Perm.refl _⟩⟩) ?_ ?_
 ·rintro i σ H2 hi pv0
  obtain ⟨v3, v4, v5, gs, kk, rfl, sx, hp2, kk0, kk1, GA, GK⟩ := (hPv _ _ _).mp pv0
  have few := GK.few
  have i9 : (i : Int) < 9 := by omega
  have el : ∀ l : List Grp, (l.map fun x => V.ref x.t).length = l.length := fun l => List.length_map _
  have e1 : 1 + (i : Int) = (i : Int) + 1 := by omega
  have e2 : ((i + 1 : Nat) : Int) + 1 = (i : Int) + 2 := by omega
  refine ⟨_, rfl, _, rfl, pen, sp, ns, _, kk, rfl, pn.to sx hp2, by omega, by omega, by omega, fun u u0 u1 => ?_⟩
  have sx4 := sx.trans (za2 (pen := pen) (H := H2) (.lst [.ref sp, .int (kk + 1)]))
  have GA4 := GA.pen (ys := [.ref sp, .int (kk + 1)]) ⟨_, pn.at_⟩ hp2
  have hp4 : L2.upd H2 pen (.lst [.ref sp, .int (kk + 1)]) pen = some (.lst [.ref sp, .int (kk + 1)]) := zad
  generalize L2.upd H2 pen (.lst [.ref sp, .int (kk + 1)]) = H4 at sx4 GA4 hp4 ⊢
  refine ⟨_, rfl, g, rfl, ⟨_, SqL.of GA4.at_⟩, ?_⟩
  refine zdf (K := K) (a := g) (xs := gs.map fun x => V.ref x.t) (fun j ys σ H5 => (∃ v, σ = [v, some (.int u)]) ∧ H5 = H4 ∧ ys = ((gs.take j).filter fun x => decide (x.up = u)).map fun x => V.ref x.t) ⟨⟨none, rfl⟩, rfl, rfl⟩ (fun j ys σ H5 hj pv => ?_) (fun j ys σ H5 hj pv => ?_) (fun j x ys σ H5 hx pv => ?_) (fun ys σ H5 pv ol hol => ?_)
  ·obtain ⟨_, _, rfl⟩ := pv
   rw [el]
   have := List.length_filter_le (fun x : Grp => decide (x.up = u)) (gs.take j)
   rw [List.length_take] at this
   exact small (by omega)
  ·rw [pv.2.1]
   exact SqL.of GA4.at_
  ·obtain ⟨⟨v, rfl⟩, rfl, rfl⟩ := pv
   rw [List.getElem?_map] at hx
   obtain ⟨y, hy, rfl⟩ := Option.map_eq_some_iff.mp hx
   have et : gs.take (j + 1) = gs.take j ++ [y] := by rw [List.take_add_one, hy, Option.toList_some]
   refine ⟨_, rfl, y.t, _, _, _, rfl, rfl, sqT (GA4.tup y (List.mem_of_getElem? hy)), at0, _, rfl, rfl, _, rfl, ?_⟩
   by_cases cc : y.up = u
   ·refine zep (by rw [cc]) ?_
    refine ⟨_, rfl, ⟨_, rfl⟩, rfl, ?_⟩
    rw [et, List.filter_append, List.filter_cons_of_pos (by simpa using cc), List.map_append]
    rfl
   ·refine zcm (fun z => cc (by injection z)) ?_
    refine ⟨⟨_, rfl⟩, rfl, ?_⟩
    rw [et, List.filter_append, List.filter_cons_of_neg (by simpa using cc), List.filter_nil, List.append_nil]
  obtain ⟨_, rfl, rfl⟩ := pv
  have nop : ol ≠ pen := Ne.symm (zav hp4 hol)
  rw [el, List.take_length] at *
  generalize hold : gs.filter (fun x => decide (x.up = u)) = old at *
  have omem : ∀ x ∈ old, x ∈ gs := fun x hx => by rw [← hold] at hx; exact (List.mem_filter.mp hx).1
  have lox : old.length ≤ gs.length := by rw [← hold]; exact List.length_filter_le _ _
  have s6 := zag hol (.lst (old.map fun x => V.ref x.t))
  have GA7 := GA4.same s6
  have hp7 := s6 _ _ hp4
  have sx7 := sx4.trans (Same.x s6)
  have hol7 : L2.upd H5 ol (.lst (old.map fun x => V.ref x.t)) ol = some (.lst (old.map fun x => V.ref x.t)) := zad
  generalize L2.upd H5 ol (.lst (old.map fun x => V.ref x.t)) = H7 at s6 GA7 hp7 sx7 hol7 ⊢
  refine ⟨_, rfl, ol, _, rfl, .inl (SqL.of hol7), _, _, rfl, rfl, _, rfl, ?_⟩
  rw [el]
  have new : ∀ (k3 : Int) (H8 : Hp) (v5 : Option V), k ≤ k3 → k3 ≤ k + 4 * i + 4 → SameX pen H H8 → H8 pen = some (.lst [.ref sp, .int k3]) → GAt H H8 g gs → ∀ (nl nt : Addr) (j : Nat), H8 nl = none → L2.upd H8 nl (.lst [.int (1 + (i : Int))]) nt = none → j ≤ gs.length →
    Pv (i + 1) [some (.ref pen), some (.int (m : Int)), some (.ref g), some (.int (1 + (i : Int))), some (.int u), v5] (L2.upd (L2.upd (L2.upd H8 nl (.lst [.int (1 + (i : Int))])) nt (.tup [.int u, .ref nl])) g (.lst ((gs.map fun x => V.ref x.t).take j ++ V.ref nt :: (gs.map fun x => V.ref x.t).drop j))) := by
   intro k3 H8 v5 k30 k31 sx8 hp8 GA8 nl nt j hnl hnt hj
   have s9 := (zag hnl (.lst [.int (1 + (i : Int))])).trans (zag hnt (.tup [.int u, .ref nl]))
   rw [← List.map_take, ← List.map_drop]
   refine (hPv _ _ _).mpr ⟨_, _, _, gs.take j ++ ⟨nt, u, nl, [1 + (i : Int)]⟩ :: gs.drop j, k3, rfl, SameX.put (sx8.trans (Same.x s9)) hg (Ne.symm ngp) (s9 _ _ GA8.at_), ?_, k30, by push_cast; omega, ?_, ?_⟩
   ·rw [zam ngp]
    exact s9 _ _ hp8
   ·exact GAt.ins (pre := gs.take j) (post := gs.drop j) (by rw [List.take_append_drop]; exact GA8) (sx8.free ⟨_, hp8⟩ hnl) hnl hnt
   ·rw [e2, e1]
    exact GOk.ins (k := i) (by rw [List.take_append_drop]; exact GK) u0 (by omega)
  by_cases c5 : old = []
  ·refine zgi (by rw [c5]; rfl) ?_
   refine zf8 ?_
   refine ⟨_, rfl, .inl ⟨rfl, _, SqL.of GA7.at_⟩, _, rfl, _, rfl, g, _, rfl, .inl (SqL.of GA7.at_), ?_⟩
   refine ⟨_, _, rfl, rfl, pen, sp, ns, _, kk + 1, rfl, pn.to sx7 hp7, by omega, by omega, (by rw [el]; omega), fun j j0 j1 => ?_⟩
   rw [el] at j1
   have sx8 := sx7.trans (za2 (pen := pen) (.lst [.ref sp, .int (kk + 1 + 1)]))
   have GA8 := GA7.pen (ys := [.ref sp, .int (kk + 1 + 1)]) ⟨_, pn.at_⟩ hp7
   have hp8 : L2.upd H7 pen (.lst [.ref sp, .int (kk + 1 + 1)]) pen = some (.lst [.ref sp, .int (kk + 1 + 1)]) := zad
   generalize L2.upd H7 pen (.lst [.ref sp, .int (kk + 1 + 1)]) = H8 at sx8 GA8 hp8 ⊢
   refine ⟨_, rfl, _, rfl, small (by show 1 ≤ 1000; decide), fun nl hnl => ?_⟩
   refine ⟨small (by show 2 ≤ 1000; decide), fun nt hnt => ?_⟩
   have s9 := (zag hnl (.lst [.int (1 + (i : Int))])).trans (zag hnt (.tup [.int u, .ref nl]))
   refine ⟨g, _, _, _, rfl, rfl, s9 _ _ GA8.at_, j0, (by rw [el]; omega), (by rw [el]; exact zcg (by omega)), ?_⟩
   exact new (kk + 1 + 1) H8 _ (by omega) (by omega) sx8 hp8 GA8 nl nt j.toNat hnl hnt (by omega)
  ·have lo1 : 0 < old.length := List.length_pos_iff.mpr c5
   refine zjq (decide_eq_true (show ((old.length : Nat) : Int) > 0 by omega)) ?_
   refine ⟨_, rfl, pen, sp, ns, 3, kk + 1, rfl, pn.to sx7 hp7, by omega, by omega, by decide, fun e e0 e1' => ?_⟩
   have sx8 := sx7.trans (za2 (pen := pen) (.lst [.ref sp, .int (kk + 1 + 1)]))
   have GA8 := GA7.pen (ys := [.ref sp, .int (kk + 1 + 1)]) ⟨_, pn.at_⟩ hp7
   have hp8 : L2.upd H7 pen (.lst [.ref sp, .int (kk + 1 + 1)]) pen = some (.lst [.ref sp, .int (kk + 1 + 1)]) := zad
   have hol8 : L2.upd H7 pen (.lst [.ref sp, .int (kk + 1 + 1)]) ol = some (.lst (old.map fun x => V.ref x.t)) := by rw [zam nop]; exact hol7
   generalize L2.upd H7 pen (.lst [.ref sp, .int (kk + 1 + 1)]) = H8 at sx8 GA8 hp8 hol8 ⊢
   refine ⟨_, _, rfl, rfl, _, rfl, ?_⟩
   refine zc0 (fun c6 => ?_) (fun c6 => ?_)
   ·refine ⟨_, rfl, _, rfl, _, rfl, ol, _, rfl, .inl (SqL.of hol8), ?_⟩
    rw [el]
    refine ⟨pen, sp, ns, _, kk + 1 + 1, rfl, pn.to sx8 hp8, by omega, by omega, by omega, fun jj j0 j1 => ?_⟩
    obtain ⟨jn, rfl⟩ : ∃ jn : Nat, jj = (jn : Int) := ⟨jj.toNat, by omega⟩
    have sx9 := sx8.trans (za2 (pen := pen) (.lst [.ref sp, .int (kk + 1 + 1 + 1)]))
    have GA9 := GA8.pen (ys := [.ref sp, .int (kk + 1 + 1 + 1)]) ⟨_, pn.at_⟩ hp8
    have hp9 : L2.upd H8 pen (.lst [.ref sp, .int (kk + 1 + 1 + 1)]) pen = some (.lst [.ref sp, .int (kk + 1 + 1 + 1)]) := zad
    have hol9 : L2.upd H8 pen (.lst [.ref sp, .int (kk + 1 + 1 + 1)]) ol = some (.lst (old.map fun x => V.ref x.t)) := by rw [zam nop]; exact hol8
    generalize L2.upd H8 pen (.lst [.ref sp, .int (kk + 1 + 1 + 1)]) = H9 at sx9 GA9 hp9 hol9 ⊢
    obtain ⟨x, hxo⟩ : ∃ x, old[jn]? = some x := ⟨_, List.getElem?_eq_getElem (by omega)⟩
    have hx := omem x (List.mem_of_getElem? hxo)
    obtain ⟨pre, post, egs⟩ := List.append_of_mem hx
    have ty := GA9.tup x hx
    have ly := GA9.lst x hx
    refine ⟨ol, _, _, .ref x.t, rfl, rfl, SqL.of hol9, zc8 (by rw [List.getElem?_map, hxo]; rfl), x.t, _, _, _, rfl, rfl, sqT ty, at1, .inl ⟨rfl, _, SqL.of ly.1⟩, _, rfl, x.l, _, _, rfl, rfl, ly.1, ?_, ?_⟩
    ·have h1 := GK.perm.length_eq
     rw [List.length_map, List.length_range', egs, List.flatMap_append, List.flatMap_cons, List.length_append, List.length_append] at h1
     rw [List.length_map]
     exact zcg (by omega)
    have G9 : GAt H _ g _ := GAt.put (k := 1 + (i : Int)) (pre := pre) (post := post) (x := x) (by rw [← egs]; exact GA9)
    refine (hPv _ _ _).mpr ⟨_, _, _, _, kk + 1 + 1 + 1, rfl, SameX.put sx9 ly.2.1 (fun z => by have := pn.at_; rw [← z, ly.2.1] at this; cases this) ly.1, ?_, by omega, by push_cast; omega, G9, ?_⟩
    ·rw [zam (fun z => by have := pn.at_; rw [z, ly.2.1] at this; cases this)]
     exact hp9
    ·rw [e2, e1]
     exact GOk.put (k := i) (by rw [← egs]; exact GK)
   ·refine ⟨_, rfl, .inl ⟨rfl, _, SqL.of GA8.at_⟩, _, rfl, _, rfl, g, _, rfl, .inl (SqL.of GA8.at_), ?_⟩
    refine ⟨_, _, rfl, rfl, pen, sp, ns, _, kk + 1 + 1, rfl, pn.to sx8 hp8, by omega, by omega, (by rw [el]; omega), fun j j0 j1 => ?_⟩
    rw [el] at j1
    have sx9 := sx8.trans (za2 (pen := pen) (.lst [.ref sp, .int (kk + 1 + 1 + 1)]))
    have GA9 := GA8.pen (ys := [.ref sp, .int (kk + 1 + 1 + 1)]) ⟨_, pn.at_⟩ hp8
    have hp9 : L2.upd H8 pen (.lst [.ref sp, .int (kk + 1 + 1 + 1)]) pen = some (.lst [.ref sp, .int (kk + 1 + 1 + 1)]) := zad
    generalize L2.upd H8 pen (.lst [.ref sp, .int (kk + 1 + 1 + 1)]) = H9 at sx9 GA9 hp9 ⊢
    refine ⟨_, rfl, _, rfl, small (by show 1 ≤ 1000; decide), fun nl hnl => ?_⟩
    refine ⟨small (by show 2 ≤ 1000; decide), fun nt hnt => ?_⟩
    have s10 := (zag hnl (.lst [.int (1 + (i : Int))])).trans (zag hnt (.tup [.int u, .ref nl]))
    refine ⟨g, _, _, _, rfl, rfl, s10 _ _ GA9.at_, j0, (by rw [el]; omega), (by rw [el]; exact zcg (by omega)), ?_⟩
    exact new (kk + 1 + 1 + 1) H9 _ (by omega) (by omega) sx9 hp9 GA9 nl nt j.toNat hnl hnt (by omega)
 ·rintro σ H2 pv0
  obtain ⟨v3, v4, v5, gs, kk, rfl, sx, hp2, kk0, kk1, GA, GK⟩ := (hPv _ _ _).mp pv0
  have em : (((m : Int) - 1).toNat : Int) + 1 = (m : Int) := by omega
  rw [em] at GK
  have few := GK.few
  have el : (gs.map fun x => V.ref x.t).length = gs.length := List.length_map _
  refine ⟨_, rfl, g, rfl, ⟨_, SqL.of GA.at_⟩, ?_⟩
  refine zdf (K := K) (a := g) (xs := gs.map fun x => V.ref x.t) (fun j ys σ H3 => (∃ v v', σ = [v, v', some (.ref pen)]) ∧ SameX pen H2 H3 ∧ ∃ (kc : Int) (bs : List PyData), H3 pen = some (.lst [.ref sp, .int kc]) ∧ kk ≤ kc ∧ kc ≤ kk + 3 * j ∧ DnL H3 bs ys ∧ bs.length = j ∧ (∀ b ∈ bs, zey m b = true) ∧ bs.flatMap zlo = (gs.take j).flatMap (·.kids) ∧ bs.all (zbh 3) = true) ⟨⟨none, none, rfl⟩, SameX.refl _ _, kk, [], hp2, Int.le_refl _, by omega, rfl, rfl, (fun _ z => nomatch z), rfl, rfl⟩ (fun j ys σ H3 hj pv => ?_) (fun j ys σ H3 hj pv => ?_) (fun j y ys σ H3 hy pv => ?_) (fun ys σ H3 pv l1 hl1 => ?_)
  ·obtain ⟨_, _, kc, bs, _, _, _, dn, ln, _⟩ := pv
   rw [← dn.length, ln]
   exact small (by rw [el] at hj; omega)
  ·exact SqL.of (pv.2.1 _ _ (Ne.symm ngp) GA.at_)
  ·obtain ⟨⟨v, v', rfl⟩, sx3, kc, bs, hp3, kc0, kc1, dn, ln, okb, ki, fl⟩ := pv
   rw [List.getElem?_map] at hy
   obtain ⟨x, hx', rfl⟩ := Option.map_eq_some_iff.mp hy
   have hm := List.mem_of_getElem? hx'
   have hj : j < gs.length := (List.getElem?_eq_some_iff.mp hx').1
   have lx := GA.lst x hm
   have nlp : x.l ≠ pen := fun z => by have := pn.at_; rw [← z, lx.2.1] at this; cases this
   have hxl := sx3 _ _ nlp lx.1
   have gx := GK.each x hm
   have kl : x.kids.length ≤ 9 := by
    have pk := GK.perm.length_eq
    rw [List.length_map, List.length_range'] at pk
    obtain ⟨l1, l2, e⟩ := List.append_of_mem hm
    rw [e, List.flatMap_append, List.flatMap_cons, List.length_append, List.length_append] at pk
    omega
   refine ⟨x.t, _, rfl, sqT ((SameX.tup hp2 sx3) _ _ (GA.tup x hm)), rfl, _, _, rfl, _, _, rfl, rfl, ?_⟩
   refine ⟨_, rfl, _, rfl, _, rfl, x.l, _, rfl, .inl ⟨SqL.of hxl, fun tk htk => ?_⟩⟩
   have s4 := zag htk (.tup (x.kids.map V.int))
   have g4 : L2.upd H3 tk (.tup (x.kids.map V.int)) tk = some (.tup (x.kids.map V.int)) := zad
   have dn4 := DnL.same s4 _ _ dn
   generalize L2.upd H3 tk (.tup (x.kids.map V.int)) = H4 at s4 g4 dn4 ⊢
   have sx4 := sx3.trans (Same.x s4)
   refine ⟨pen, sp, ns, tk, x.up, x.kids, (m : Int), kc, rfl, pn.to (sx.trans sx4) (s4 _ _ hp3), by omega, by omega, g4, kl, gx.1, gx.2.1, gx.2.2, fun d v k' H5 sx5 hp5 k50 k51 dv okd fd kd => ?_⟩
   refine ⟨⟨_, _, rfl⟩, sx4.trans sx5, k', bs ++ [d], hp5, by omega, by push_cast; omega, (DnL.tupS (SameX.tup (s4 _ _ hp3) sx5) fl dn4).append ⟨v, [], rfl, dv, rfl⟩, by rw [List.length_append, List.length_singleton, ln], fun b hb => ?_, ?_, ?_⟩
   ·rcases List.mem_append.mp hb with z | z
    ·exact okb b z
    ·rw [List.mem_singleton.mp z]
     exact okd
   ·rw [List.flatMap_append, ki, zld hx']
    simp [kd]
   ·rw [List.all_append, fl]
    simp [fd]
  ·obtain ⟨_, sx3, kc, bs, hp3, kc0, kc1, dn, ln, okb, ki, fl⟩ := pv
   rw [el] at ln kc1 ki
   rw [List.take_length] at ki
   have s4 := zag hl1 (.lst ys)
   exact q l1 bs ys kc _ ((sx.trans sx3).trans (Same.x s4)) (s4 _ _ hp3) (by omega) (by omega) zad ((sx.trans sx3).free ⟨_, hp3⟩ hl1) (DnL.same s4 _ _ dn) ⟨okb, by rw [ki]; exact GK.perm⟩ (by omega) fl
end
section
variable {P : Program} {w : World} {K : PySem.W.Frag} {mg : Str → Option Value} {base : Heap} {a : Adr} {d : Fds}
theorem zmv (T : Txt K mg a d) : zbi P w K mg base CX0 2 a.f_law_most d.f_law_most ["_law_state", "_law_many"] (zmo K) := by
 have G_law_take := zdv (P := P) (w := w) (base := base) T
 refine T.K_law_most.ok sc_law_most (fun vs H Q E h => ?_) (fun cdv A outer s H vs Q E hr h => ?_)
 ·obtain ⟨pen, sp, ns, m, k, rfl, _⟩ := h
  rfl
 obtain ⟨pen, sp, ns, m, k, rfl, pn, k0, k1, m1, m9, q⟩ := h
 have p62 : (2 : Int) ^ 62 = 4611686018427387904 := by decide
 have p64 : (2 : Int) ^ 64 = 18446744073709551616 := by decide
 obtain ⟨ct4, ch4, cu4⟩ := zsl (X := (zd5 CX0 P w K mg base ["_law_state", "_law_many", "_law_far", "_law_pairs", "_law_k"] "_law_most" (zab zcd) a.f_law_most cdv A outer s H E).nox) (st := (zai zcd).drop 4) (zaj (zar (zb7 (zaa zcs (zaa (za7 zfn (pv 2) (za7 zhg (zah G_law_take hr.lv rfl T.g_law_take T.K_law_take.kp T.B_law_take .nil zan (zaa (pv 0) (zaa zae zac))) zae)) (zaa (zbd zb1 rfl T.m_tuple PyProof.Rows.boot_tuple (zaa (pv 3) zac)) zac))))))
 refine ⟨_, (zaf (zau (i := 2) sc_law_most.nd rfl (Or.inl rfl) (zao (ixL (K := K)) (zc4 (zaa zae (zaa (za7 zto zae zae) zac))) (zbd zkc rfl T.m_int PyProof.Rows.boot_int (zaa (zcz zb6 (zah G_law_take hr.lv rfl T.g_law_take T.K_law_take.kp T.B_law_take .nil zan (zaa (pv 0) (zaa zae zac))) zae (zax _)) zac)) (fun _ _ => rfl)))
   (zaf (zau (i := 3) sc_law_most.nd rfl (Or.inl rfl) (zc4 zac))
   (zaf (ze4 PassesOwn.never rfl (zdq rfl T.m_range (zaa (pv 1) zac)) (zaz (i := 4) sc_law_most.nd rfl (Or.inl rfl)) (zaj (zbk (zat zb6 (zah G_law_take hr.lv rfl T.g_law_take T.K_law_take.kp T.B_law_take .nil zan (zaa (pv 0) (zaa zae zac))) zae (zax _)) (zaj (zdj (zc5 (K := K) PySem.F.plainAttrs_list PySem.F.slot_list_append PySem.F.type_list_append zcy (pv 3) (zaa (zb7 (zaa (pv 4) (zaa (za7 zfn (pv 2) (za7 zhg (zah G_law_take hr.lv rfl T.g_law_take T.K_law_take.kp T.B_law_take .nil zan (zaa (pv 0) (zaa zae zac))) zae)) zac))) zac)))) za1)))
   (zaf (zbk (zat zb6 (zaw (zde (K := K)) rfl T.m_len PySem.boot_len (zaa (pv 3) zac)) zae (zax _)) (zaj (zdj (zc5 (K := K) PySem.F.plainAttrs_list PySem.F.slot_list_append PySem.F.type_list_append zcy (pv 3) (zaa (zb7 (zaa (zah G_law_take hr.lv rfl T.g_law_take T.K_law_take.kp T.B_law_take .nil zan (zaa (pv 0) (zaa (pv 1) zac))) (zaa (za7 zfn (pv 2) (za7 zhg (zah G_law_take hr.lv rfl T.g_law_take T.K_law_take.kp T.B_law_take .nil zan (zaa (pv 0) (zaa zae zac))) zae)) zac))) zac)))) za1)
   ch4)))), ?_⟩
 refine ⟨_, _, rfl, rfl, ⟨by decide, by decide, by decide⟩, small (by show 2 ≤ 1000; decide), fun fl hfl => ?_⟩
 have sf := zag hfl (.lst [.int 1, .int (10 ^ (58 : Int).toNat)])
 have gf : L2.upd H fl (.lst [.int 1, .int (10 ^ (58 : Int).toNat)]) fl = some (.lst [.int 1, .int (10 ^ (58 : Int).toNat)]) := zad
 have pn1 := pn.same sf
 have x1 := Same.x (pen := pen) sf
 have nfp : fl ≠ pen := fun z => by rw [z, pn.at_] at hfl; cases hfl
 generalize L2.upd H fl (.lst [.int 1, .int (10 ^ (58 : Int).toNat)]) = H1 at sf gf pn1 x1 ⊢
 refine ⟨_, rfl, pen, sp, ns, 6, k, rfl, pn1, by omega, by omega, by decide, fun w1 w10 w11 => ?_⟩
 have x2 := x1.trans (za2 (pen := pen) (H := H1) (.lst [.ref sp, .int (k + 1)]))
 have g2 : L2.upd H1 pen (.lst [.ref sp, .int (k + 1)]) pen = some (.lst [.ref sp, .int (k + 1)]) := zad
 have g2f : L2.upd H1 pen (.lst [.ref sp, .int (k + 1)]) fl = some (.lst [.int 1, .int (10 ^ (58 : Int).toNat)]) := by rw [zam nfp]; exact gf
 generalize L2.upd H1 pen (.lst [.ref sp, .int (k + 1)]) = H2 at x2 g2 g2f ⊢
 refine ⟨rfl, .inr ⟨_, rfl, ?_⟩⟩
 obtain ⟨far, hat⟩ : ∃ far : Int, atI [V.int 1, V.int (10 ^ (58 : Int).toNat)] (if decide (V.int w1 = V.int 0) = true then 1 else 0) = some (.int far) := by
  split
  ·exact ⟨_, rfl⟩
  ·exact ⟨_, rfl⟩
 refine ⟨fl, _, _, _, rfl, rfl, SqL.of g2f, hat, ?_⟩
 refine ⟨small (by show 0 ≤ 1000; decide), fun pl hpl => ?_⟩
 have s3 := zag hpl (.lst [])
 have g3 : L2.upd H2 pl (.lst []) pl = some (.lst []) := zad
 have g3p := s3 _ _ g2
 have npp : pl ≠ pen := fun z => by rw [z, g2] at hpl; cases hpl
 have npH : H pl = none := x2.free ⟨_, g2⟩ hpl
 generalize L2.upd H2 pl (.lst []) = H3 at s3 g3 g3p ⊢
 have x3 := x2.trans (Same.x (pen := pen) s3)
 have tail : ∀ (v4 : Option V) (kc : Int) (ps : List PyData) (xs : List V) (H4 : Hp), SameX pen H H4 → H4 pen = some (.lst [.ref sp, .int kc]) → k ≤ kc → kc ≤ k + 25 → H4 pl = some (.lst xs) → PairsTo H4 m ps xs → 0 < ps.length → ct4 { nx := fun _ H' => Q .non H', rt := Q } [some (.ref pen), some (.int (m : Int)), some (.int far), some (.ref pl), v4] H4 := by
  intro v4 kc ps xs H4 x4 hp4 kc0 kc1 hl4 pt p0
  refine cu4 _ _ _ ?_
  refine ⟨_, rfl, _, rfl, pen, sp, ns, 24, kc, rfl, pn.to x4 hp4, by omega, by omega, by decide, fun y y0 y1 => ?_⟩
  have x5' := za2 (pen := pen) (H := H4) (.lst [.ref sp, .int (kc + 1)])
  have x5 := x4.trans x5'
  have g5 : L2.upd H4 pen (.lst [.ref sp, .int (kc + 1)]) pen = some (.lst [.ref sp, .int (kc + 1)]) := zad
  have g5l : L2.upd H4 pen (.lst [.ref sp, .int (kc + 1)]) pl = some (.lst xs) := by rw [zam npp]; exact hl4
  have pt5 := pt.tupS (SameX.tup hp4 x5')
  generalize L2.upd H4 pen (.lst [.ref sp, .int (kc + 1)]) = H5 at x5 g5 g5l pt5 x5' ⊢
  refine ⟨_, _, rfl, rfl, _, _, rfl, rfl, .inr ⟨by rw [p64]; omega, by rw [p64]; omega⟩, _, rfl, pl, _, rfl, .inl ⟨SqL.of g5l, fun tk htk => ?_⟩⟩
  refine ⟨small (by show 3 ≤ 1000; decide), fun tt htt => ?_⟩
  have sa := zag htk (.tup xs)
  have sb := zag htt (.tup [.str ("most" : Str), .int (far * (y - 4)), .ref tk])
  have sab := sa.trans sb
  have fw := pt.few
  exact q (.tuple [.str ("most" : Str), .int (far * (y - 4)), .tuple ps]) _ (kc + 1) _ (x5.trans (Same.x sab)) (sab _ _ g5) (by omega) (by omega) ⟨tt, _, rfl, zad, _, _, rfl, rfl, _, _, rfl, rfl, _, _, rfl, ⟨tk, _, rfl, sb _ _ zad, DnL.same sab _ _ pt5.dn⟩, rfl⟩ (zro pt.ok pt.ris p0) (zjv (m := m) pt.flat (by omega))
 refine ⟨_, rfl, _, rfl, by rw [p62]; omega, by rw [p62]; omega, ?_⟩
 rw [Int.toNat_natCast]
 refine zi8 (n := m) (fun i σ H4 => ∃ (v4 : Option V) (kc : Int) (ps : List PyData) (xs : List V), σ = [some (.ref pen), some (.int (m : Int)), some (.int far), some (.ref pl), v4] ∧ SameX pen H H4 ∧ H4 pen = some (.lst [.ref sp, .int kc]) ∧ k ≤ kc ∧ kc ≤ k + 1 + 2 * i ∧ H4 pl = some (.lst xs) ∧ PairsTo H4 i ps xs) ⟨none, k + 1, [], [], rfl, x3, g3p, by omega, by omega, g3, ⟨rfl, rfl, rfl, rfl, Nat.le_refl _⟩⟩ ?_ ?_
 ·rintro i σ H4 hi ⟨v4, kc, ps, xs, rfl, x4, hp4, kc0, kc1, hl4, pt⟩
  refine ⟨_, rfl, pen, sp, ns, 2, kc, rfl, pn.to x4 hp4, by omega, by omega, by decide, fun y y0 y1 => ?_⟩
  have x5' := za2 (pen := pen) (H := H4) (.lst [.ref sp, .int (kc + 1)])
  have x5 := x4.trans x5'
  have g5 : L2.upd H4 pen (.lst [.ref sp, .int (kc + 1)]) pen = some (.lst [.ref sp, .int (kc + 1)]) := zad
  have g5l : L2.upd H4 pen (.lst [.ref sp, .int (kc + 1)]) pl = some (.lst xs) := by rw [zam npp]; exact hl4
  have pt5 := pt.tupS (SameX.tup hp4 x5')
  generalize L2.upd H4 pen (.lst [.ref sp, .int (kc + 1)]) = H5 at x5 g5 g5l pt5 x5' ⊢
  refine ⟨rfl, _, rfl, ?_⟩
  refine zc0 (fun _ => ?_) (fun _ => ?_)
  ·refine ⟨_, rfl, .inl ⟨rfl, _, SqL.of g5l⟩, _, rfl, _, rfl, _, rfl, pen, sp, ns, 12, kc + 1, rfl, pn.to x5 g5, by omega, by omega, by decide, fun z z0 z1 => ?_⟩
   have x6' := za2 (pen := pen) (H := H5) (.lst [.ref sp, .int (kc + 1 + 1)])
   have x6 := x5.trans x6'
   have g6 : L2.upd H5 pen (.lst [.ref sp, .int (kc + 1 + 1)]) pen = some (.lst [.ref sp, .int (kc + 1 + 1)]) := zad
   have g6l : L2.upd H5 pen (.lst [.ref sp, .int (kc + 1 + 1)]) pl = some (.lst xs) := by rw [zam npp]; exact g5l
   have pt6 := pt5.tupS (SameX.tup g5 x6')
   generalize L2.upd H5 pen (.lst [.ref sp, .int (kc + 1 + 1)]) = H6 at x6 g6 g6l pt6 x6' ⊢
   refine ⟨_, _, rfl, rfl, _, _, rfl, rfl, .inr ⟨by rw [p64]; omega, by rw [p64]; omega⟩, small (by show 2 ≤ 1000; decide), fun tp htp => ?_⟩
   have s7 := zag htp (.tup [.int (i : Int), .int (far * (z - 3))])
   have g7 : L2.upd H6 tp (.tup [.int (i : Int), .int (far * (z - 3))]) tp = some (.tup [.int (i : Int), .int (far * (z - 3))]) := zad
   have g7l := s7 _ _ g6l
   have pt7 := (pt6.tupS (Same.tup s7)).snoc g7
   have g7p := s7 _ _ g6
   have x7 := x6.trans (Same.x (pen := pen) s7)
   generalize L2.upd H6 tp (.tup [.int (i : Int), .int (far * (z - 3))]) = H7 at s7 g7l pt7 g7p x7 g7 ⊢
   have lx := pt.dn.length
   have fw := pt.few
   refine ⟨pl, _, _, rfl, rfl, g7l, zcg (by omega), ?_⟩
   have tp8 := zet (o' := .lst (xs ++ [.ref tp])) g7l (fun _ z => nomatch z)
   refine ⟨_, kc + 1 + 1, _, _, rfl, SameX.put x7 npH npp g7l, ?_, by omega, by push_cast; omega, zad, pt7.tupS tp8⟩
   rw [zam (Ne.symm npp)]
   exact g7p
  ·exact ⟨_, kc + 1, ps, xs, rfl, x5, g5, by omega, by push_cast; omega, g5l, pt5.up⟩
 ·rintro σ H4 ⟨v4, kc, ps, xs, rfl, x4, hp4, kc0, kc1, hl4, pt⟩
  have lx := pt.dn.length
  refine ⟨_, rfl, pl, _, rfl, .inl (SqL.of hl4), rfl, _, rfl, ?_⟩
  by_cases e : xs = []
  ·refine zep (by rw [e]; rfl) ?_
   have hl4' : H4 pl = some (.lst []) := by rw [hl4, e]
   refine ⟨_, rfl, .inl ⟨rfl, _, SqL.of hl4⟩, _, rfl, _, rfl, pen, sp, ns, (m : Int), kc, rfl, pn.to x4 hp4, by omega, by omega, by omega, fun y y0 y1 => ?_⟩
   have x5' := za2 (pen := pen) (H := H4) (.lst [.ref sp, .int (kc + 1)])
   have x5 := x4.trans x5'
   have g5 : L2.upd H4 pen (.lst [.ref sp, .int (kc + 1)]) pen = some (.lst [.ref sp, .int (kc + 1)]) := zad
   have g5l : L2.upd H4 pen (.lst [.ref sp, .int (kc + 1)]) pl = some (.lst []) := by rw [zam npp]; exact hl4'
   generalize L2.upd H4 pen (.lst [.ref sp, .int (kc + 1)]) = H5 at x5 g5 g5l x5' ⊢
   refine ⟨_, rfl, _, rfl, pen, sp, ns, 12, kc + 1, rfl, pn.to x5 g5, by omega, by omega, by decide, fun z z0 z1 => ?_⟩
   have x6' := za2 (pen := pen) (H := H5) (.lst [.ref sp, .int (kc + 1 + 1)])
   have x6 := x5.trans x6'
   have g6 : L2.upd H5 pen (.lst [.ref sp, .int (kc + 1 + 1)]) pen = some (.lst [.ref sp, .int (kc + 1 + 1)]) := zad
   have g6l : L2.upd H5 pen (.lst [.ref sp, .int (kc + 1 + 1)]) pl = some (.lst []) := by rw [zam npp]; exact g5l
   generalize L2.upd H5 pen (.lst [.ref sp, .int (kc + 1 + 1)]) = H6 at x6 g6 g6l x6' ⊢
   refine ⟨_, _, rfl, rfl, _, _, rfl, rfl, .inr ⟨by rw [p64]; omega, by rw [p64]; omega⟩, small (by show 2 ≤ 1000; decide), fun tp htp => ?_⟩
   have s7 := zag htp (.tup [.int y, .int (far * (z - 3))])
   have g7 : L2.upd H6 tp (.tup [.int y, .int (far * (z - 3))]) tp = some (.tup [.int y, .int (far * (z - 3))]) := zad
   have g7l := s7 _ _ g6l
   have g7p := s7 _ _ g6
   have x7 := x6.trans (Same.x (pen := pen) s7)
   generalize L2.upd H6 tp (.tup [.int y, .int (far * (z - 3))]) = H7 at s7 g7l g7p x7 g7 ⊢
   refine ⟨pl, _, _, rfl, rfl, g7l, zcg (by decide), ?_⟩
   have tp8 := zet (o' := .lst ([] ++ [.ref tp])) g7l (fun _ z => nomatch z)
   refine tail _ (kc + 1 + 1) [.tuple [.int y, .int (far * (z - 3))]] [.ref tp] _ (SameX.put x7 npH npp g7l) ?_ (by omega) (by omega) zad (zpk y0 y1 (tp8 _ _ g7)) (by show 0 < 1; decide)
   rw [zam (Ne.symm npp)]
   exact g7p
  ·refine zcm (fun z => ?_) ?_
   ·injection z with z
    exact e (List.length_eq_zero_iff.mp (by omega))
   have lpos := List.length_pos_iff.mpr e
   exact tail _ kc ps xs H4 x4 hp4 (by omega) (by omega) hl4 pt (by omega)
end
section
variable {P : Program} {w : World} {K : PySem.W.Frag} {mg : Str → Option Value} {base : Heap} {a : Adr} {d : Fds}
theorem zlh (T : Txt K mg a d) : zbi P w K mg base CX0 3 a.f_law_cross d.f_law_cross ["_law_state", "_law_many"] (zqb K) := by
 have G_law_take := zdv (P := P) (w := w) (base := base) T
 have G_law_most := zmv (P := P) (w := w) (base := base) T
 refine T.K_law_cross.ok sc_law_cross (fun vs H Q E h => ?_) (fun cdv A outer s H vs Q E hr h => ?_)
 ·obtain ⟨pen, sp, ns, m, k, rfl, _⟩ := h
  rfl
 obtain ⟨pen, sp, ns, m, k, rfl, pn, k0, k1, m1, m9, q⟩ := h
 refine ⟨_, (zaf (zbk (PW.pt (zke (zat zb6 (pv 1) zae (zax _)) (zkt (zat zb6 (zah G_law_take hr.lv rfl T.g_law_take T.K_law_take.kp T.B_law_take .nil zan (zaa (pv 0) (zaa zae zac))) zae (zax _))))) (zaj (zar (zah G_law_most hr.lv rfl T.g_law_most T.K_law_most.kp T.B_law_most .nil zan (zaa (pv 0) (zaa (pv 1) zac))))) za1)
   (zaf (zau (i := 2) sc_law_cross.nd rfl (Or.inl rfl) (zah G_law_take hr.lv rfl T.g_law_take T.K_law_take.kp T.B_law_take .nil zan (zaa (pv 0) (zaa (pv 1) zac))))
   (zaf (zau (i := 3) sc_law_cross.nd rfl (Or.inl rfl) (za7 zgn (za7 zc9 (za7 zc9 (pv 2) zae) (zah G_law_take hr.lv rfl T.g_law_take T.K_law_take.kp T.B_law_take .nil zan (zaa (pv 0) (zaa (za7 zhg (pv 1) zae) zac)))) (pv 1)))
   (zaj (zar (zb7 (zaa (zao (ixL (K := K)) (zc4 (zaa zcs (zaa zcs zac))) (zah G_law_take hr.lv rfl T.g_law_take T.K_law_take.kp T.B_law_take .nil zan (zaa (pv 0) (zaa zae zac))) (fun _ _ => rfl)) (zaa (pv 2) (zaa (pv 3) zac))))))))), ?_⟩
 have most : ∀ (kc : Int) (H1 : Hp), SameX pen H H1 → H1 pen = some (.lst [.ref sp, .int kc]) → k ≤ kc → kc ≤ k + 1 → ztb (zmo K) [] E0 (zre (zs3 0) (zre (zs3 1) zvd)) [some (.ref pen), some (.int (m : Int)), none, none] H1 Q := by
  intro kc H1 x1 hp1 kc0 kc1
  exact ⟨_, rfl, _, rfl, pen, sp, ns, m, kc, rfl, pn.to x1 hp1, by omega, by omega, m1, m9, fun c v k' H' x' hp' k'0 k'1 dv ti fd => q c v k' H' (x1.trans x') hp' (by omega) (by omega) dv ti fd⟩
 refine ⟨_, rfl, rfl, _, rfl, ?_⟩
 by_cases e : m = 1
 ·refine zep (by rw [e]; rfl) ?_
  exact most k H (SameX.refl _ _) pn.at_ (by omega) (by omega)
 ·refine zcm (fun z => ?_) ?_
  ·injection z with z
   omega
  refine ⟨_, rfl, pen, sp, ns, 3, k, rfl, pn, by omega, by omega, by decide, fun y y0 y1 => ?_⟩
  have x1 := za2 (pen := pen) (H := H) (.lst [.ref sp, .int (k + 1)])
  have g1 : L2.upd H pen (.lst [.ref sp, .int (k + 1)]) pen = some (.lst [.ref sp, .int (k + 1)]) := zad
  generalize L2.upd H pen (.lst [.ref sp, .int (k + 1)]) = H1 at x1 g1 ⊢
  refine ⟨rfl, _, rfl, ?_⟩
  refine zc0 (fun _ => ?_) (fun _ => ?_)
  ·exact most (k + 1) H1 x1 g1 (by omega) (by omega)
  refine ⟨_, rfl, _, rfl, pen, sp, ns, (m : Int), k + 1, rfl, pn.to x1 g1, by omega, by omega, by omega, fun one o0 o1 => ?_⟩
  have x2 := x1.trans (za2 (pen := pen) (H := H1) (.lst [.ref sp, .int (k + 1 + 1)]))
  have g2 : L2.upd H1 pen (.lst [.ref sp, .int (k + 1 + 1)]) pen = some (.lst [.ref sp, .int (k + 1 + 1)]) := zad
  generalize L2.upd H1 pen (.lst [.ref sp, .int (k + 1 + 1)]) = H2 at x2 g2 ⊢
  refine ⟨_, rfl, _, _, rfl, rfl, _, rfl, _, rfl, _, _, rfl, rfl, pen, sp, ns, (m : Int) - 1, k + 1 + 1, rfl, pn.to x2 g2, by omega, by omega, by omega, fun x x0 x1' => ?_⟩
  have x3 := x2.trans (za2 (pen := pen) (H := H2) (.lst [.ref sp, .int (k + 1 + 1 + 1)]))
  have g3 : L2.upd H2 pen (.lst [.ref sp, .int (k + 1 + 1 + 1)]) pen = some (.lst [.ref sp, .int (k + 1 + 1 + 1)]) := zad
  generalize L2.upd H2 pen (.lst [.ref sp, .int (k + 1 + 1 + 1)]) = H3 at x3 g3 ⊢
  refine ⟨_, _, rfl, rfl, _, rfl, _, _, rfl, rfl, (by show (0 : Int) < m; omega), ?_⟩
  refine ⟨small (by show 2 ≤ 1000; decide), fun lp hlp => ?_⟩
  have s4 := zag hlp (.lst [.str ("needs" : Str), .str ("bans" : Str)])
  have g4 : L2.upd H3 lp (.lst [.str ("needs" : Str), .str ("bans" : Str)]) lp = some (.lst [.str ("needs" : Str), .str ("bans" : Str)]) := zad
  have g4p := s4 _ _ g3
  have nlp : lp ≠ pen := fun z => by rw [z, g3] at hlp; cases hlp
  have x4 := x3.trans (Same.x (pen := pen) s4)
  generalize L2.upd H3 lp (.lst [.str ("needs" : Str), .str ("bans" : Str)]) = H4 at s4 g4 g4p x4 ⊢
  refine ⟨_, rfl, pen, sp, ns, 2, k + 1 + 1 + 1, rfl, pn.to x4 g4p, by omega, by omega, by decide, fun way w0 w1 => ?_⟩
  have x5 := x4.trans (za2 (pen := pen) (H := H4) (.lst [.ref sp, .int (k + 1 + 1 + 1 + 1)]))
  have g5 : L2.upd H4 pen (.lst [.ref sp, .int (k + 1 + 1 + 1 + 1)]) pen = some (.lst [.ref sp, .int (k + 1 + 1 + 1 + 1)]) := zad
  have g5l : L2.upd H4 pen (.lst [.ref sp, .int (k + 1 + 1 + 1 + 1)]) lp = some (.lst [.str ("needs" : Str), .str ("bans" : Str)]) := by rw [zam nlp]; exact g4
  generalize L2.upd H4 pen (.lst [.ref sp, .int (k + 1 + 1 + 1 + 1)]) = H5 at x5 g5 g5l ⊢
  obtain ⟨sN, sk, snm, sok, hat⟩ : ∃ sN : Str, (sN = ("needs" : Str) ∨ sN = ("bans" : Str)) ∧ ¬ sN = ("most" : Str) ∧ PyData.strOk sN = true ∧ atI ([.str ("needs" : Str), .str ("bans" : Str)] : List V) way = some (.str sN) := by
   have e : way = 0 ∨ way = 1 := by omega
   rcases e with e | e <;> rw [e]
   ·exact ⟨_, .inl rfl, by decide +kernel, zhk, rfl⟩
   ·exact ⟨_, .inr rfl, by decide +kernel, ziz, rfl⟩
  refine ⟨lp, _, _, _, rfl, rfl, SqL.of g5l, hat, _, rfl, _, rfl, small (by show 3 ≤ 1000; decide), fun tp htp => ?_⟩
  obtain ⟨n0', n1', n2'⟩ := zqi (many := m) (by omega) (by omega) o0 o1 x0 (by omega)
  have st := zag htp (.tup [.str sN, .int one, .int ((one + 1 + x) % (m : Int))])
  refine q (.tuple [.str sN, .int one, .int ((one + 1 + x) % (m : Int))]) _ (k + 1 + 1 + 1 + 1) _ (x5.trans (Same.x st)) (st _ _ g5) (by omega) (by omega) ⟨tp, _, rfl, zad, _, _, rfl, rfl, _, _, rfl, rfl, _, _, rfl, rfl, rfl⟩ ?_ ?_
  ·show zo1 m sN _ _ = true
   unfold zo1
   rw [if_neg snm, if_pos sk]
   show ((decide ((0 : Int) ≤ _) && decide (_ ≤ (m : Int) - 1)) && ((decide ((0 : Int) ≤ _) && decide (_ ≤ (m : Int) - 1)) && !decide (_ = _))) = true
   rw [decide_eq_true o0, decide_eq_true (by omega), decide_eq_true n0', decide_eq_true (by omega), decide_eq_false n2']
   rfl
  ·show (true && (zbh 2 (.str sN) && (true && (true && true)))) = true
   rw [show zbh 2 (.str sN) = true from sok]
   rfl
end
section
variable {P : Program} {w : World} {K : PySem.W.Frag} {mg : Str → Option Value} {base : Heap} {a : Adr} {d : Fds}
theorem zlz (T : Txt K mg a d) : zbi P w K mg base CX0 6 a.f_law_wood d.f_law_wood ["_law_state"] (zs7 K) := by
 have G_law_take := zdv (P := P) (w := w) (base := base) T
 have G_law_boughs := zjs (P := P) (w := w) (base := base) T
 have G_law_cross := zlh (P := P) (w := w) (base := base) T
 refine T.K_law_wood.ok sc_law_wood (fun vs H Q E h => ?_) (fun cdv A outer s H vs Q E hr h => ?_)
 ·obtain ⟨pen, sp, ns, k, rfl, _⟩ := h
  rfl
 obtain ⟨pen, sp, ns, k, rfl, pn, k0, k1, q⟩ := h
 have p62 : (2 : Int) ^ 62 = 4611686018427387904 := by decide
 obtain ⟨ct5, ch5, cu5⟩ := zsl (X := (zd5 CX0 P w K mg base ["_law_state", "_law_many", "_law_boughs_here", "_law_count"] "_law_wood" (zab zbr) a.f_law_wood cdv A outer s H E).nox) (st := (zai zbr).drop 5) (zaj (zar (zb7 (zaa (pv 1) (zaa (zbd zb1 rfl T.m_tuple PyProof.Rows.boot_tuple (zaa (pv 2) zac)) (zaa (zbd zb1 rfl T.m_tuple PyProof.Rows.boot_tuple (zaa (zdt (sc0 := zab zbr) (XN := ["_law_state", "_law_many", "_law_boughs_here", "_law_count"]) (N' := ["_law_k", "_law_state", "_law_many"]) (n := 1) (kp := [0, 1]) rfl (zdq rfl T.m_range (zaa (pv 3) zac)) rfl rfl (by decide +kernel) (fun _ _ _ _ _ => (zaz (i := 0) (by show List.Nodup (["_law_k", "_law_state", "_law_many"] : List Str); decide +kernel) rfl (Or.inl rfl))) (fun _ _ _ _ _ => ze6) (fun _ _ _ _ _ => (zah G_law_cross hr.lv rfl T.g_law_cross T.K_law_cross.kp T.B_law_cross .nil zan (zaa (pv 1) (zaa (pv 2) zac))))) zac)) zac))))))
 have last : ∀ (m : Nat) (l : Addr) (bs : List PyData) (xs : List V) (n : Int) (k1 : Int) (H1 : Hp), SameX pen H H1 → H1 pen = some (.lst [.ref sp, .int k1]) → k ≤ k1 → k1 ≤ k + 95 → 1 ≤ m → m ≤ 9 → H1 l = some (.lst xs) → DnL H1 bs xs → zqy m bs → bs.length ≤ 8 → bs.all (zbh 3) = true → 0 ≤ n → n ≤ 8 → ct5 { nx := fun _ H' => Q .non H', rt := Q } [some (.ref pen), some (.int (m : Int)), some (.ref l), some (.int n)] H1 := by
  intro m l bs xs n k1 H1 x1 hp1 k10 k11 m1 m9 hl1 dn gb b8 fb n0 n8
  refine cu5 _ _ _ ?_
  refine ⟨_, rfl, _, rfl, l, _, rfl, .inl ⟨SqL.of hl1, fun t1 ht1 => ?_⟩⟩
  have s2 := zag ht1 (.tup xs)
  have g2 : L2.upd H1 t1 (.tup xs) t1 = some (.tup xs) := zad
  have hp2 := s2 _ _ hp1
  have x2 := x1.trans (Same.x (pen := pen) s2)
  have d2 := DnL.same s2 _ _ dn
  generalize L2.upd H1 t1 (.tup xs) = H2 at s2 g2 hp2 x2 d2 ⊢
  refine ⟨_, rfl, _, rfl, by rw [p62]; omega, by rw [p62]; omega, ?_⟩
  refine zeo (k := n.toNat) (fun i ys σ H3 => (∃ v, σ = [v, some (.ref pen), some (.int (m : Int))]) ∧ SameX pen H2 H3 ∧ ∃ (kc : Int) (cs : List PyData), H3 pen = some (.lst [.ref sp, .int kc]) ∧ k1 ≤ kc ∧ kc ≤ k1 + 31 * i ∧ DnL H3 cs ys ∧ cs.length = i ∧ (∀ c ∈ cs, zh8 m c = true) ∧ cs.all (zbh 3) = true) ⟨⟨none, rfl⟩, SameX.refl _ _, k1, [], hp2, by omega, by omega, rfl, rfl, (fun _ z => nomatch z), rfl⟩ (fun i ys σ H3 hi pv => ?_) (fun i ys σ H3 hi pv => ?_) (fun ys σ H3 pv cl hcl => ?_)
  ·obtain ⟨_, _, kc, cs, _, _, _, dc, ln, _⟩ := pv
   rw [← dc.length, ln]
   exact small (by omega)
  ·obtain ⟨⟨v, rfl⟩, x3, kc, cs, hp3, kc0, kc1, dc, ln, okc, fc⟩ := pv
   refine ⟨_, rfl, _, rfl, pen, sp, ns, m, kc, rfl, pn.to (x2.trans x3) hp3, by omega, by omega, m1, m9, fun c v k' H4 x4 hp4 k40 k41 dv ti fd => ?_⟩
   refine ⟨⟨_, rfl⟩, x3.trans x4, k', cs ++ [c], hp4, by omega, by push_cast; omega, (DnL.tupS (SameX.tup hp3 x4) fc dc).append ⟨v, [], rfl, dv, rfl⟩, by rw [List.length_append, List.length_singleton, ln], fun b hb => ?_, ?_⟩
   ·rcases List.mem_append.mp hb with z | z
    ·exact okc b z
    ·rw [List.mem_singleton.mp z]
     exact ti
   ·rw [List.all_append, fc]
    simp [fd]
  obtain ⟨_, x3, kc, cs, hp3, kc0, kc1, dc, ln, okc, fc⟩ := pv
  have s4 := zag hcl (.lst ys)
  have g4 : L2.upd H3 cl (.lst ys) cl = some (.lst ys) := zad
  have hp4 := s4 _ _ hp3
  have tS := zda (SameX.tup hp2 x3) (Same.tup s4)
  have dc4 := DnL.same s4 _ _ dc
  have x4 := (x2.trans x3).trans (Same.x (pen := pen) s4)
  generalize L2.upd H3 cl (.lst ys) = H4 at s4 g4 hp4 tS dc4 x4 ⊢
  refine ⟨cl, _, rfl, .inl ⟨SqL.of g4, fun t2 ht2 => ?_⟩⟩
  have s5 := zag ht2 (.tup ys)
  refine ⟨small (by show 3 ≤ 1000; decide), fun wd hwd => ?_⟩
  have s6 := zag hwd (.tup [.int (m : Int), .ref t1, .ref t2])
  have s56 := s5.trans s6
  exact q wd m bs cs kc _ (x4.trans (Same.x s56)) (s56 _ _ hp4) (by omega) (by omega) m1 m9 ⟨⟨xs, ys, ⟨t1, t2, zad, s56 _ _ (tS _ _ g2), s6 _ _ zad⟩, DnL.same s56 _ _ (DnL.tupS tS fb d2), DnL.same s56 _ _ dc4⟩, gb, okc, by omega, by omega, fb, fc, m1, m9⟩ (by omega)
 obtain ⟨ct2, ch2, cu2⟩ := zsl (X := (zd5 CX0 P w K mg base ["_law_state", "_law_many", "_law_boughs_here", "_law_count"] "_law_wood" (zab zbr) a.f_law_wood cdv A outer s H E).nox) (st := (zai zbr).drop 2) (zaf (zau (i := 2) sc_law_wood.nd rfl (Or.inl rfl) (zah G_law_boughs hr.lv rfl T.g_law_boughs T.K_law_boughs.kp T.B_law_boughs .nil zan (zaa (pv 0) (zaa (pv 1) zac))))
   (zaf (zau (i := 3) sc_law_wood.nd rfl (Or.inl rfl) (zah G_law_take hr.lv rfl T.g_law_take T.K_law_take.kp T.B_law_take .nil zan (zaa (pv 0) (zaa zae zac))))
   (zaf (zbk (zat zb6 (zah G_law_take hr.lv rfl T.g_law_take T.K_law_take.kp T.B_law_take .nil zan (zaa (pv 0) (zaa zae zac))) zae (zax _)) (zaj (zau (i := 3) sc_law_wood.nd rfl (Or.inl rfl) (zah G_law_take hr.lv rfl T.g_law_take T.K_law_take.kp T.B_law_take .nil zan (zaa (pv 0) (zaa (zao (ixL (K := K)) (zc4 (zaa zae (zaa zae zac))) (zbd zkc rfl T.m_int PyProof.Rows.boot_int (zaa (zcz zhi (pv 1) zae (zax _)) zac)) (fun _ _ => rfl)) zac))))) za1)
   ch5)))
 have mid : ∀ (m : Nat) (k1 : Int) (H1 : Hp), SameX pen H H1 → H1 pen = some (.lst [.ref sp, .int k1]) → k ≤ k1 → k1 ≤ k + 3 → 1 ≤ m → m ≤ 9 → ct2 { nx := fun _ H' => Q .non H', rt := Q } [some (.ref pen), some (.int (m : Int)), none, none] H1 := by
  intro m k1 H1 x1 hp1 k10 k11 m1 m9
  refine cu2 _ _ _ ?_
  refine ⟨_, rfl, _, rfl, pen, sp, ns, m, k1, rfl, pn.to x1 hp1, by omega, by omega, m1, m9, fun l bs xs k2 H2 x2 hp2 k20 k21 hl2 nl dn gb b8 fb => ?_⟩
  have nlp : l ≠ pen := fun z => by rw [z, hp1] at nl; cases nl
  refine ⟨_, rfl, pen, sp, ns, 4, k2, rfl, pn.to (x1.trans x2) hp2, by omega, by omega, by decide, fun c c0 c1 => ?_⟩
  have x3' := za2 (pen := pen) (H := H2) (.lst [.ref sp, .int (k2 + 1)])
  have g3 : L2.upd H2 pen (.lst [.ref sp, .int (k2 + 1)]) pen = some (.lst [.ref sp, .int (k2 + 1)]) := zad
  have g3l : L2.upd H2 pen (.lst [.ref sp, .int (k2 + 1)]) l = some (.lst xs) := by rw [zam nlp]; exact hl2
  have d3 := DnL.tupS (SameX.tup hp2 x3') fb dn
  generalize L2.upd H2 pen (.lst [.ref sp, .int (k2 + 1)]) = H3 at x3' g3 g3l d3 ⊢
  refine ⟨_, rfl, pen, sp, ns, 4, k2 + 1, rfl, pn.to ((x1.trans x2).trans x3') g3, by omega, by omega, by decide, fun e e0 e1 => ?_⟩
  have x4' := za2 (pen := pen) (H := H3) (.lst [.ref sp, .int (k2 + 1 + 1)])
  have g4 : L2.upd H3 pen (.lst [.ref sp, .int (k2 + 1 + 1)]) pen = some (.lst [.ref sp, .int (k2 + 1 + 1)]) := zad
  have g4l : L2.upd H3 pen (.lst [.ref sp, .int (k2 + 1 + 1)]) l = some (.lst xs) := by rw [zam nlp]; exact g3l
  have d4 := DnL.tupS (SameX.tup g3 x4') fb d3
  generalize L2.upd H3 pen (.lst [.ref sp, .int (k2 + 1 + 1)]) = H4 at x4' g4 g4l d4 ⊢
  have x4 := ((x1.trans x2).trans x3').trans x4'
  refine ⟨rfl, _, rfl, ?_⟩
  refine zc0 (fun _ => ?_) (fun _ => ?_)
  ·refine ⟨_, rfl, small (by show 2 ≤ 1000; decide), fun fl hfl => ?_⟩
   have s5 := zag hfl (.lst [.int 9, .int 7])
   have g5 : L2.upd H4 fl (.lst [.int 9, .int 7]) fl = some (.lst [.int 9, .int 7]) := zad
   have g5p := s5 _ _ g4
   have g5l := s5 _ _ g4l
   have d5 := DnL.same s5 _ _ d4
   have x5 := x4.trans (Same.x (pen := pen) s5)
   generalize L2.upd H4 fl (.lst [.int 9, .int 7]) = H5 at s5 g5 g5p g5l d5 x5 ⊢
   refine ⟨_, rfl, _, _, rfl, rfl, .inr ⟨_, rfl, ?_⟩⟩
   obtain ⟨top, hat, t0, t9⟩ : ∃ top : Int, atI [V.int 9, V.int 7] (if decide ((m : Int) > 6) = true then 1 else 0) = some (.int top) ∧ 0 < top ∧ top ≤ 9 := by
    split
    ·exact ⟨_, rfl, by decide, by decide⟩
    ·exact ⟨_, rfl, by decide, by decide⟩
   refine ⟨fl, _, _, _, rfl, rfl, SqL.of g5, hat, pen, sp, ns, top, k2 + 1 + 1, rfl, pn.to x5 g5p, by omega, by omega, t0, fun y y0 y1 => ?_⟩
   have x6' := za2 (pen := pen) (H := H5) (.lst [.ref sp, .int (k2 + 1 + 1 + 1)])
   have g6 : L2.upd H5 pen (.lst [.ref sp, .int (k2 + 1 + 1 + 1)]) pen = some (.lst [.ref sp, .int (k2 + 1 + 1 + 1)]) := zad
   have g6l : L2.upd H5 pen (.lst [.ref sp, .int (k2 + 1 + 1 + 1)]) l = some (.lst xs) := by rw [zam nlp]; exact g5l
   have d6 := DnL.tupS (SameX.tup g5p x6') fb d5
   generalize L2.upd H5 pen (.lst [.ref sp, .int (k2 + 1 + 1 + 1)]) = H6 at x6' g6 g6l d6 ⊢
   exact last m l bs xs y _ H6 (x5.trans x6') g6 (by omega) (by omega) m1 m9 g6l d6 gb b8 fb y0 (by omega)
  ·exact last m l bs xs c _ H4 x4 g4 (by omega) (by omega) m1 m9 g4l d4 gb b8 fb c0 (by omega)
 refine ⟨_, (zaf (zau (i := 1) sc_law_wood.nd rfl (Or.inr rfl) (za7 zc9 zae (zah G_law_take hr.lv rfl T.g_law_take T.K_law_take.kp T.B_law_take .nil zan (zaa (pv 0) (zaa zae zac)))))
   (zaf (zbk (zat zb6 (zah G_law_take hr.lv rfl T.g_law_take T.K_law_take.kp T.B_law_take .nil zan (zaa (pv 0) (zaa zae zac))) zae (zax _)) (zaj (zau (i := 1) sc_law_wood.nd rfl (Or.inr rfl) (za7 zc9 zae (zah G_law_take hr.lv rfl T.g_law_take T.K_law_take.kp T.B_law_take .nil zan (zaa (pv 0) (zaa zae zac)))))) za1)
   ch2)), ?_⟩
 refine ⟨_, rfl, pen, sp, ns, 6, k, rfl, pn, k0, by omega, by decide, fun c c0 c1 => ?_⟩
 refine ⟨_, _, rfl, rfl, ?_⟩
 have x1 := za2 (pen := pen) (H := H) (.lst [.ref sp, .int (k + 1)])
 have h1 : L2.upd H pen (.lst [.ref sp, .int (k + 1)]) pen = some (.lst [.ref sp, .int (k + 1)]) := zad
 generalize L2.upd H pen (.lst [.ref sp, .int (k + 1)]) = H1 at x1 h1 ⊢
 refine ⟨_, rfl, pen, sp, ns, 8, k + 1, rfl, pn.to x1 h1, by omega, by omega, by decide, fun e e0 e1 => ?_⟩
 have x2 := x1.trans (za2 (pen := pen) (H := H1) (.lst [.ref sp, .int (k + 1 + 1)]))
 have h2 : L2.upd H1 pen (.lst [.ref sp, .int (k + 1 + 1)]) pen = some (.lst [.ref sp, .int (k + 1 + 1)]) := zad
 generalize L2.upd H1 pen (.lst [.ref sp, .int (k + 1 + 1)]) = H2 at x2 h2 ⊢
 refine ⟨rfl, _, rfl, ?_⟩
 refine zc0 (fun _ => ?_) (fun _ => ?_)
 ·refine ⟨_, rfl, pen, sp, ns, 3, k + 1 + 1, rfl, pn.to x2 h2, by omega, by omega, by decide, fun g g0 g1 => ?_⟩
  refine ⟨_, _, rfl, rfl, ?_⟩
  have x3 := x2.trans (za2 (pen := pen) (H := H2) (.lst [.ref sp, .int (k + 1 + 1 + 1)]))
  have h3 : L2.upd H2 pen (.lst [.ref sp, .int (k + 1 + 1 + 1)]) pen = some (.lst [.ref sp, .int (k + 1 + 1 + 1)]) := zad
  have t := mid (7 + g).toNat _ _ x3 h3 (by omega) (by omega) (by omega) (by omega)
  rw [show (((7 + g).toNat : Nat) : Int) = 7 + g by omega] at t
  exact t
 ·have t := mid (1 + c).toNat _ _ x2 h2 (by omega) (by omega) (by omega) (by omega)
  rw [show (((1 + c).toNat : Nat) : Int) = 1 + c by omega] at t
  exact t
end
section
variable {P : Program} {w : World} {K : PySem.W.Frag} {mg : Str → Option Value} {base : Heap} {a : Adr} {d : Fds}
theorem zh6 (T : Txt K mg a d) : zbi P w K mg base CX0 1 a.f_law_has d.f_law_has ["_law_some", "_law_k"] ztu := by
 refine T.K_law_has.ok znk (fun vs H Q E h => ?_) (fun cdv A outer s H vs Q E hr h => ?_)
 ·obtain ⟨n, k, rfl, _⟩ := h
  rfl
 obtain ⟨n, k, rfl, k9, q⟩ := h
 have pk := zqr k
 refine ⟨_, (zaj (zar (zcz zb6 (za7 zgn (za7 zsz (pv 0) (za7 znu zae (pv 1))) zae) zae (zax _)))), ?_⟩
 refine ⟨_, rfl, _, rfl, _, _, rfl, rfl, ⟨by omega, by omega, by decide⟩, _, _, rfl, rfl, ?_, _, _, rfl, rfl, (by show (0 : Int) < 2; decide), rfl, ?_⟩
 ·have p20 : 2 ^ k ≤ 2 ^ 20 := Nat.pow_le_pow_right (by decide) k9
  have e20 : (2 : Nat) ^ 20 = 1048576 := by decide
  show zuj _ _
  unfold zuj
  rw [zqg]
  omega
 ·have e : decide ((fun i j : Int => V.int (i % j)) ((n : Int) / (1 * (2 : Int) ^ ((k : Nat) : Int).toNat)) 2 = V.int 1) = n.testBit k := by
   rw [zqg]
   exact zsh n k
  rw [e]
  exact q
end
section
variable {P : Program} {w : World} {K : PySem.W.Frag} {mg : Str → Option Value} {base : Heap} {a : Adr} {d : Fds}
theorem zi2 (T : Txt K mg a d) : zbi P w K mg base CX0 2 a.f_law_many_of d.f_law_many_of ["_law_kids", "_law_some"] zqm := by
 have G_law_has := zh6 (P := P) (w := w) (base := base) T
 refine T.K_law_many_of.ok zje (fun vs H Q E h => ?_) (fun cdv A outer s H vs Q E hr h => ?_)
 ·obtain ⟨pk, ks, n, rfl, _⟩ := h
  rfl
 obtain ⟨pk, ks, n, rfl, hpk, kl, k20, q⟩ := h
 refine ⟨_, (zaj (zar (zaw (zde (K := K)) rfl T.m_len PySem.boot_len (zaa (zdt (sc0 := zab zbl) (XN := ["_law_kids", "_law_some"]) (N' := ["_law_k", "_law_some"]) (n := 1) (kp := [1]) rfl (piT (K := K) (pv 0)) rfl rfl (by decide +kernel) (fun _ _ _ _ _ => (zaz (i := 0) (by show List.Nodup (["_law_k", "_law_some"] : List Str); decide +kernel) rfl (Or.inl rfl))) (fun _ _ _ _ _ => (zcf (zcv (zah G_law_has hr.lv rfl T.g_law_has T.K_law_has.kp T.B_law_has .nil zan (zaa (pv 1) (zaa (pv 0) zac)))))) (fun _ _ _ _ _ => (pv 0))) zac)))), ?_⟩
 refine ⟨_, rfl, pk, rfl, ⟨_, sqT hpk⟩, ?_⟩
 refine zfo (K := K) (a := pk) (xs := zak ks) (fun i ys σ H2 => (∃ v, σ = [v, some (.int (n : Int))]) ∧ H2 = H ∧ ys = zak ((ks.take i).filter fun k => n.testBit k)) ⟨⟨none, rfl⟩, rfl, rfl⟩ (fun i ys σ H2 hi pv => ?_) (fun i ys σ H2 hi pv => ?_) (fun i x ys σ H2 hx pv => ?_) (fun ys σ H2 pv l hl => ?_)
 ·obtain ⟨_, _, rfl⟩ := pv
  rw [List.length_map]
  refine small (Nat.le_trans (List.length_filter_le _ _) ?_)
  rw [List.length_take]
  omega
 ·rw [pv.2.1]
  exact sqT hpk
 ·obtain ⟨⟨v, rfl⟩, rfl, rfl⟩ := pv
  rw [List.getElem?_map] at hx
  obtain ⟨k, hk, rfl⟩ := Option.map_eq_some_iff.mp hx
  have ek : ∀ z, n.testBit k = z → (ks.take (i + 1)).filter (fun k => n.testBit k) = (ks.take i).filter (fun k => n.testBit k) ++ (if z = true then [k] else []) := fun z hz => by
   rw [List.take_add_one, hk, Option.toList_some, List.filter_append]
   congr 1
   cases z
   ·rw [List.filter_cons_of_neg (by rw [hz]; exact Bool.false_ne_true)]; rfl
   ·rw [List.filter_cons_of_pos (by exact hz)]; rfl
  refine ⟨_, rfl, _, rfl, n, k, rfl, k20 k (List.mem_of_getElem? hk), _, rfl, ?_⟩
  refine zc0 (fun c => ?_) (fun c => ?_)
  ·refine ⟨_, rfl, ⟨_, rfl⟩, rfl, ?_⟩
   rw [ek true c, if_pos rfl, zcx]
   rfl
  ·refine ⟨⟨_, rfl⟩, rfl, ?_⟩
   rw [ek false (Bool.eq_false_iff.mpr c), if_neg Bool.false_ne_true, List.append_nil]
 obtain ⟨_, rfl, rfl⟩ := pv
 have lk : (zak ks).length = ks.length := List.length_map _
 rw [lk, List.take_length]
 have s1 := zag hl (.lst (zak (ks.filter fun k => n.testBit k)))
 have g1 : L2.upd H2 l (.lst (zak (ks.filter fun k => n.testBit k))) l = some (.lst (zak (ks.filter fun k => n.testBit k))) := zad
 generalize L2.upd H2 l (.lst (zak (ks.filter fun k => n.testBit k))) = H1 at s1 g1 ⊢
 refine ⟨l, _, rfl, .inl (SqL.of g1), ?_⟩
 have e : (zak (ks.filter fun k => n.testBit k)).length = cnt ks n := List.length_map _
 rw [e]
 exact q H1 s1
end
section
variable {P : Program} {w : World} {K : PySem.W.Frag} {mg : Str → Option Value} {base : Heap} {a : Adr} {d : Fds}
theorem zgt (T : Txt K mg a d) : zbi P w K mg base CX0 1 a.f_law_first d.f_law_first ["_law_some"] zoz := by
 refine T.K_law_first.ok zkq (fun vs H Q E h => ?_) (fun cdv A outer s H vs Q E hr h => ?_)
 ·obtain ⟨l, L, rfl, _⟩ := h
  rfl
 obtain ⟨l, L, rfl, hl, q⟩ := h
 refine ⟨_, (zaf (zbk (zat zb6 (zaw (zde (K := K)) rfl T.m_len PySem.boot_len (zaa (pv 0) zac)) zae (zax _)) (zaj (zar zdo)) za1)
   (zaj (zar (zao (ixL (K := K)) (pv 0) zae (fun _ _ => rfl))))), ?_⟩
 have ll : (zak L).length = L.length := List.length_map _
 refine ⟨_, rfl, l, _, rfl, .inl (SqL.of hl), rfl, _, rfl, ?_⟩
 cases L with
 | nil =>
  refine zep rfl ?_
  exact q
 | cons x r =>
  refine zcm (fun z => ?_) ?_
  ·have z' : V.int (((zak (x :: r)).length : Nat) : Int) = V.int 0 := z
   injection z' with z'
   rw [ll, List.length_cons] at z'
   omega
  exact ⟨_, rfl, l, _, _, .int (x : Int), rfl, rfl, SqL.of hl, zv2, q⟩
end
section
variable {P : Program} {w : World} {K : PySem.W.Frag} {mg : Str → Option Value} {base : Heap} {a : Adr} {d : Fds}
theorem zd7 (T : Txt K mg a d) : zbi P w K mg base CX0 5 a.f_law_keeping d.f_law_keeping ["_law_many", "_law_ties"] zo4 := by
 have G_keeps := zh4 (P := P) (w := w) (base := base) T
 refine T.K_law_keeping.ok ziw (fun vs H Q E h => ?_) (fun cdv A outer s H vs Q E hr h => ?_)
 ·obtain ⟨lt, xs, m, B, rfl, _⟩ := h
  rfl
 obtain ⟨lt, xs, m, B, rfl, hlt, dn, okB, m1, m9, Bl, q⟩ := h
 have lx : xs.length = B.length := by rw [← dn.length, List.length_map]
 have e2 : 2 * 2 ^ (m - 1) = 2 ^ m := by
  obtain ⟨m', rfl⟩ : ∃ m', m = m' + 1 := ⟨m - 1, by omega⟩
  rw [Nat.add_sub_cancel, Nat.pow_succ, Nat.mul_comm]
 have h8 : 2 ^ (m - 1) ≤ 256 := Nat.le_trans (Nat.pow_le_pow_right (by decide) (show m - 1 ≤ 8 by omega)) (by decide)
 obtain ⟨sm, sz⟩ := zph (Nat.le_trans h8 (by decide))
 rw [e2] at sm sz
 refine ⟨_, (zaj (zar (zrr (sc0 := zab zbb) (XN := ["_law_many", "_law_ties"]) (N' := ["_law_some", "_law_ties"]) (n := 1) (kp := [1]) rfl (zpz rfl T.m_range (zaa zae (zaa (za7 znu zae (pv 0)) (zaa zae zac)))) rfl rfl (by decide +kernel) (fun _ _ _ _ _ => (zaz (i := 0) (by show List.Nodup (["_law_some", "_law_ties"] : List Str); decide +kernel) rfl (Or.inr rfl))) (fun _ _ _ _ _ => (zcf (zcv (zaw (zpj (K := K) rfl) rfl T.m_all PyProof.Rows.boot_all (zaa (zdt (sc0 := (zf9 (lcS (zue (zai zbb)[0]?)) (zab zbb))) (XN := ["_law_some", "_law_ties"]) (N' := ["_law_tie", "_law_some"]) (n := 1) (kp := [0]) rfl (piL (K := K) (pv 1)) rfl rfl (by decide +kernel) (fun _ _ _ _ _ => (zaz (i := 0) (by show List.Nodup (["_law_tie", "_law_some"] : List Str); decide +kernel) rfl (Or.inl rfl))) (fun _ _ _ _ _ => ze6) (fun _ _ _ _ _ => (zah G_keeps hr.lv rfl T.g_keeps T.K_keeps.kp T.B_keeps .nil zan (zaa (pv 0) (zaa (pv 1) zac))))) zac))))) (fun _ _ _ _ _ => (pv 0))))), ?_⟩
 refine ⟨_, rfl, _, _, rfl, rfl, ⟨by omega, by omega, by decide⟩, 1, _, 2, 2 ^ (m - 1), rfl, by decide, by decide, (by rw [zqg]; exact sm), (by rw [zqg]; exact sz), ?_⟩
 refine zpb (lo := 1) (st := 2) (n := 2 ^ (m - 1)) (fun i ys σ H2 => (∃ v, σ = [v, some (.ref lt)]) ∧ Same H H2 ∧ ys = zak (((List.range i).filter fun i => B.all fun t => t.keep (1 + 2 * i)).map fun i => 1 + 2 * i)) ⟨⟨none, rfl⟩, Same.refl _, rfl⟩ (fun i ys σ H2 hi pv => ?_) (fun i ys σ H2 hi pv => ?_) (fun ys σ H2 pv l hl => ?_)
 ·obtain ⟨_, _, rfl⟩ := pv
  rw [List.length_map, List.length_map]
  refine small (Nat.le_trans (List.length_filter_le _ _) ?_)
  rw [List.length_range]
  omega
 ·obtain ⟨⟨v, rfl⟩, s2, rfl⟩ := pv
  have ez : (1 : Int) + (i : Int) * 2 = ((1 + 2 * i : Nat) : Int) := by omega
  rw [ez]
  have g2 : H2 lt = some (.lst xs) := s2 _ _ hlt
  refine ⟨_, rfl, lt, rfl, ⟨_, SqL.of g2⟩, ?_⟩
  refine zdf (K := K) (a := lt) (xs := xs) (fun j ys σ H3 => (∃ v, σ = [v, some (.int ((1 + 2 * i : Nat) : Int))]) ∧ Same H2 H3 ∧ ys = ((B.take j).map fun c => c.keep (1 + 2 * i)).map V.bl) ⟨⟨none, rfl⟩, Same.refl _, rfl⟩ (fun j ys σ H3 hj pv => ?_) (fun j ys σ H3 hj pv => ?_) (fun j x ys σ H3 hx pv => ?_) (fun ys σ H3 pv la hla => ?_)
  ·obtain ⟨_, _, rfl⟩ := pv
   rw [List.length_map, List.length_map, List.length_take]
   exact small (by omega)
  ·exact SqL.of (pv.2.1 _ _ g2)
  ·obtain ⟨⟨v', rfl⟩, s3, rfl⟩ := pv
   obtain ⟨c, hc, dc⟩ := zik (DnL.same (s2.trans s3) _ _ dn) hx
   refine ⟨_, rfl, _, rfl, c, m, 1 + 2 * i, x, rfl, dc, okB c (List.mem_of_getElem? hc), by omega, fun HA sA => ?_⟩
   refine ⟨⟨_, rfl⟩, s3.trans sA, ?_⟩
   rw [zem hc, List.map_append]
   rfl
  obtain ⟨_, s3, rfl⟩ := pv
  rw [lx, List.take_length]
  have s4' := zag hla (.lst ((B.map fun c => c.keep (1 + 2 * i)).map V.bl))
  have g4 : L2.upd H3 la (.lst ((B.map fun c => c.keep (1 + 2 * i)).map V.bl)) la = some (.lst ((B.map fun c => c.keep (1 + 2 * i)).map V.bl)) := zad
  generalize L2.upd H3 la (.lst ((B.map fun c => c.keep (1 + 2 * i)).map V.bl)) = H4 at s4' g4 ⊢
  refine ⟨la, _, rfl, SqL.of g4, _, rfl, ?_⟩
  have ea : (B.map fun c => c.keep (1 + 2 * i)).all id = B.all fun c => c.keep (1 + 2 * i) := by
   rw [List.all_map]
   rfl
  rw [ea]
  have er : ∀ z, (B.all fun t => t.keep (1 + 2 * i)) = z → (List.range (i + 1)).filter (fun i => B.all fun t => t.keep (1 + 2 * i)) = (List.range i).filter (fun i => B.all fun t => t.keep (1 + 2 * i)) ++ (if z = true then [i] else []) := fun z hz => by
   rw [List.range_succ, List.filter_append]
   refine congrArg (fun y : List Nat => List.filter _ (List.range i) ++ y) ?_
   cases z
   ·rw [List.filter_cons_of_neg (by rw [hz]; exact Bool.false_ne_true)]; rfl
   ·rw [List.filter_cons_of_pos (by exact hz)]; rfl
  refine zc0 (fun c => ?_) (fun c => ?_)
  ·refine ⟨_, rfl, ⟨_, rfl⟩, s2.trans (s3.trans s4'), ?_⟩
   rw [er true c, if_pos rfl, List.map_append, zcx]
   rfl
  ·refine ⟨⟨_, rfl⟩, s2.trans (s3.trans s4'), ?_⟩
   rw [er false (Bool.eq_false_iff.mpr c), if_neg Bool.false_ne_true, List.append_nil]
 ·obtain ⟨_, s2, rfl⟩ := pv
  rw [← zpw m1]
  have s3 := zag hl (.lst (zak (za3 m B)))
  exact q l _ (s2.trans s3) (s2.free hl) zad
end
section
variable {P : Program} {w : World} {K : PySem.W.Frag} {mg : Str → Option Value} {base : Heap} {a : Adr} {d : Fds}
theorem zlc (T : Txt K mg a d) : zbi P w K mg base CX0 6 a.f_law_tight d.f_law_tight ["_law_wood_here"] zqp := by
 have G_law_keeping := zd7 (P := P) (w := w) (base := base) T
 have G_law_has := zh6 (P := P) (w := w) (base := base) T
 have G_law_first := zgt (P := P) (w := w) (base := base) T
 have G_law_many_of := zi2 (P := P) (w := w) (base := base) T
 refine T.K_law_tight.ok sc_law_tight (fun vs H Q E h => ?_) (fun cdv A outer s H vs Q E hr h => ?_)
 ·obtain ⟨wd, tb, tc, m, L, C, rfl, _⟩ := h
  rfl
 obtain ⟨wd, tb, tc, m, L, C, rfl, W, ex, q⟩ := h
 obtain ⟨xb, htb, dB⟩ := W.bs
 obtain ⟨yc, htc, dC⟩ := W.cs
 have lxb : xb.length = L.length := by rw [← dB.length, List.length_map, List.length_map]
 have lyc : yc.length = C.length := by rw [← dC.length, List.length_map]
 have m1 := W.m1
 have m9 := W.m9
 have fb := W.fewb
 have fc := W.fewc
 have few := zf6 (m := m) (ts := zaq L C) m9
 refine ⟨_, (zaf (zau (i := 1) sc_law_tight.nd rfl (Or.inl rfl) (zc4 zac))
   (zaf (zau (i := 2) sc_law_tight.nd rfl (Or.inl rfl) (zah G_law_keeping hr.lv rfl T.g_law_keeping T.K_law_keeping.kp T.B_law_keeping .nil zan (zaa (zao (ixT (K := K)) (pv 0) zae (fun _ _ => rfl)) (zaa (za7 zkk (zbd zdk rfl T.m_list PyProof.Rows.boot_list (zaa (zao (ixT (K := K)) (pv 0) zae (fun _ _ => rfl)) zac)) (zbd zdk rfl T.m_list PyProof.Rows.boot_list (zaa (zao (ixT (K := K)) (pv 0) zae (fun _ _ => rfl)) zac))) zac))))
   (zaf (ze4 PassesOwn.never rfl (piT (K := K) (zao (ixT (K := K)) (pv 0) zae (fun _ _ => rfl))) (pgT (K := K) (n := 4) rfl (zb8 (zaz (i := 3) sc_law_tight.nd rfl (Or.inr rfl)) (zb8 (zaz (i := 4) sc_law_tight.nd rfl (Or.inr rfl)) (zb8 (zaz (i := 5) sc_law_tight.nd rfl (Or.inr rfl)) (zb8 (zaz (i := 6) sc_law_tight.nd rfl (Or.inr rfl)) zf7))))) (zaf (zeq (i := 7) sc_law_tight.nd rfl rfl rfl (sc0 := zab zbv) (XN := ["_law_wood_here", "_law_due", "_law_sold", "_law_up", "_law_low", "_law_high", "_law_kids", "_law_some", "_law_few"]) (N' := ["_law_ware", "_law_up"]) (n := 1) (kp := [3]) rfl (piL (K := K) (pv 2)) rfl rfl (by decide +kernel) (fun _ _ _ _ _ => (zaz (i := 0) (by show List.Nodup (["_law_ware", "_law_up"] : List Str); decide +kernel) rfl (Or.inl rfl))) (fun _ _ _ _ _ => (zcf (zcv (zah G_law_has hr.lv rfl T.g_law_has T.K_law_has.kp T.B_law_has .nil zan (zaa (pv 0) (zaa (pv 1) zac)))))) (fun _ _ _ _ _ => (pv 0)))
   (zaf (zau (i := 8) sc_law_tight.nd rfl (Or.inl rfl) (zah G_law_first hr.lv rfl T.g_law_first T.K_law_first.kp T.B_law_first .nil zan (zaa (zdt (sc0 := zab zbv) (XN := ["_law_wood_here", "_law_due", "_law_sold", "_law_up", "_law_low", "_law_high", "_law_kids", "_law_some", "_law_few"]) (N' := ["_law_ware", "_law_low", "_law_kids"]) (n := 1) (kp := [4, 6]) rfl (piL (K := K) (pv 7)) rfl rfl (by decide +kernel) (fun _ _ _ _ _ => (zaz (i := 0) (by show List.Nodup (["_law_ware", "_law_low", "_law_kids"] : List Str); decide +kernel) rfl (Or.inl rfl))) (fun _ _ _ _ _ => (zcf (zat zb6 (zah G_law_many_of hr.lv rfl T.g_law_many_of T.K_law_many_of.kp T.B_law_many_of .nil zan (zaa (pv 2) (zaa (pv 0) zac))) (pv 1) (zax _)))) (fun _ _ _ _ _ => (pv 0))) zac)))
   (zaj (zdj (zc5 (K := K) PySem.F.plainAttrs_list PySem.F.slot_list_append PySem.F.type_list_append zcy (pv 1) (zaa (zb7 (zaa (pv 8) (zaa (zah G_law_first hr.lv rfl T.g_law_first T.K_law_first.kp T.B_law_first .nil zan (zaa (zdt (sc0 := zab zbv) (XN := ["_law_wood_here", "_law_due", "_law_sold", "_law_up", "_law_low", "_law_high", "_law_kids", "_law_some", "_law_few"]) (N' := ["_law_ware", "_law_high", "_law_kids"]) (n := 1) (kp := [5, 6]) rfl (piL (K := K) (pv 7)) rfl rfl (by decide +kernel) (fun _ _ _ _ _ => (zaz (i := 0) (by show List.Nodup (["_law_ware", "_law_high", "_law_kids"] : List Str); decide +kernel) rfl (Or.inl rfl))) (fun _ _ _ _ _ => (zcf (zat zb6 (zah G_law_many_of hr.lv rfl T.g_law_many_of T.K_law_many_of.kp T.B_law_many_of .nil zan (zaa (pv 2) (zaa (pv 0) zac))) (pv 1) (zax _)))) (fun _ _ _ _ _ => (pv 0))) zac)) zac))) zac)))))))
   (zaj (zar (pv 1)))))), ?_⟩
 refine ⟨small (by show 0 ≤ 1000; decide), fun due hdue => ?_⟩
 have s1 := zag hdue (.lst [])
 have g1 : L2.upd H due (.lst []) due = some (.lst []) := zad
 generalize L2.upd H due (.lst []) = H1 at s1 g1 ⊢
 refine ⟨_, rfl, wd, _, _, _, rfl, rfl, sqT (s1 _ _ W.at_), at0, _, rfl, wd, _, _, _, rfl, rfl, sqT (s1 _ _ W.at_), at1, tb, _, rfl, .inr (sqT (s1 _ _ htb)), fun la hla => ?_⟩
 have s2 := zag hla (.lst xb)
 have g2 : L2.upd H1 la (.lst xb) la = some (.lst xb) := zad
 generalize L2.upd H1 la (.lst xb) = H2 at s2 g2 ⊢
 have s02 := s1.trans s2
 refine ⟨_, rfl, wd, _, _, _, rfl, rfl, sqT (s02 _ _ W.at_), at2, tc, _, rfl, .inr (sqT (s02 _ _ htc)), fun lb hlb => ?_⟩
 have s3 := zag hlb (.lst yc)
 have g3 : L2.upd H2 lb (.lst yc) lb = some (.lst yc) := zad
 have g3a := s3 _ _ g2
 generalize L2.upd H2 lb (.lst yc) = H3 at s3 g3 g3a ⊢
 refine ⟨la, lb, _, _, rfl, rfl, g3a, g3, small (by omega), fun lt hlt => ?_⟩
 have s4 := zag hlt (.lst (xb ++ yc))
 have g4 : L2.upd H3 lt (.lst (xb ++ yc)) lt = some (.lst (xb ++ yc)) := zad
 generalize L2.upd H3 lt (.lst (xb ++ yc)) = H4 at s4 g4 ⊢
 have s14 := (s2.trans s3).trans s4
 have s04 := s1.trans s14
 have dT : DnL H4 ((zaq L C).map Tie.toD) (xb ++ yc) := by
  rw [zaq, List.map_append]
  exact (DnL.same s04 _ _ dB).append (DnL.same s04 _ _ dC)
 refine ⟨lt, _, m, zaq L C, rfl, g4, dT, W.ok, m1, m9, by rw [zaq, List.length_append, List.length_map]; omega, fun sold H5 s5 nsold hsold => ?_⟩
 have s15 := s14.trans s5
 have s05 := s1.trans s15
 have ns : sold ≠ due := fun z => by
  rw [z] at nsold
  rw [s14 _ _ g1] at nsold
  cases nsold
 have lsl : (zak (za3 m (zaq L C))).length = (za3 m (zaq L C)).length := List.length_map _
 refine ⟨_, rfl, wd, _, _, _, rfl, rfl, sqT (s05 _ _ W.at_), at1, tb, rfl, ⟨_, sqT (s05 _ _ htb)⟩, ?_⟩
 refine zks (K := K) (a := tb) (xs := xb) (fun i σ H6 => (∃ v3 v4 v5 v6 v7 v8 : Option V, σ = [some (.ref wd), some (.ref due), some (.ref sold), v3, v4, v5, v6, v7, v8]) ∧ (SameX due H5 H6 ∧ Same H H6) ∧ ∃ zs : List V, H6 due = some (.lst zs) ∧ DnL H6 ((L.take i).map (zd8 (za3 m (zaq L C)))) zs) ⟨⟨none, none, none, none, none, none, rfl⟩, ⟨SameX.refl _ _, s05⟩, [], s15 _ _ g1, rfl⟩ (fun i σ H6 hi pv => ?_) ?_ ?_
 ·exact sqT (pv.2.1.2 _ _ htb)
 ·rintro i x σ H6 hx ⟨⟨v3, v4, v5, v6, v7, v8, rfl⟩, ⟨x6, s06⟩, zs, hzs, dz⟩
  have t6 := zda (Same.tup s05) (SameX.tup (s15 _ _ g1) x6)
  have W6 := W.tupS t6
  obtain ⟨xb6, htb6, dB6⟩ := W6.bs
  have exb : xb6 = xb := by
   have := t6 _ _ htb
   rw [htb6] at this
   injection this with this
   injection this
  rw [exb] at dB6
  obtain ⟨t0, ht0, hd⟩ := zik dB6 hx
  rw [List.getElem?_map] at ht0
  obtain ⟨b, hb, rfl⟩ := Option.map_eq_some_iff.mp ht0
  have hbL := List.mem_of_getElem? hb
  have okb := W.okb b hbL
  obtain ⟨p, pk, rfl, hp, hpk⟩ := zdm hd
  obtain ⟨⟨wl, ewl⟩, wh, ewh⟩ := ex b hbL
  have kle : ∀ k ∈ b.ks, k ≤ 20 := fun k hk => by
   have := okb.up k hk
   omega
  have lz : zs.length = i := by
   have hi := (List.getElem?_eq_some_iff.mp hb).1
   rw [← dz.length, List.length_map, List.length_take]
   omega
  have iL := (List.getElem?_eq_some_iff.mp hb).1
  have hsold6 : H6 sold = some (.lst (zak (za3 m (zaq L C)))) := x6 _ _ ns hsold
  refine ⟨p, _, rfl, sqT hp, rfl, _, _, rfl, _, _, rfl, _, _, rfl, _, _, rfl, rfl, ?_⟩
  refine ⟨_, rfl, sold, rfl, ⟨_, SqL.of hsold6⟩, ?_⟩
  refine zdf (K := K) (a := sold) (xs := zak (za3 m (zaq L C))) (fun j ys σ H7 => (∃ v, σ = [v, some (.int (b.u : Int))]) ∧ H7 = H6 ∧ ys = zak (((za3 m (zaq L C)).take j).filter fun w => w.testBit b.u)) ⟨⟨none, rfl⟩, rfl, rfl⟩ (fun j ys σ H7 hj pv => ?_) (fun j ys σ H7 hj pv => ?_) (fun j x ys σ H7 hx pv => ?_) (fun ys σ H7 pv so hso => ?_)
  ·obtain ⟨_, _, rfl⟩ := pv
   rw [List.length_map]
   refine small (Nat.le_trans (List.length_filter_le _ _) ?_)
   rw [List.length_take]
   omega
  ·rw [pv.2.1]
   exact SqL.of hsold6
  ·obtain ⟨⟨v, rfl⟩, rfl, rfl⟩ := pv
   rw [List.getElem?_map] at hx
   obtain ⟨wa, hwa, rfl⟩ := Option.map_eq_some_iff.mp hx
   refine ⟨_, rfl, _, rfl, wa, b.u, rfl, by have := okb.um; omega, _, rfl, ?_⟩
   refine zc0 (fun c => ?_) (fun c => ?_)
   ·refine ⟨_, rfl, ⟨_, rfl⟩, rfl, ?_⟩
    rw [zct hwa true c, if_pos rfl, zcx]
    rfl
   ·refine ⟨⟨_, rfl⟩, rfl, ?_⟩
    rw [zct hwa false (Bool.eq_false_iff.mpr c), if_neg Bool.false_ne_true, List.append_nil]
  obtain ⟨_, rfl, rfl⟩ := pv
  rw [lsl, List.take_length]
  obtain ⟨so_, eso⟩ : ∃ so_, so_ = (za3 m (zaq L C)).filter fun w => w.testBit b.u := ⟨_, rfl⟩
  rw [← eso]
  have fso : so_.length ≤ 600 := by
   rw [eso]
   exact Nat.le_trans (List.length_filter_le _ _) (by omega)
  have lso : (zak so_).length = so_.length := List.length_map _
  have nso : so ≠ due := fun z => by
   rw [z, hzs] at hso
   cases hso
  have s8 := zag hso (.lst (zak so_))
  have g8 : L2.upd H7 so (.lst (zak so_)) so = some (.lst (zak so_)) := zad
  generalize L2.upd H7 so (.lst (zak so_)) = H8 at s8 g8 ⊢
  refine ⟨_, rfl, so, rfl, ⟨_, SqL.of g8⟩, ?_⟩
  refine zdf (K := K) (a := so) (xs := zak so_) (fun j ys σ H9 => (∃ v, σ = [v, some (.int b.lo), some (.ref pk)]) ∧ Same H8 H9 ∧ ys = zak ((so_.take j).filter fun w => decide ((cnt b.ks w : Int) = b.lo))) ⟨⟨none, rfl⟩, Same.refl _, rfl⟩ (fun j ys σ H9 hj pv => ?_) (fun j ys σ H9 hj pv => ?_) (fun j x ys σ H9 hx pv => ?_) (fun ys σ H9 pv l9 hl9 => ?_)
  ·obtain ⟨_, _, rfl⟩ := pv
   rw [List.length_map]
   refine small (Nat.le_trans (List.length_filter_le _ _) ?_)
   rw [List.length_take]
   omega
  ·exact SqL.of (pv.2.1 _ _ g8)
  ·obtain ⟨⟨v, rfl⟩, s9, rfl⟩ := pv
   rw [List.getElem?_map] at hx
   obtain ⟨wa, hwa, rfl⟩ := Option.map_eq_some_iff.mp hx
   refine ⟨_, rfl, _, rfl, pk, b.ks, wa, rfl, s9 _ _ (s8 _ _ hpk), by have := okb.few; omega, kle, fun HA sA => ?_⟩
   refine ⟨_, rfl, rfl, _, rfl, ?_⟩
   by_cases c2 : (cnt b.ks wa : Int) = b.lo
   ·refine zep (by rw [c2]) ?_
    refine ⟨_, rfl, ⟨_, rfl⟩, s9.trans sA, ?_⟩
    rw [zct hwa true (decide_eq_true c2), if_pos rfl, zcx]
    rfl
   ·refine zcm (fun z => c2 (by injection z)) ?_
    refine ⟨⟨_, rfl⟩, s9.trans sA, ?_⟩
    rw [zct hwa false (decide_eq_false c2), if_neg Bool.false_ne_true, List.append_nil]
  obtain ⟨_, s9, rfl⟩ := pv
  rw [lso, List.take_length]
  have e9 : (so_.filter fun w => decide ((cnt b.ks w : Int) = b.lo))[0]? = some wl := by
   rw [eso, zjx]
   exact ewl
  obtain ⟨fl9, ef9⟩ : ∃ fl, fl = so_.filter fun w => decide ((cnt b.ks w : Int) = b.lo) := ⟨_, rfl⟩
  rw [← ef9] at e9 ⊢
  have s9' := zag hl9 (.lst (zak fl9))
  have g9 : L2.upd H9 l9 (.lst (zak fl9)) l9 = some (.lst (zak fl9)) := zad
  generalize L2.upd H9 l9 (.lst (zak fl9)) = G9 at s9' g9 ⊢
  refine ⟨l9, fl9, rfl, g9, ?_⟩
  rw [e9, show zgc (some wl) = V.int (wl : Int) from rfl]
  have t9 := s9.trans s9'
  have s8A := s8.trans t9
  have g8A := t9 _ _ g8
  refine ⟨_, rfl, .inl ⟨rfl, _, SqL.of (s8A _ _ hzs)⟩, _, rfl, _, rfl, so, rfl, ⟨_, SqL.of g8A⟩, ?_⟩
  refine zdf (K := K) (a := so) (xs := zak so_) (fun j ys σ H10 => (∃ v, σ = [v, some (.int b.hi), some (.ref pk)]) ∧ Same G9 H10 ∧ ys = zak ((so_.take j).filter fun w => decide ((cnt b.ks w : Int) = b.hi))) ⟨⟨none, rfl⟩, Same.refl _, rfl⟩ (fun j ys σ H10 hj pv => ?_) (fun j ys σ H10 hj pv => ?_) (fun j x ys σ H10 hx pv => ?_) (fun ys σ H10 pv l10 hl10 => ?_)
  ·obtain ⟨_, _, rfl⟩ := pv
   rw [List.length_map]
   refine small (Nat.le_trans (List.length_filter_le _ _) ?_)
   rw [List.length_take]
   omega
  ·exact SqL.of (pv.2.1 _ _ g8A)
  ·obtain ⟨⟨v, rfl⟩, s9, rfl⟩ := pv
   rw [List.getElem?_map] at hx
   obtain ⟨wa, hwa, rfl⟩ := Option.map_eq_some_iff.mp hx
   refine ⟨_, rfl, _, rfl, pk, b.ks, wa, rfl, s9 _ _ (s8A _ _ hpk), by have := okb.few; omega, kle, fun HA sA => ?_⟩
   refine ⟨_, rfl, rfl, _, rfl, ?_⟩
   by_cases c2 : (cnt b.ks wa : Int) = b.hi
   ·refine zep (by rw [c2]) ?_
    refine ⟨_, rfl, ⟨_, rfl⟩, s9.trans sA, ?_⟩
    rw [zct hwa true (decide_eq_true c2), if_pos rfl, zcx]
    rfl
   ·refine zcm (fun z => c2 (by injection z)) ?_
    refine ⟨⟨_, rfl⟩, s9.trans sA, ?_⟩
    rw [zct hwa false (decide_eq_false c2), if_neg Bool.false_ne_true, List.append_nil]
  obtain ⟨_, s10, rfl⟩ := pv
  rw [lso, List.take_length]
  have e10 : (so_.filter fun w => decide ((cnt b.ks w : Int) = b.hi))[0]? = some wh := by
   rw [eso, zjx]
   exact ewh
  obtain ⟨fl10, ef10⟩ : ∃ fl, fl = so_.filter fun w => decide ((cnt b.ks w : Int) = b.hi) := ⟨_, rfl⟩
  rw [← ef10] at e10 ⊢
  have s10' := zag hl10 (.lst (zak fl10))
  have g10 : L2.upd H10 l10 (.lst (zak fl10)) l10 = some (.lst (zak fl10)) := zad
  generalize L2.upd H10 l10 (.lst (zak fl10)) = G10 at s10' g10 ⊢
  refine ⟨l10, fl10, rfl, g10, ?_⟩
  rw [e10, show zgc (some wh) = V.int (wh : Int) from rfl]
  have t10 := s10.trans s10'
  have sE := s8A.trans t10
  refine ⟨small (by show 2 ≤ 1000; decide), fun tn htn => ?_⟩
  have s11 := zag htn (.tup [.int (wl : Int), .int (wh : Int)])
  have g11 : L2.upd G10 tn (.tup [.int (wl : Int), .int (wh : Int)]) tn = some (.tup [.int (wl : Int), .int (wh : Int)]) := zad
  generalize L2.upd G10 tn (.tup [.int (wl : Int), .int (wh : Int)]) = H11 at s11 g11 ⊢
  have sF := sE.trans s11
  have hz11 : H11 due = some (.lst zs) := sF _ _ hzs
  refine ⟨due, zs, .ref tn, rfl, rfl, hz11, small (by omega), ?_⟩
  have x12 : SameX due H5 (L2.upd H11 due (.lst (zs ++ [.ref tn]))) := (x6.trans (Same.x sF)).trans (za2 _)
  refine ⟨⟨_, _, _, _, _, _, rfl⟩, ⟨x12, Same.put (s06.trans sF) hdue hz11⟩, zs ++ [.ref tn], zad, ?_⟩
  have tE : zh9 H7 (L2.upd H11 due (.lst (zs ++ [.ref tn]))) := zda (Same.tup sF) (zet hz11 (fun _ z => nomatch z))
  rw [List.take_add_one, hb, Option.toList_some, List.map_append]
  refine DnL.append (DnL.tupS (n := 2) tE ze5 dz) ?_
  refine ⟨.ref tn, [], rfl, ⟨tn, _, rfl, zet hz11 (fun _ z => nomatch z) _ _ g11, ?_⟩, rfl⟩
  rw [ewl, ewh]
  exact ⟨_, _, rfl, rfl, _, _, rfl, rfl, rfl⟩
 ·rintro σ H6 ⟨⟨v3, v4, v5, v6, v7, v8, rfl⟩, ⟨x6, s06⟩, zs, hzs, dz⟩
  rw [lxb, List.take_length] at dz
  exact ⟨_, rfl, q due zs H6 s06 hdue hzs dz⟩
end
section
variable {P : Program} {w : World} {K : PySem.W.Frag} {mg : Str → Option Value} {base : Heap} {a : Adr} {d : Fds}
theorem zjj (T : Txt K mg a d) : zbi P w K mg base CX0 6 a.f_law_needed d.f_law_needed ["_law_wood_here"] zp0 := by
 have G_law_keeping := zd7 (P := P) (w := w) (base := base) T
 have G_law_first := zgt (P := P) (w := w) (base := base) T
 have G_keeps := zh4 (P := P) (w := w) (base := base) T
 refine T.K_law_needed.ok sc_law_needed (fun vs H Q E h => ?_) (fun cdv A outer s H vs Q E hr h => ?_)
 ·obtain ⟨wd, tb, tc, m, L, C, rfl, _⟩ := h
  rfl
 obtain ⟨wd, tb, tc, m, L, C, rfl, W, q⟩ := h
 have p62 : (2 : Int) ^ 62 = 4611686018427387904 := by decide
 obtain ⟨xb, htb, dB⟩ := W.bs
 obtain ⟨yc, htc, dC⟩ := W.cs
 have lxb : xb.length = L.length := by rw [← dB.length, List.length_map, List.length_map]
 have lyc : yc.length = C.length := by rw [← dC.length, List.length_map]
 have m1 := W.m1
 have m9 := W.m9
 have fb := W.fewb
 have fc := W.fewc
 refine ⟨_, (zaf (zau (i := 1) sc_law_needed.nd rfl (Or.inl rfl) (zc4 zac))
   (zaf (ze4 PassesOwn.never rfl (zdq rfl T.m_range (zaa (zaw (zde (K := K)) rfl T.m_len PySem.boot_len (zaa (zao (ixT (K := K)) (pv 0) zae (fun _ _ => rfl)) zac)) zac)) (zaz (i := 2) sc_law_needed.nd rfl (Or.inr rfl)) (zaf (zau (i := 3) sc_law_needed.nd rfl (Or.inl rfl) (za7 zkk (zbd zdk rfl T.m_list PyProof.Rows.boot_list (zaa (zao (ixT (K := K)) (pv 0) zae (fun _ _ => rfl)) zac)) (zdt (sc0 := zab zbo) (XN := ["_law_wood_here", "_law_due", "_law_at", "_law_others", "_law_some"]) (N' := ["_law_k", "_law_wood_here", "_law_at"]) (n := 1) (kp := [0, 2]) rfl (zdq rfl T.m_range (zaa (zaw (zde (K := K)) rfl T.m_len PySem.boot_len (zaa (zao (ixT (K := K)) (pv 0) zae (fun _ _ => rfl)) zac)) zac)) rfl rfl (by decide +kernel) (fun _ _ _ _ _ => (zaz (i := 0) (by show List.Nodup (["_law_k", "_law_wood_here", "_law_at"] : List Str); decide +kernel) rfl (Or.inl rfl))) (fun _ _ _ _ _ => (zcf (zat zvf (pv 0) (pv 2) (zax _)))) (fun _ _ _ _ _ => (zao (ixT (K := K)) (zao (ixT (K := K)) (pv 1) zae (fun _ _ => rfl)) (pv 0) (fun _ _ => rfl))))))
   (zaf (zeq (i := 4) sc_law_needed.nd rfl rfl rfl (sc0 := zab zbo) (XN := ["_law_wood_here", "_law_due", "_law_at", "_law_others", "_law_some"]) (N' := ["_law_one", "_law_at", "_law_wood_here"]) (n := 1) (kp := [2, 0]) rfl (piL (K := K) (zah G_law_keeping hr.lv rfl T.g_law_keeping T.K_law_keeping.kp T.B_law_keeping .nil zan (zaa (zao (ixT (K := K)) (pv 0) zae (fun _ _ => rfl)) (zaa (pv 3) zac)))) rfl rfl (by decide +kernel) (fun _ _ _ _ _ => (zaz (i := 0) (by show List.Nodup (["_law_one", "_law_at", "_law_wood_here"] : List Str); decide +kernel) rfl (Or.inl rfl))) (fun _ _ _ _ _ => (zcf (zfl (zcv (zah G_keeps hr.lv rfl T.g_keeps T.K_keeps.kp T.B_keeps .nil zan (zaa (zao (ixT (K := K)) (zao (ixT (K := K)) (pv 2) zae (fun _ _ => rfl)) (pv 1) (fun _ _ => rfl)) (zaa (pv 0) zac))))))) (fun _ _ _ _ _ => (pv 0)))
   (zaj (zdj (zc5 (K := K) PySem.F.plainAttrs_list PySem.F.slot_list_append PySem.F.type_list_append zcy (pv 1) (zaa (zah G_law_first hr.lv rfl T.g_law_first T.K_law_first.kp T.B_law_first .nil zan (zaa (pv 4) zac)) zac)))))))
   (zaj (zar (pv 1))))), ?_⟩
 refine ⟨small (by show 0 ≤ 1000; decide), fun due hdue => ?_⟩
 have s1 := zag hdue (.lst [])
 have g1 : L2.upd H due (.lst []) due = some (.lst []) := zad
 generalize L2.upd H due (.lst []) = H1 at s1 g1 ⊢
 refine ⟨_, rfl, wd, _, _, _, rfl, rfl, sqT (s1 _ _ W.at_), at2, tc, _, rfl, .inr (sqT (s1 _ _ htc)), _, rfl, by rw [p62]; omega, by rw [p62]; omega, ?_⟩
 rw [Int.toNat_natCast, lyc]
 refine zi8 (n := C.length) (fun i σ H2 => (∃ v2 v3 v4 : Option V, σ = [some (.ref wd), some (.ref due), v2, v3, v4]) ∧ Same H H2 ∧ H2 due = some (.lst ((List.range i).map fun p => zgc (zcr m (L.map Bg.tie) C p)))) ⟨⟨none, none, none, rfl⟩, s1, g1⟩ ?_ ?_
 ·rintro i σ H2 hi ⟨⟨v2, v3, v4, rfl⟩, s2, hdu⟩
  refine ⟨_, rfl, wd, _, _, _, rfl, rfl, sqT (s2 _ _ W.at_), at1, tb, _, rfl, .inr (sqT (s2 _ _ htb)), fun la hla => ?_⟩
  have s3 := zag hla (.lst xb)
  have g3 : L2.upd H2 la (.lst xb) la = some (.lst xb) := zad
  generalize L2.upd H2 la (.lst xb) = H3 at s3 g3 ⊢
  have s03 := s2.trans s3
  refine ⟨_, rfl, wd, _, _, _, rfl, rfl, sqT (s03 _ _ W.at_), at2, tc, _, rfl, .inr (sqT (s03 _ _ htc)), _, rfl, by rw [p62]; omega, by rw [p62]; omega, ?_⟩
  rw [Int.toNat_natCast, lyc]
  refine zeo (k := C.length) (fun j zs σ H4 => (∃ v, σ = [v, some (.ref wd), some (.int (i : Int))]) ∧ H4 = H3 ∧ zs = (yc.take j).eraseIdx i) ⟨⟨none, rfl⟩, rfl, rfl⟩ (fun j zs σ H4 hj pv => ?_) (fun j zs σ H4 hj pv => ?_) (fun zs σ H4 pv lc hlc => ?_)
  ·obtain ⟨_, _, rfl⟩ := pv
   refine small (Nat.le_trans (List.length_eraseIdx_le _ _) ?_)
   rw [List.length_take]
   omega
  ·obtain ⟨⟨v, rfl⟩, rfl, rfl⟩ := pv
   have hy : yc[j]? = some yc[j] := List.getElem?_eq_getElem (by omega)
   refine ⟨_, rfl, _, rfl, rfl, _, rfl, ?_⟩
   by_cases e : j = i
   ·refine zu4 (by rw [e]) ?_
    refine ⟨⟨_, rfl⟩, rfl, ?_⟩
    exact (zjm (by omega) e).symm
   ·refine zvh (fun z => e ?_) ?_
    ·injection z with z
     omega
    refine ⟨_, rfl, wd, _, _, _, rfl, rfl, sqT (s03 _ _ W.at_), at2, _, rfl, tc, _, _, yc[j], rfl, rfl, sqT (s03 _ _ htc), zc8 hy, ⟨_, rfl⟩, rfl, ?_⟩
    exact (zjr hy e).symm
  obtain ⟨_, rfl, rfl⟩ := pv
  rw [← lyc, List.take_length]
  have s5 := zag hlc (.lst (yc.eraseIdx i))
  have g5 : L2.upd H4 lc (.lst (yc.eraseIdx i)) lc = some (.lst (yc.eraseIdx i)) := zad
  have g5a := s5 _ _ g3
  generalize L2.upd H4 lc (.lst (yc.eraseIdx i)) = H5 at s5 g5 g5a ⊢
  have el : (yc.eraseIdx i).length ≤ 20 := Nat.le_trans (List.length_eraseIdx_le _ _) (by omega)
  refine ⟨la, lc, _, _, rfl, rfl, g5a, g5, small (by omega), fun lo hlo => ?_⟩
  have s6 := zag hlo (.lst (xb ++ yc.eraseIdx i))
  have g6 : L2.upd H5 lo (.lst (xb ++ yc.eraseIdx i)) lo = some (.lst (xb ++ yc.eraseIdx i)) := zad
  generalize L2.upd H5 lo (.lst (xb ++ yc.eraseIdx i)) = H6 at s6 g6 ⊢
  have s26 := (s3.trans s5).trans s6
  have s06 := s2.trans s26
  have dO : DnL H6 ((L.map Bg.tie ++ C.eraseIdx i).map Tie.toD) (xb ++ yc.eraseIdx i) := by
   have dC6 := DnL.same s06 _ _ dC
   rw [List.map_append, List.eraseIdx_eq_take_drop_succ, List.eraseIdx_eq_take_drop_succ, List.map_append, List.map_take, List.map_drop]
   exact (DnL.same s06 _ _ dB).append ((DnL.take i dC6).append (DnL.drop (i + 1) dC6))
  refine ⟨_, rfl, wd, _, _, _, rfl, rfl, sqT (s06 _ _ W.at_), at0, _, rfl, lo, _, m, L.map Bg.tie ++ C.eraseIdx i, rfl, g6, dO, ?_, m1, m9, ?_, fun ls H7 s7 nls hls => ?_⟩
  ·intro c hc
   rcases List.mem_append.mp hc with z | z
   ·exact W.ok c (List.mem_append.mpr (.inl z))
   ·exact W.okc c (List.mem_of_mem_eraseIdx z)
  ·rw [List.length_append, List.length_map]
   have := List.length_eraseIdx_le C i
   omega
  have s07 := s06.trans s7
  have hcp : C[i]? = some C[i] := List.getElem?_eq_getElem hi
  obtain ⟨wl, ewl⟩ : ∃ wl, wl = za3 m (L.map Bg.tie ++ C.eraseIdx i) := ⟨_, rfl⟩
  have few := zf6 (m := m) (ts := L.map Bg.tie ++ C.eraseIdx i) m9
  rw [← ewl] at hls few
  have lwl : (zak wl).length = wl.length := List.length_map _
  refine ⟨ls, rfl, ⟨_, SqL.of hls⟩, ?_⟩
  refine zdf (K := K) (a := ls) (xs := zak wl) (fun j ys σ H8 => (∃ v, σ = [v, some (.int (i : Int)), some (.ref wd)]) ∧ Same H7 H8 ∧ ys = zak ((wl.take j).filter fun s => !C[i].keep s)) ⟨⟨none, rfl⟩, Same.refl _, rfl⟩ (fun j ys σ H8 hj pv => ?_) (fun j ys σ H8 hj pv => ?_) (fun j x ys σ H8 hx pv => ?_) (fun ys σ H8 pv ln hln => ?_)
  ·obtain ⟨_, _, rfl⟩ := pv
   rw [List.length_map]
   refine small (Nat.le_trans (List.length_filter_le _ _) ?_)
   rw [List.length_take]
   omega
  ·exact SqL.of (pv.2.1 _ _ hls)
  ·obtain ⟨⟨v, rfl⟩, s8, rfl⟩ := pv
   rw [List.getElem?_map] at hx
   obtain ⟨wa, hwa, rfl⟩ := Option.map_eq_some_iff.mp hx
   have s08 := s07.trans s8
   obtain ⟨vc, hv, dv⟩ := DnL.get' (i := i) (d := C[i].toD) (DnL.same s08 _ _ dC) (by rw [List.getElem?_map, hcp]; rfl)
   refine ⟨_, rfl, wd, _, _, _, rfl, rfl, sqT (s08 _ _ W.at_), at2, _, rfl, tc, _, _, vc, rfl, rfl, sqT (s08 _ _ htc), zc8 hv, _, rfl, C[i], m, wa, vc, rfl, dv, W.okc _ (List.getElem_mem hi), by omega, fun HA sA => ?_⟩
   refine ⟨_, rfl, ?_⟩
   cases hk : C[i].keep wa
   ·refine zo0 ?_
    refine ⟨_, rfl, ⟨_, rfl⟩, s8.trans sA, ?_⟩
    rw [zct hwa true (by rw [hk]; rfl), if_pos rfl, zcx]
    rfl
   ·refine zf8 ?_
    refine ⟨⟨_, rfl⟩, s8.trans sA, ?_⟩
    rw [zct hwa false (by rw [hk]; rfl), if_neg Bool.false_ne_true, List.append_nil]
  obtain ⟨_, s8, rfl⟩ := pv
  rw [lwl, List.take_length]
  have e9 : (wl.filter fun s => !C[i].keep s)[0]? = zcr m (L.map Bg.tie) C i := by rw [ewl]; exact zr0 hcp
  obtain ⟨fl, ef⟩ : ∃ fl, fl = wl.filter fun s => !C[i].keep s := ⟨_, rfl⟩
  rw [← ef] at e9 ⊢
  have s9 := zag hln (.lst (zak fl))
  have g9 : L2.upd H8 ln (.lst (zak fl)) ln = some (.lst (zak fl)) := zad
  generalize L2.upd H8 ln (.lst (zak fl)) = H9 at s9 g9 ⊢
  have s29 := ((s26.trans s7).trans s8).trans s9
  have hd9 := s29 _ _ hdu
  refine ⟨_, rfl, .inl ⟨rfl, _, SqL.of hd9⟩, _, rfl, ln, fl, rfl, g9, ?_⟩
  rw [e9]
  refine ⟨due, _, _, rfl, rfl, hd9, small (by rw [List.length_map, List.length_range]; omega), ?_⟩
  refine ⟨⟨_, _, _, rfl⟩, Same.put (s2.trans s29) hdue hd9, ?_⟩
  rw [List.range_succ, List.map_append]
  exact zad
 ·rintro σ H2 ⟨⟨v2, v3, v4, rfl⟩, s2, hdu⟩
  exact ⟨_, rfl, q due H2 s2 hdue hdu⟩
end
section
variable {P : Program} {w : World} {K : PySem.W.Frag} {mg : Str → Option Value} {base : Heap} {a : Adr} {d : Fds}
theorem zky (T : Txt K mg a d) : zbi P w K mg base CX0 1 a.f_law_whole d.f_law_whole ["_law_found"] zsq := by
 refine T.K_law_whole.ok zkp (fun vs H Q E h => ?_) (fun cdv A outer s H vs Q E hr h => ?_)
 ·obtain ⟨d, v, rfl, _⟩ := h
  rfl
 obtain ⟨d, v, rfl, hd, q⟩ := h
 refine ⟨_, (zaj (zar (zfb (zaw (zub (K := K)) rfl T.m_isinstance PyProof.Rows.boot_isinstance (zaa (pv 0) (zaa (zkw (v := .ty "int") rfl T.m_int PyProof.Rows.boot_int rfl) zac))) (zel (zfu (zaw (zub (K := K)) rfl T.m_isinstance PyProof.Rows.boot_isinstance (zaa (pv 0) (zaa (zkw (v := .ty "bool") rfl T.m_bool PyProof.Rows.boot_bool rfl) zac)))))))), ?_⟩
 refine ⟨_, rfl, _, _, _, _, rfl, ztf hd, zty d, _, rfl, ?_⟩
 refine zc0 (fun c => ?_) (fun c => ?_)
 ·refine ⟨_, rfl, _, _, _, _, rfl, ztf hd, zr7 d, _, rfl, ?_⟩
  have e : (!zrn d) = isW d := by
   cases d <;> first | rfl | cases c
  rw [e]
  exact q
 ·have e : isW d = false := by
   cases d <;> first | rfl | exact absurd rfl c
  rw [e] at q
  exact q
end
section
variable {P : Program} {w : World} {K : PySem.W.Frag} {mg : Str → Option Value} {base : Heap} {a : Adr} {d : Fds}
theorem zjp (T : Txt K mg a d) (LB : zgj mg base a.c_cases_of a.t_cases_of) : zbi P w K mg base CX0 27 a.f_law_folded d.f_law_folded ["_law_wood_here"] (spT a.t_cases_of zr5) := by
 refine T.K_law_folded.ok sc_law_folded (fun vs H Q E h => ?_) (fun cdv A outer s H vs Q E hr h => ?_)
 ·obtain ⟨_, wd, tb, tc, m, L, C, rfl, _⟩ := h
  rfl
 obtain ⟨ta, wd, tb, tc, m, L, C, rfl, W0, qn, qf⟩ := h
 obtain ⟨W, hW⟩ : ∃ W : XK, W = fun cls _ H' => (∀ s, s < 2 ^ m → zbw (zaq L C) s = false) ∧ cls = .ref a.x_NoWares ∧ Same H H' := ⟨_, rfl⟩
 by_cases ware : ∃ s, s < 2 ^ m ∧ zbw (zaq L C) s = true
 ·have G_folded := zj4 (P := P) (w := w) (base := base) T LB
  refine ⟨_, (zaf (zau (i := 1) sc_law_folded.nd rfl (Or.inl rfl) zdo)
   (zaf (zoc (W := W) rfl rfl (fun _ => (zaj (zau (i := 1) sc_law_folded.nd rfl (Or.inl rfl) (zah G_folded hr.lv rfl T.g_folded T.K_folded.kp T.B_folded .nil zan (zaa (pv 0) zac))))) rfl T.g_NoWares T.x_NoWares.cl (fun _ => (zaj (zau (i := 1) sc_law_folded.nd rfl (Or.inl rfl) zdo))))
   (zaj (zar (pv 1))))), ?_⟩
  refine ⟨⟨_, rfl, ta, wd, tb, tc, m, L, C, rfl, W0, ware, fun f L2 H' s' F => ?_⟩, ?_⟩
  ·exact ⟨_, rfl, qf ware f L2 H' s' F⟩
  ·intro σ' H' ea Dc hl w1 hea
   rw [hW] at w1
   obtain ⟨sw, h1, h2⟩ := ware
   rw [w1.1 sw h1] at h2
   cases h2
 ·have void : ∀ s, s < 2 ^ m → zbw (zaq L C) s = false := fun s hs => by
   rw [Bool.eq_false_iff]
   exact fun z => ware ⟨s, hs, z⟩
  have X_folded := znm (P := P) (w := w) (base := base) T LB
  refine ⟨_, (zaf (zau (i := 1) sc_law_folded.nd rfl (Or.inl rfl) zdo)
   (zaf (zoc (W := W) rfl rfl (fun _ => (zaj (zau (i := 1) sc_law_folded.nd rfl (Or.inl rfl) (zah X_folded hr.lv rfl T.g_folded T.K_folded.kp T.B_folded .nil zvs (zaa (pv 0) zac))))) rfl T.g_NoWares T.x_NoWares.cl (fun _ => (zaj (zau (i := 1) sc_law_folded.nd rfl (Or.inl rfl) zdo))))
   (zaj (zar (pv 1))))), ?_⟩
  refine ⟨⟨_, rfl, ta, wd, tb, tc, m, L, C, rfl, W0, void, fun H' s' => by rw [hW]; exact ⟨void, rfl, s'⟩⟩, ?_⟩
  intro σ' H' ea Dc hl w1 hea
  rw [hW] at w1
  obtain ⟨_, ec, sw⟩ := w1
  cases Value.ref.inj ec
  obtain ⟨v0, v1, rfl⟩ : ∃ v0 v1, σ' = [v0, v1] := by
   match σ', hl with
   | [v0, v1], _ => exact ⟨v0, v1, rfl⟩
  refine ⟨T.x_NoWares.cl, T.s_NoWares_NoWares, ?_⟩
  exact ⟨_, rfl, qn void H' sw⟩
end
section
variable {P : Program} {w : World} {K : PySem.W.Frag} {mg : Str → Option Value} {base : Heap} {a : Adr} {d : Fds}
theorem zu1 (T : Txt K mg a d) (LB : zgj mg base a.c_cases_of a.t_cases_of) : zbi P w K mg base CX0 29 a.f_law d.f_law ["_law_script"] (spT a.t_cases_of (zom K)) := by
 have G_law_wood := zlz (P := P) (w := w) (base := base) T
 have G_law_folded := zjp (P := P) (w := w) (base := base) T LB
 have G_law_keeping := zd7 (P := P) (w := w) (base := base) T
 have G_law_tight := zlc (P := P) (w := w) (base := base) T
 have G_law_needed := zjj (P := P) (w := w) (base := base) T
 have G_law_whole := zky (P := P) (w := w) (base := base) T
 have G_folded := zj4 (P := P) (w := w) (base := base) T LB
 refine T.K_law.ok sc_law (fun vs H Q E h => ?_) (fun cdv A outer s H vs Q E hr h => ?_)
 ·obtain ⟨_, p, ns, rfl, _⟩ := h
  rfl
 obtain ⟨ta, sp, ns, rfl, hS, hl, q⟩ := h
 refine ⟨_, (zaf (zau (i := 1) sc_law.nd rfl (Or.inl rfl) (zc4 (zaa (pv 0) (zaa zae zac))))
   (zaf (zau (i := 2) sc_law.nd rfl (Or.inl rfl) (zah G_law_wood hr.lv rfl T.g_law_wood T.K_law_wood.kp T.B_law_wood .nil zan (zaa (pv 1) zac)))
   (zaf (zau (i := 3) sc_law.nd rfl (Or.inl rfl) (zah G_law_folded hr.lv rfl T.g_law_folded T.K_law_folded.kp T.B_law_folded .nil zan (zaa (pv 2) zac)))
   (zaf (zbk (zat zrv (pv 3) zdo (zax _)) (zaj (zar (zcz (zgo hr.units) (zah G_law_keeping hr.lv rfl T.g_law_keeping T.K_law_keeping.kp T.B_law_keeping .nil zan (zaa (zao (ixT (K := K)) (pv 2) zae (fun _ _ => rfl)) (zaa (za7 zkk (zbd zdk rfl T.m_list PyProof.Rows.boot_list (zaa (zao (ixT (K := K)) (pv 2) zae (fun _ _ => rfl)) zac)) (zbd zdk rfl T.m_list PyProof.Rows.boot_list (zaa (zao (ixT (K := K)) (pv 2) zae (fun _ _ => rfl)) zac))) zac))) (zc4 zac) (zax _)))) za1)
   (zaf (zau (i := 4) sc_law.nd rfl (Or.inl rfl) (zah G_law_tight hr.lv rfl T.g_law_tight T.K_law_tight.kp T.B_law_tight .nil zan (zaa (zao (ixT (K := K)) (pv 3) zae (fun _ _ => rfl)) zac)))
   (zaf (zau (i := 5) sc_law.nd rfl (Or.inl rfl) (zah G_law_needed hr.lv rfl T.g_law_needed T.K_law_needed.kp T.B_law_needed .nil zan (zaa (zao (ixT (K := K)) (pv 3) zae (fun _ _ => rfl)) zac)))
   (zaf (zbk (PW.pt (zke (zat (zig hr.units) (zao (ixT (K := K)) (pv 3) zae (fun _ _ => rfl)) (pv 4) (zax _)) (zke (zat (zig hr.units) (zao (ixT (K := K)) (pv 3) zae (fun _ _ => rfl)) (pv 5) (zax _)) (zkt (zat (inS (K := K)) zdo (pv 5) (by with_unfolding_all rfl)))))) (zaj (zar zq2)) za1)
   (zaf (ze4 PassesOwn.never rfl (piL (K := K) (zao (ixT (K := K)) (pv 3) zae (fun _ _ => rfl))) (zaz (i := 6) sc_law.nd rfl (Or.inl rfl)) (zaj (zbk (PW.pt (zke (zfl (zcv (zaw (zub (K := K)) rfl T.m_isinstance PyProof.Rows.boot_isinstance (zaa (pv 6) (zaa (zkw (v := .ty "tuple") rfl T.m_tuple PyProof.Rows.boot_tuple rfl) zac))))) (zke (zfl (zcv (zah G_law_whole hr.lv rfl T.g_law_whole T.K_law_whole.kp T.B_law_whole .nil zan (zaa (zao (ixT (K := K)) (pv 6) zae (fun _ _ => rfl)) zac)))) (zkt (zfl (zcv (zah G_law_whole hr.lv rfl T.g_law_whole T.K_law_whole.kp T.B_law_whole .nil zan (zaa (zao (ixT (K := K)) (pv 6) zae (fun _ _ => rfl)) zac)))))))) (zaj (zar zq2)) za1)))
   (zaf (zbk (zat zhi (zaw (zde (K := K)) rfl T.m_len PySem.boot_len (zaa (zdt (sc0 := zab zew) (XN := ["_law_script", "_law_state", "_law_wood_here", "_law_found", "_law_tight_here", "_law_needed_here", "_law_pair", "_law_again"]) (N' := ["_law_one"]) (n := 1) (kp := []) rfl (piL (K := K) (zao (ixT (K := K)) (pv 3) zae (fun _ _ => rfl))) rfl rfl (by decide +kernel) (fun _ _ _ _ _ => (zaz (i := 0) (by show List.Nodup (["_law_one"] : List Str); decide +kernel) rfl (Or.inl rfl))) (fun _ _ _ _ _ => (zcf (zfl (zcv (zah G_law_whole hr.lv rfl T.g_law_whole T.K_law_whole.kp T.B_law_whole .nil zan (zaa (pv 0) zac)))))) (fun _ _ _ _ _ => (pv 0))) zac)) zae (zax _)) (zaj (zar zq2)) za1)
   (zaf (zdj (zc5 (K := K) PySem.F.plainAttrs_list PySem.F.slot_list_append PySem.F.type_list_append zcy (zao (ixT (K := K)) (pv 3) zae (fun _ _ => rfl)) (zaa (zb7 (zaa zae (zaa zae zac))) zac)))
   (zaf (zdj (zc5 (K := K) PySem.F.plainAttrs_list PySem.F.slot_list_append PySem.F.type_list_append zcy (zao (ixT (K := K)) (pv 3) zae (fun _ _ => rfl)) (zaa zae zac)))
   (zaf (zau (i := 7) sc_law.nd rfl (Or.inl rfl) (zah G_folded hr.lv rfl T.g_folded T.K_folded.kp T.B_folded .nil zan (zaa (pv 2) zac)))
   (zaj (zar (zfb (zcz (zgo hr.units) (zao (ixT (K := K)) (pv 7) zae (fun _ _ => rfl)) (pv 4) (zax _)) (zel (zcz (zgo hr.units) (zao (ixT (K := K)) (pv 7) zae (fun _ _ => rfl)) (pv 5) (zax _)))))))))))))))))), ?_⟩
 refine ⟨_, rfl, small (by show 2 ≤ 1000; decide), fun pen hpen => ?_⟩
 have pn := zs0 hS hl hpen
 have s1 := zag hpen (.lst [.ref sp, .int 0])
 generalize L2.upd H pen (.lst [.ref sp, .int 0]) = H1 at pn s1 ⊢
 refine ⟨_, rfl, pen, sp, ns, 0, rfl, pn, by decide, by decide, fun wd m bs cs k3 H3 x3 hp3 k30 k31 m1 m9 WX lc2 => ?_⟩
 obtain ⟨tb, tc, L, C, W, _, _⟩ := WX.parts
 have ta3 := x3.tab pn.at_ (s1.tab ta)
 have fb := W.fewb
 have fc := W.fewc
 refine ⟨_, rfl, ta3, wd, tb, tc, m, L, C, rfl, W, fun void H4 s4 => ?_, fun ware f L2' H4 s4 F => ?_⟩
 ·refine ⟨_, rfl, rfl, _, rfl, ?_⟩
  refine zep rfl ?_
  have W4 := W.same s4
  obtain ⟨xb, hxb, dxb⟩ := W4.bs
  obtain ⟨xc, hxc, dxc⟩ := W4.cs
  have lb : xb.length = L.length := by rw [← dxb.length, List.length_map, List.length_map]
  have lc : xc.length = C.length := by rw [← dxc.length, List.length_map]
  refine ⟨_, rfl, wd, _, _, _, rfl, rfl, sqT W4.at_, at0, _, rfl, wd, _, _, _, rfl, rfl, sqT W4.at_, at1, tb, _, rfl, .inr (sqT hxb), fun l1 hl1 => ?_⟩
  have s5' := zag hl1 (.lst xb)
  have g5 : L2.upd H4 l1 (.lst xb) l1 = some (.lst xb) := zad
  generalize L2.upd H4 l1 (.lst xb) = H5 at s5' g5 ⊢
  refine ⟨_, rfl, wd, _, _, _, rfl, rfl, sqT (W4.same s5').at_, at2, tc, _, rfl, .inr (sqT (s5' _ _ hxc)), fun l2 hl2 => ?_⟩
  have s6' := zag hl2 (.lst xc)
  have g6 : L2.upd H5 l2 (.lst xc) l2 = some (.lst xc) := zad
  have g6b := s6' _ _ g5
  generalize L2.upd H5 l2 (.lst xc) = H6 at s6' g6 g6b ⊢
  refine ⟨l1, l2, _, _, rfl, rfl, g6b, g6, small (by omega), fun l3 hl3 => ?_⟩
  have s7' := zag hl3 (.lst (xb ++ xc))
  have g7 : L2.upd H6 l3 (.lst (xb ++ xc)) l3 = some (.lst (xb ++ xc)) := zad
  generalize L2.upd H6 l3 (.lst (xb ++ xc)) = H7 at s7' g7 ⊢
  have s47 := (s5'.trans s6').trans s7'
  have dn7 : DnL H7 ((zaq L C).map Tie.toD) (xb ++ xc) := by
   unfold zaq
   rw [List.map_append]
   exact (DnL.same s47 _ _ dxb).append (DnL.same s47 _ _ dxc)
  refine ⟨l3, _, m, zaq L C, rfl, g7, dn7, W.ok, m1, m9, by rw [zaq, List.length_append, List.length_map]; omega, fun le H8 s8 nle hle => ?_⟩
  have e0 : za3 m (zaq L C) = [] := by
   rw [List.eq_nil_iff_forall_not_mem]
   intro s hs
   obtain ⟨h1, h2⟩ := mem_wareL.mp hs
   rw [void s h1] at h2
   cases h2
  rw [e0] at hle
  refine ⟨small (by show 0 ≤ 1000; decide), fun lz hlz => ?_⟩
  have sA' := zag hlz (.lst [])
  refine ⟨.list [], .list [], ⟨le, _, rfl, sA' _ _ hle, rfl⟩, ⟨lz, _, rfl, zad, rfl⟩, zi5, zi5, ?_⟩
  rw [zta, decide_eq_true rfl]
  exact q _
 ·refine ⟨_, rfl, rfl, _, rfl, ?_⟩
  refine zcm (fun z => nomatch z) ?_
  have tl := F.tight
  obtain ⟨w2, tb2, tc2, lt, ln, xt, ne, F2⟩ := F.parts W ware
  obtain ⟨lk, hf⟩ := F2.at_
  obtain ⟨kk, ekk⟩ : ∃ kk, kk = (za0 m (zaq L C)).length := ⟨_, rfl⟩
  have fw := F2.wood.fewb
  have fw2 := F2.wood.fewc
  have lne : (zak ne).length ≤ 20 := by
   rw [← F2.eqn, List.length_map, List.length_range]
   exact fw2
  have lxt : xt.length ≤ 20 := by
   rw [← F2.xt_.length, List.length_map]
   exact fw
  have fs := F2.fst
  rw [← F2.sold] at fs
  refine ⟨_, rfl, f, _, _, _, rfl, rfl, sqT hf, at0, w2, tb2, tc2, _, L2', _, rfl, F2.wood, fs, fun th xs H5 s5 nth hth dth => ?_⟩
  rw [F2.sold] at dth
  have s45 := s5
  refine ⟨_, rfl, f, _, _, _, rfl, rfl, sqT (s45 _ _ hf), at0, w2, tb2, tc2, _, L2', _, rfl, F2.wood.same s45, fun nh H6 s6 nnh hnh => ?_⟩
  rw [F2.eqn] at hnh
  have s46 := s45.trans s6
  have hf6 := s46 _ _ hf
  have hlt6 := s46 _ _ F2.lt_
  have hln6 := s46 _ _ F2.ln_
  have hth6 := s6 _ _ hth
  have sh := zhj (ze5 (sold := zdc m L C) (L := L2')) (by decide)
  have shn := zhj (zj0 (L := ne)) (by decide)
  refine ⟨_, rfl, f, _, _, _, rfl, rfl, sqT hf6, at2, _, rfl, .list (L2'.map (zd8 (zdc m L C))), .list (L2'.map (zd8 (zdc m L C))), ⟨lt, _, rfl, hlt6, DnL.same s46 _ _ F2.xt_⟩, ⟨th, _, rfl, hth6, DnL.same s6 _ _ dth⟩, sh, sh, _, rfl, ?_⟩
  rw [zfs _ (SeqAt.canLay_of_shaped sh)]
  refine zf8 ?_
  refine ⟨_, rfl, f, _, _, _, rfl, rfl, sqT hf6, at3, _, rfl, .list (ne.map fun k : Nat => PyData.int (k : Int)), .list (ne.map fun k : Nat => PyData.int (k : Int)), ⟨ln, _, rfl, hln6, zfd _⟩, ⟨nh, _, rfl, hnh, zfd _⟩, shn, shn, _, rfl, ?_⟩
  rw [zfs _ (SeqAt.canLay_of_shaped shn)]
  refine zf8 ?_
  refine ⟨_, rfl, nh, _, rfl, .inl (SqL.of hnh), rfl, zin ne, _, rfl, ?_⟩
  rw [if_neg Bool.false_ne_true, zn6]
  refine zf8 ?_
  refine ⟨_, rfl, f, _, _, _, rfl, rfl, sqT hf6, at2, lt, rfl, ⟨_, SqL.of hlt6⟩, ?_⟩
  have dt6 := DnL.same s46 _ _ F2.xt_
  refine zi3 (K := K) (a := lt) (xs := xt) (fun i σ H7 => (∃ v6 : Option V, σ = [some (.ref sp), some (.ref pen), some (.ref wd), some (.ref f), some (.ref th), some (.ref nh), v6, none]) ∧ H7 = H6) ⟨⟨none, rfl⟩, rfl⟩ (fun i σ H7 _ z => by rw [z.2]; exact SqL.of hlt6) ?_ ?_
  ·rintro i x σ H7 hx ⟨⟨v6, rfl⟩, rfl⟩
   obtain ⟨dd, hdd, dx⟩ := DnL.get dt6 hx
   rw [List.getElem?_map] at hdd
   obtain ⟨b, hb, rfl⟩ := Option.map_eq_some_iff.mp hdd
   obtain ⟨tp, ys, rfl, htp, y1, r1, rfl, h1, y2, r2, rfl, h2, e⟩ := zdp dx
   have z1 : y1 = .int _ := h1
   have z2 : y2 = .int _ := h2
   have z3 : r2 = [] := e
   subst z3
   refine ⟨_, rfl, .ref tp, "tuple", "tuple", true, rfl, TyOf.tup htp, zht, _, rfl, ?_⟩
   refine zf8 ?_
   refine ⟨_, rfl, tp, _, _, _, rfl, rfl, sqT htp, at0, _, _, rfl, h1, _, rfl, ?_⟩
   refine zf8 ?_
   refine ⟨_, rfl, tp, _, _, _, rfl, rfl, sqT htp, at1, _, _, rfl, h2, _, rfl, ?_⟩
   refine zf8 ?_
   exact ⟨⟨_, rfl⟩, rfl⟩
  ·rintro σ H7 ⟨⟨v6, rfl⟩, rfl⟩
   refine ⟨_, rfl, f, _, _, _, rfl, rfl, sqT hf6, at3, ln, rfl, ⟨_, SqL.of hln6⟩, ?_⟩
   refine zdf (K := K) (a := ln) (xs := zak ne) (fun j ys σ H8 => (∃ v, σ = [v]) ∧ H8 = H7 ∧ ys = []) ⟨⟨none, rfl⟩, rfl, rfl⟩ (fun j ys σ H8 hj pv => ?_) (fun j ys σ H8 hj pv => ?_) (fun j x ys σ H8 hx pv => ?_) (fun ys σ H8 pv le hle => ?_)
   ·rw [pv.2.2]
    exact small (by show 0 ≤ 1000; decide)
   ·rw [pv.2.1]
    exact SqL.of hln6
   ·obtain ⟨⟨v, rfl⟩, rfl, rfl⟩ := pv
    rw [List.getElem?_map] at hx
    obtain ⟨nv, hnv, rfl⟩ := Option.map_eq_some_iff.mp hx
    refine ⟨_, rfl, .int (nv : Int), _, rfl, rfl, _, rfl, ?_⟩
    refine zf8 ?_
    exact ⟨⟨_, rfl⟩, rfl, rfl⟩
   obtain ⟨_, rfl, rfl⟩ := pv
   have s8 := zag hle (.lst [])
   have g8 : L2.upd H8 le (.lst []) le = some (.lst []) := zad
   generalize L2.upd H8 le (.lst []) = H9 at s8 g8 ⊢
   refine ⟨le, _, rfl, .inl (SqL.of g8), _, _, rfl, rfl, _, rfl, ?_⟩
   refine zcm (by decide) ?_
   have hf9 := s8 _ _ hf6
   have hlt9 := s8 _ _ hlt6
   have hln9 := s8 _ _ hln6
   have hth9 := s8 _ _ hth6
   have hnh9 := s8 _ _ hnh
   have s49 := s46.trans s8
   refine ⟨_, rfl, f, _, _, _, rfl, rfl, sqT hf9, at2, .inl ⟨rfl, _, SqL.of hlt9⟩, small (by show 2 ≤ 1000; decide), fun t0 ht0 => ?_⟩
   have s10 := zag ht0 (.tup [.int 0, .int 0])
   generalize L2.upd H9 t0 (.tup [.int 0, .int 0]) = H10 at s10 ⊢
   have hlt10 := s10 _ _ hlt9
   have s310 := s4.trans (s49.trans s10)
   refine ⟨lt, xt, .ref t0, rfl, rfl, hlt10, small (by omega), ?_⟩
   have s311 := Same.put (o := .lst (xt ++ [.ref t0])) s310 F2.nlt hlt10
   have t11 := zet (o' := .lst (xt ++ [.ref t0])) hlt10 (fun _ z => nomatch z)
   have nn := F2.nn
   have nlth : th ≠ lt := fun z => by
    rw [z, F2.lt_] at nth
    cases nth
   have nltn : nh ≠ lt := fun z => by
    rw [z, s45 _ _ F2.lt_] at nnh
    cases nnh
   have nlnh : th ≠ ln := fun z => by
    rw [z, F2.ln_] at nth
    cases nth
   have nlnn : nh ≠ ln := fun z => by
    rw [z, s45 _ _ F2.ln_] at nnh
    cases nnh
   have hln11 : L2.upd H10 lt (.lst (xt ++ [.ref t0])) ln = some (.lst (zak ne)) := by
    rw [zam (Ne.symm nn)]
    exact s10 _ _ hln9
   have hth11 : L2.upd H10 lt (.lst (xt ++ [.ref t0])) th = some (.lst xs) := by
    rw [zam nlth]
    exact s10 _ _ hth9
   have hnh11 : L2.upd H10 lt (.lst (xt ++ [.ref t0])) nh = some (.lst (zak ne)) := by
    rw [zam nltn]
    exact s10 _ _ hnh9
   have hf11 := t11 _ _ (s10 _ _ hf9)
   generalize L2.upd H10 lt (.lst (xt ++ [.ref t0])) = H11 at s311 t11 hln11 hth11 hnh11 hf11 ⊢
   refine ⟨_, rfl, f, _, _, _, rfl, rfl, sqT hf11, at3, .inl ⟨rfl, _, SqL.of hln11⟩, ?_⟩
   refine ⟨ln, zak ne, .int 0, rfl, rfl, hln11, small (by omega), ?_⟩
   have s312 := Same.put (o := .lst (zak ne ++ [.int 0])) s311 F2.nln hln11
   have t12 := zet (o' := .lst (zak ne ++ [.int 0])) hln11 (fun _ z => nomatch z)
   have hth12 : L2.upd H11 ln (.lst (zak ne ++ [.int 0])) th = some (.lst xs) := by
    rw [zam nlnh]
    exact hth11
   have hnh12 : L2.upd H11 ln (.lst (zak ne ++ [.int 0])) nh = some (.lst (zak ne)) := by
    rw [zam nlnn]
    exact hnh11
   generalize L2.upd H11 ln (.lst (zak ne ++ [.int 0])) = H12 at s312 t12 hth12 hnh12 ⊢
   have t612 := zda (zda (zda (Same.tup s8) (Same.tup s10)) t11) t12
   have dth12 := DnL.tupS (n := 2) (zda (Same.tup s6) t612) ze5 dth
   have W12 := W.same s312
   refine ⟨_, rfl, s312.tab ta3, wd, tb, tc, m, L, C, rfl, W12, ware, fun f' L3 H13 s13 F' => ?_⟩
   have e3 : L3 = L2' := TightL.unique F'.tight tl
   subst e3
   obtain ⟨w3, tb3, tc3, lt3, ln3, xt3, ne3, F3⟩ := F'.parts W12 ware
   obtain ⟨lk3, hf3⟩ := F3.at_
   have ene : zak ne3 = zak ne := by rw [← F3.eqn, F2.eqn]
   have hln3 := F3.ln_
   rw [ene] at hln3
   refine ⟨_, rfl, f', _, _, _, rfl, rfl, sqT hf3, at2, _, rfl, .list (L3.map (zd8 (zdc m L C))), .list (L3.map (zd8 (zdc m L C))), ⟨lt3, _, rfl, F3.lt_, F3.xt_⟩, ⟨th, _, rfl, s13 _ _ hth12, DnL.same s13 _ _ dth12⟩, sh, sh, _, rfl, ?_⟩
   rw [zfs _ (SeqAt.canLay_of_shaped sh)]
   refine zo0 ?_
   refine ⟨_, rfl, f', _, _, _, rfl, rfl, sqT hf3, at3, _, rfl, .list (ne.map fun k : Nat => PyData.int (k : Int)), .list (ne.map fun k : Nat => PyData.int (k : Int)), ⟨ln3, _, rfl, hln3, zfd _⟩, ⟨nh, _, rfl, s13 _ _ hnh12, zfd _⟩, shn, shn, ?_⟩
   rw [zfs _ (SeqAt.canLay_of_shaped shn)]
   exact q _
end
@[elab_as_elim] theorem zh2 {α : Type} {R : List α → Prop} : ∀ us : List α, us.length = 1 → (∀ x0, R [x0]) → R us | [x0], _, h => h x0
@[elab_as_elim] theorem len2 {α : Type} {R : List α → Prop} : ∀ us : List α, us.length = 2 → (∀ x0 x1, R [x0, x1]) → R us | [x0, x1], _, h => h x0 x1
@[elab_as_elim] theorem zkj {α : Type} {R : List α → Prop} : ∀ us : List α, us.length = 3 → (∀ x0 x1 x2, R [x0, x1, x2]) → R us | [x0, x1, x2], _, h => h x0 x1 x2
@[elab_as_elim] theorem zuh {α : Type} {R : List α → Prop} : ∀ us : List α, us.length = 4 → (∀ x0 x1 x2 x3, R [x0, x1, x2, x3]) → R us | [x0, x1, x2, x3], _, h => h x0 x1 x2 x3
@[elab_as_elim] theorem zwc {α : Type} {R : List α → Prop} : ∀ us : List α, us.length = 5 → (∀ x0 x1 x2 x3 x4, R [x0, x1, x2, x3, x4]) → R us | [x0, x1, x2, x3, x4], _, h => h x0 x1 x2 x3 x4
theorem all_mk {l : PySem.W.OpenLaw} {w : World} {K : PySem.W.Frag} {h : Heap} {mg : Str → Option Value} {fa f1 f2 f3 f4 f5 f6 f7 f8 f9 f10 f11 f12 f13 f14 f15 f16 f17 f18 f19 f20 f21 f22 f23 f24 f25 f26 f27 f28 f29 f30 f31 f32 f33 f34 f35 f36 f37 f38 f39 f40 f41 f42 cc15 tt15 y_NoWares : Addr} (X : K.In h) (G : h.Ns mainGlobals mg) (hfa : mg "law" = some (.ref fa))
  {od1 an1 od2 an2 od3 an3 od4 an4 od5 an5 od6 an6 od7 an7 od8 an8 od9 an9 od10 an10 od11 an11 od12 an12 od13 an13 od14 an14 od15 an15 od16 an16 od17 an17 od18 an18 od19 an19 od20 an20 od21 an21 od22 an22 od23 an23 od24 an24 od25 an25 od26 an26 od27 an27 od28 an28 od29 an29 od30 an30 od31 an31 od32 an32 od33 an33 od34 an34 od35 an35 od36 an36 od37 an37 od38 an38 od39 an39 od40 an40 od41 an41 od42 an42 : Option Addr} {sl1 sl2 sl3 sl4 sl5 sl6 sl7 sl8 sl9 sl10 sl11 sl12 sl13 sl14 sl15 sl16 sl17 sl18 sl19 sl20 sl21 sl22 sl23 sl24 sl25 sl26 sl27 sl28 sl29 sl30 sl31 sl32 sl33 sl34 sl35 sl36 sl37 sl38 sl39 sl40 sl41 sl42 : Array (Option Value)} {kV1 dc1 pm1 ct1 oc1 cd1 kV2 dc2 pm2 ct2 oc2 cd2 kV3 dc3 pm3 ct3 oc3 cd3 kV4 dc4 pm4 ct4 oc4 cd4 kV5 dc5 pm5 ct5 oc5 cd5 kV6 dc6 pm6 ct6 oc6 cd6 kV7 dc7 pm7 ct7 oc7 cd7 kV8 dc8 pm8 ct8 oc8 cd8 kV9 dc9 pm9 ct9 oc9 cd9 kV10 dc10 pm10 ct10 oc10 cd10 kV11 dc11 pm11 ct11 oc11 cd11 kV12 dc12 pm12 ct12 oc12 cd12 kV13 dc13 pm13 ct13 oc13 cd13 kV14 dc14 pm14 ct14 oc14 cd14 kV15 dc15 pm15 ct15 oc15 kV16 dc16 pm16 ct16 oc16 cd16 kV17 dc17 pm17 ct17 oc17 cd17 kV18 dc18 pm18 ct18 oc18 cd18 kV19 dc19 pm19 ct19 oc19 cd19 kV20 dc20 pm20 ct20 oc20 cd20 kV21 dc21 pm21 ct21 oc21 cd21 kV22 dc22 pm22 ct22 oc22 cd22 kV23 dc23 pm23 ct23 oc23 cd23 kV24 dc24 pm24 ct24 oc24 cd24 kV25 dc25 pm25 ct25 oc25 cd25 kV26 dc26 pm26 ct26 oc26 cd26 kV27 dc27 pm27 ct27 oc27 cd27 kV28 dc28 pm28 ct28 oc28 cd28 kV29 dc29 pm29 ct29 oc29 cd29 kV30 dc30 pm30 ct30 oc30 cd30 kV31 dc31 pm31 ct31 oc31 cd31 kV32 dc32 pm32 ct32 oc32 cd32 kV33 dc33 pm33 ct33 oc33 cd33 kV34 dc34 pm34 ct34 oc34 cd34 kV35 dc35 pm35 ct35 oc35 cd35 kV36 dc36 pm36 ct36 oc36 cd36 kV37 dc37 pm37 ct37 oc37 cd37 kV38 dc38 pm38 ct38 oc38 cd38 kV39 dc39 pm39 ct39 oc39 cd39 kV40 dc40 pm40 ct40 oc40 cd40 kV41 dc41 pm41 ct41 oc41 cd41 kV42 dc42 pm42 ct42 oc42 cd42 : Value}
  {coc15 : Value} {cod15 : Option Addr} {cvs15 : Array Value} {csl15 : Array (Option Value)}
  (a1 : PySem.W.nsIn K mainGlobals "has" = some (some (.ref f1))) (l1 : K.lookup f1 = some ⟨oc1, od1, .func (PySem.W.fnOf "has" "has" (zal zgx) (zai zgx) (zab zgx) .none kV1 dc1 pm1 an1 cd1 ct1), sl1⟩) (c1 : PySem.W.codeIn K cd1 "has" = true) (k1 : PySem.W.keepIn K (.ref f1) = true)
  (a2 : PySem.W.nsIn K mainGlobals "with_option" = some (some (.ref f2))) (l2 : K.lookup f2 = some ⟨oc2, od2, .func (PySem.W.fnOf "with_option" "with_option" (zal zb0) (zai zb0) (zab zb0) .none kV2 dc2 pm2 an2 cd2 ct2), sl2⟩) (c2 : PySem.W.codeIn K cd2 "with_option" = true) (k2 : PySem.W.keepIn K (.ref f2) = true)
  (a3 : PySem.W.nsIn K mainGlobals "open_options" = some (some (.ref f3))) (l3 : K.lookup f3 = some ⟨oc3, od3, .func (PySem.W.fnOf "open_options" "open_options" (zal zbe) (zai zbe) (zab zbe) .none kV3 dc3 pm3 an3 cd3 ct3), sl3⟩) (c3 : PySem.W.codeIn K cd3 "open_options" = true) (k3 : PySem.W.keepIn K (.ref f3) = true)
  (a4 : PySem.W.nsIn K mainGlobals "many_ties" = some (some (.ref f4))) (l4 : K.lookup f4 = some ⟨oc4, od4, .func (PySem.W.fnOf "many_ties" "many_ties" (zal zcp) (zai zcp) (zab zcp) .none kV4 dc4 pm4 an4 cd4 ct4), sl4⟩) (c4 : PySem.W.codeIn K cd4 "many_ties" = true) (k4 : PySem.W.keepIn K (.ref f4) = true)
  (a5 : PySem.W.nsIn K mainGlobals "tie_at" = some (some (.ref f5))) (l5 : K.lookup f5 = some ⟨oc5, od5, .func (PySem.W.fnOf "tie_at" "tie_at" (zal zdg) (zai zdg) (zab zdg) .none kV5 dc5 pm5 an5 cd5 ct5), sl5⟩) (c5 : PySem.W.codeIn K cd5 "tie_at" = true) (k5 : PySem.W.keepIn K (.ref f5) = true)
  (a6 : PySem.W.nsIn K mainGlobals "keeps" = some (some (.ref f6))) (l6 : K.lookup f6 = some ⟨oc6, od6, .func (PySem.W.fnOf "keeps" "keeps" (zal zds) (zai zds) (zab zds) .none kV6 dc6 pm6 an6 cd6 ct6), sl6⟩) (c6 : PySem.W.codeIn K cd6 "keeps" = true) (k6 : PySem.W.keepIn K (.ref f6) = true)
  (a7 : PySem.W.nsIn K mainGlobals "keeps_bough" = some (some (.ref f7))) (l7 : K.lookup f7 = some ⟨oc7, od7, .func (PySem.W.fnOf "keeps_bough" "keeps_bough" (zal zby) (zai zby) (zab zby) .none kV7 dc7 pm7 an7 cd7 ct7), sl7⟩) (c7 : PySem.W.codeIn K cd7 "keeps_bough" = true) (k7 : PySem.W.keepIn K (.ref f7) = true)
  (a8 : PySem.W.nsIn K mainGlobals "count_in" = some (some (.ref f8))) (l8 : K.lookup f8 = some ⟨oc8, od8, .func (PySem.W.fnOf "count_in" "count_in" (zal zcq) (zai zcq) (zab zcq) .none kV8 dc8 pm8 an8 cd8 ct8), sl8⟩) (c8 : PySem.W.codeIn K cd8 "count_in" = true) (k8 : PySem.W.keepIn K (.ref f8) = true)
  (a9 : PySem.W.nsIn K mainGlobals "every_tie" = some (some (.ref f9))) (l9 : K.lookup f9 = some ⟨oc9, od9, .func (PySem.W.fnOf "every_tie" "every_tie" (zal zcn) (zai zcn) (zab zcn) .none kV9 dc9 pm9 an9 cd9 ct9), sl9⟩) (c9 : PySem.W.codeIn K cd9 "every_tie" = true) (k9 : PySem.W.keepIn K (.ref f9) = true)
  (a10 : PySem.W.nsIn K mainGlobals "sure_broken" = some (some (.ref f10))) (l10 : K.lookup f10 = some ⟨oc10, od10, .func (PySem.W.fnOf "sure_broken" "sure_broken" (zal zb2) (zai zb2) (zab zb2) .none kV10 dc10 pm10 an10 cd10 ct10), sl10⟩) (c10 : PySem.W.codeIn K cd10 "sure_broken" = true) (k10 : PySem.W.keepIn K (.ref f10) = true)
  (a11 : PySem.W.nsIn K mainGlobals "least_sum" = some (some (.ref f11))) (l11 : K.lookup f11 = some ⟨oc11, od11, .func (PySem.W.fnOf "least_sum" "least_sum" (zal zca) (zai zca) (zab zca) .none kV11 dc11 pm11 an11 cd11 ct11), sl11⟩) (c11 : PySem.W.codeIn K cd11 "least_sum" = true) (k11 : PySem.W.keepIn K (.ref f11) = true)
  (a12 : PySem.W.nsIn K mainGlobals "sure_broken_bough" = some (some (.ref f12))) (l12 : K.lookup f12 = some ⟨oc12, od12, .func (PySem.W.fnOf "sure_broken_bough" "sure_broken_bough" (zal zas) (zai zas) (zab zas) .none kV12 dc12 pm12 an12 cd12 ct12), sl12⟩) (c12 : PySem.W.codeIn K cd12 "sure_broken_bough" = true) (k12 : PySem.W.keepIn K (.ref f12) = true)
  (a13 : PySem.W.nsIn K mainGlobals "first_sure_broken" = some (some (.ref f13))) (l13 : K.lookup f13 = some ⟨oc13, od13, .func (PySem.W.fnOf "first_sure_broken" "first_sure_broken" (zal za5) (zai za5) (zab za5) .none kV13 dc13 pm13 an13 cd13 ct13), sl13⟩) (c13 : PySem.W.codeIn K cd13 "first_sure_broken" = true) (k13 : PySem.W.keepIn K (.ref f13) = true)
  (a14 : PySem.W.nsIn K mainGlobals "cases" = some (some (.ref f14))) (l14 : K.lookup f14 = some ⟨oc14, od14, .func (PySem.W.fnOf "cases" "cases" (zal zd0) (zai zd0) (zab zd0) .none kV14 dc14 pm14 an14 cd14 ct14), sl14⟩) (c14 : PySem.W.codeIn K cd14 "cases" = true) (k14 : PySem.W.keepIn K (.ref f14) = true)
  (a15 : PySem.W.nsIn K mainGlobals "cases_of" = some (some (.ref f15))) (l15 : K.lookup f15 = some ⟨oc15, od15, .func (PySem.W.fnOf "cases_of" "cases_of" (zal zbp) (zai zbp) (zab zbp) .none kV15 dc15 pm15 an15 (.ref cc15) ct15), sl15⟩) (c15 : PySem.W.codeIn K (.ref cc15) "cases_of" = true) (k15 : PySem.W.keepIn K (.ref f15) = true)
  (m15 : K.lookup cc15 = some ⟨coc15, cod15, .fields cvs15, csl15⟩) (n15 : (cvs15[11]? : Option Value) = some (.ref tt15))
  (a16 : PySem.W.nsIn K mainGlobals "ware_leaf" = some (some (.ref f16))) (l16 : K.lookup f16 = some ⟨oc16, od16, .func (PySem.W.fnOf "ware_leaf" "ware_leaf" (zal zck) (zai zck) (zab zck) .none kV16 dc16 pm16 an16 cd16 ct16), sl16⟩) (c16 : PySem.W.codeIn K cd16 "ware_leaf" = true) (k16 : PySem.W.keepIn K (.ref f16) = true)
  (a17 : PySem.W.nsIn K mainGlobals "told_tree" = some (some (.ref f17))) (l17 : K.lookup f17 = some ⟨oc17, od17, .func (PySem.W.fnOf "told_tree" "told_tree" (zal zb3) (zai zb3) (zab zb3) .none kV17 dc17 pm17 an17 cd17 ct17), sl17⟩) (c17 : PySem.W.codeIn K cd17 "told_tree" = true) (k17 : PySem.W.keepIn K (.ref f17) = true)
  (a18 : PySem.W.nsIn K mainGlobals "wares_in" = some (some (.ref f18))) (l18 : K.lookup f18 = some ⟨oc18, od18, .func (PySem.W.fnOf "wares_in" "wares_in" (zal zcu) (zai zcu) (zab zcu) .none kV18 dc18 pm18 an18 cd18 ct18), sl18⟩) (c18 : PySem.W.codeIn K cd18 "wares_in" = true) (k18 : PySem.W.keepIn K (.ref f18) = true)
  (a19 : PySem.W.nsIn K mainGlobals "wares" = some (some (.ref f19))) (l19 : K.lookup f19 = some ⟨oc19, od19, .func (PySem.W.fnOf "wares" "wares" (zal zdy) (zai zdy) (zab zdy) .none kV19 dc19 pm19 an19 cd19 ct19), sl19⟩) (c19 : PySem.W.codeIn K cd19 "wares" = true) (k19 : PySem.W.keepIn K (.ref f19) = true)
  (a20 : PySem.W.nsIn K mainGlobals "folded" = some (some (.ref f20))) (l20 : K.lookup f20 = some ⟨oc20, od20, .func (PySem.W.fnOf "folded" "folded" (zal zbu) (zai zbu) (zab zbu) .none kV20 dc20 pm20 an20 cd20 ct20), sl20⟩) (c20 : PySem.W.codeIn K cd20 "folded" = true) (k20 : PySem.W.keepIn K (.ref f20) = true)
  (a21 : PySem.W.nsIn K mainGlobals "boughs_left" = some (some (.ref f21))) (l21 : K.lookup f21 = some ⟨oc21, od21, .func (PySem.W.fnOf "boughs_left" "boughs_left" (zal zbm) (zai zbm) (zab zbm) .none kV21 dc21 pm21 an21 cd21 ct21), sl21⟩) (c21 : PySem.W.codeIn K cd21 "boughs_left" = true) (k21 : PySem.W.keepIn K (.ref f21) = true)
  (a22 : PySem.W.nsIn K mainGlobals "cross_left" = some (some (.ref f22))) (l22 : K.lookup f22 = some ⟨oc22, od22, .func (PySem.W.fnOf "cross_left" "cross_left" (zal zbx) (zai zbx) (zab zbx) .none kV22 dc22 pm22 an22 cd22 ct22), sl22⟩) (c22 : PySem.W.codeIn K cd22 "cross_left" = true) (k22 : PySem.W.keepIn K (.ref f22) = true)
  (a23 : PySem.W.nsIn K mainGlobals "tightened" = some (some (.ref f23))) (l23 : K.lookup f23 = some ⟨oc23, od23, .func (PySem.W.fnOf "tightened" "tightened" (zal zcb) (zai zcb) (zab zcb) .none kV23 dc23 pm23 an23 cd23 ct23), sl23⟩) (c23 : PySem.W.codeIn K cd23 "tightened" = true) (k23 : PySem.W.keepIn K (.ref f23) = true)
  (a24 : PySem.W.nsIn K mainGlobals "first_with" = some (some (.ref f24))) (l24 : K.lookup f24 = some ⟨oc24, od24, .func (PySem.W.fnOf "first_with" "first_with" (zal zbz) (zai zbz) (zab zbz) .none kV24 dc24 pm24 an24 cd24 ct24), sl24⟩) (c24 : PySem.W.codeIn K cd24 "first_with" = true) (k24 : PySem.W.keepIn K (.ref f24) = true)
  (a25 : PySem.W.nsIn K mainGlobals "without_needless" = some (some (.ref f25))) (l25 : K.lookup f25 = some ⟨oc25, od25, .func (PySem.W.fnOf "without_needless" "without_needless" (zal za6) (zai za6) (zab za6) .none kV25 dc25 pm25 an25 cd25 ct25), sl25⟩) (c25 : PySem.W.codeIn K cd25 "without_needless" = true) (k25 : PySem.W.keepIn K (.ref f25) = true)
  (a26 : PySem.W.nsIn K mainGlobals "first_breaking" = some (some (.ref f26))) (l26 : K.lookup f26 = some ⟨oc26, od26, .func (PySem.W.fnOf "first_breaking" "first_breaking" (zal zbc) (zai zbc) (zab zbc) .none kV26 dc26 pm26 an26 cd26 ct26), sl26⟩) (c26 : PySem.W.codeIn K cd26 "first_breaking" = true) (k26 : PySem.W.keepIn K (.ref f26) = true)
  (a27 : PySem.W.nsIn K mainGlobals "without_place" = some (some (.ref f27))) (l27 : K.lookup f27 = some ⟨oc27, od27, .func (PySem.W.fnOf "without_place" "without_place" (zal zbg) (zai zbg) (zab zbg) .none kV27 dc27 pm27 an27 cd27 ct27), sl27⟩) (c27 : PySem.W.codeIn K cd27 "without_place" = true) (k27 : PySem.W.keepIn K (.ref f27) = true)
  (a28 : PySem.W.nsIn K mainGlobals "_law_take" = some (some (.ref f28))) (l28 : K.lookup f28 = some ⟨oc28, od28, .func (PySem.W.fnOf "_law_take" "_law_take" (zal zce) (zai zce) (zab zce) .none kV28 dc28 pm28 an28 cd28 ct28), sl28⟩) (c28 : PySem.W.codeIn K cd28 "_law_take" = true) (k28 : PySem.W.keepIn K (.ref f28) = true)
  (a29 : PySem.W.nsIn K mainGlobals "_law_bough" = some (some (.ref f29))) (l29 : K.lookup f29 = some ⟨oc29, od29, .func (PySem.W.fnOf "_law_bough" "_law_bough" (zal zch) (zai zch) (zab zch) .none kV29 dc29 pm29 an29 cd29 ct29), sl29⟩) (c29 : PySem.W.codeIn K cd29 "_law_bough" = true) (k29 : PySem.W.keepIn K (.ref f29) = true)
  (a30 : PySem.W.nsIn K mainGlobals "_law_boughs" = some (some (.ref f30))) (l30 : K.lookup f30 = some ⟨oc30, od30, .func (PySem.W.fnOf "_law_boughs" "_law_boughs" (zal zbq) (zai zbq) (zab zbq) .none kV30 dc30 pm30 an30 cd30 ct30), sl30⟩) (c30 : PySem.W.codeIn K cd30 "_law_boughs" = true) (k30 : PySem.W.keepIn K (.ref f30) = true)
  (a31 : PySem.W.nsIn K mainGlobals "_law_most" = some (some (.ref f31))) (l31 : K.lookup f31 = some ⟨oc31, od31, .func (PySem.W.fnOf "_law_most" "_law_most" (zal zcd) (zai zcd) (zab zcd) .none kV31 dc31 pm31 an31 cd31 ct31), sl31⟩) (c31 : PySem.W.codeIn K cd31 "_law_most" = true) (k31 : PySem.W.keepIn K (.ref f31) = true)
  (a32 : PySem.W.nsIn K mainGlobals "_law_cross" = some (some (.ref f32))) (l32 : K.lookup f32 = some ⟨oc32, od32, .func (PySem.W.fnOf "_law_cross" "_law_cross" (zal zcl) (zai zcl) (zab zcl) .none kV32 dc32 pm32 an32 cd32 ct32), sl32⟩) (c32 : PySem.W.codeIn K cd32 "_law_cross" = true) (k32 : PySem.W.keepIn K (.ref f32) = true)
  (a33 : PySem.W.nsIn K mainGlobals "_law_wood" = some (some (.ref f33))) (l33 : K.lookup f33 = some ⟨oc33, od33, .func (PySem.W.fnOf "_law_wood" "_law_wood" (zal zbr) (zai zbr) (zab zbr) .none kV33 dc33 pm33 an33 cd33 ct33), sl33⟩) (c33 : PySem.W.codeIn K cd33 "_law_wood" = true) (k33 : PySem.W.keepIn K (.ref f33) = true)
  (a34 : PySem.W.nsIn K mainGlobals "_law_has" = some (some (.ref f34))) (l34 : K.lookup f34 = some ⟨oc34, od34, .func (PySem.W.fnOf "_law_has" "_law_has" (zal zc2) (zai zc2) (zab zc2) .none kV34 dc34 pm34 an34 cd34 ct34), sl34⟩) (c34 : PySem.W.codeIn K cd34 "_law_has" = true) (k34 : PySem.W.keepIn K (.ref f34) = true)
  (a35 : PySem.W.nsIn K mainGlobals "_law_many_of" = some (some (.ref f35))) (l35 : K.lookup f35 = some ⟨oc35, od35, .func (PySem.W.fnOf "_law_many_of" "_law_many_of" (zal zbl) (zai zbl) (zab zbl) .none kV35 dc35 pm35 an35 cd35 ct35), sl35⟩) (c35 : PySem.W.codeIn K cd35 "_law_many_of" = true) (k35 : PySem.W.keepIn K (.ref f35) = true)
  (a36 : PySem.W.nsIn K mainGlobals "_law_first" = some (some (.ref f36))) (l36 : K.lookup f36 = some ⟨oc36, od36, .func (PySem.W.fnOf "_law_first" "_law_first" (zal zcj) (zai zcj) (zab zcj) .none kV36 dc36 pm36 an36 cd36 ct36), sl36⟩) (c36 : PySem.W.codeIn K cd36 "_law_first" = true) (k36 : PySem.W.keepIn K (.ref f36) = true)
  (a37 : PySem.W.nsIn K mainGlobals "_law_keeping" = some (some (.ref f37))) (l37 : K.lookup f37 = some ⟨oc37, od37, .func (PySem.W.fnOf "_law_keeping" "_law_keeping" (zal zbb) (zai zbb) (zab zbb) .none kV37 dc37 pm37 an37 cd37 ct37), sl37⟩) (c37 : PySem.W.codeIn K cd37 "_law_keeping" = true) (k37 : PySem.W.keepIn K (.ref f37) = true)
  (a38 : PySem.W.nsIn K mainGlobals "_law_tight" = some (some (.ref f38))) (l38 : K.lookup f38 = some ⟨oc38, od38, .func (PySem.W.fnOf "_law_tight" "_law_tight" (zal zbv) (zai zbv) (zab zbv) .none kV38 dc38 pm38 an38 cd38 ct38), sl38⟩) (c38 : PySem.W.codeIn K cd38 "_law_tight" = true) (k38 : PySem.W.keepIn K (.ref f38) = true)
  (a39 : PySem.W.nsIn K mainGlobals "_law_needed" = some (some (.ref f39))) (l39 : K.lookup f39 = some ⟨oc39, od39, .func (PySem.W.fnOf "_law_needed" "_law_needed" (zal zbo) (zai zbo) (zab zbo) .none kV39 dc39 pm39 an39 cd39 ct39), sl39⟩) (c39 : PySem.W.codeIn K cd39 "_law_needed" = true) (k39 : PySem.W.keepIn K (.ref f39) = true)
  (a40 : PySem.W.nsIn K mainGlobals "_law_whole" = some (some (.ref f40))) (l40 : K.lookup f40 = some ⟨oc40, od40, .func (PySem.W.fnOf "_law_whole" "_law_whole" (zal zco) (zai zco) (zab zco) .none kV40 dc40 pm40 an40 cd40 ct40), sl40⟩) (c40 : PySem.W.codeIn K cd40 "_law_whole" = true) (k40 : PySem.W.keepIn K (.ref f40) = true)
  (a41 : PySem.W.nsIn K mainGlobals "_law_folded" = some (some (.ref f41))) (l41 : K.lookup f41 = some ⟨oc41, od41, .func (PySem.W.fnOf "_law_folded" "_law_folded" (zal zb9) (zai zb9) (zab zb9) .none kV41 dc41 pm41 an41 cd41 ct41), sl41⟩) (c41 : PySem.W.codeIn K cd41 "_law_folded" = true) (k41 : PySem.W.keepIn K (.ref f41) = true)
  (a42 : PySem.W.nsIn K mainGlobals "law" = some (some (.ref f42))) (l42 : K.lookup f42 = some ⟨oc42, od42, .func (PySem.W.fnOf "law" "law" (zal zew) (zai zew) (zab zew) .none kV42 dc42 pm42 an42 cd42 ct42), sl42⟩) (c42 : PySem.W.codeIn K cd42 "law" = true) (k42 : PySem.W.keepIn K (.ref f42) = true)
  (z1 : PySem.W.nsIn K mainGlobals "range" = some none)
  (z2 : PySem.W.nsIn K mainGlobals "len" = some none)
  (z3 : PySem.W.nsIn K mainGlobals "isinstance" = some none)
  (z4 : PySem.W.nsIn K mainGlobals "min" = some none)
  (z5 : PySem.W.nsIn K mainGlobals "max" = some none)
  (z6 : PySem.W.nsIn K mainGlobals "all" = some none)
  (z7 : PySem.W.nsIn K mainGlobals "int" = some none)
  (z8 : PySem.W.nsIn K mainGlobals "bool" = some none)
  (z9 : PySem.W.nsIn K mainGlobals "list" = some none)
  (z10 : PySem.W.nsIn K mainGlobals "tuple" = some none)
  (z11 : PySem.W.nsIn K mainGlobals "sorted" = some none)
  (z12 : PySem.W.nsIn K mainGlobals "sum" = some none)
  (z13 : PySem.W.nsIn K mainGlobals "any" = some none)
  (g_NoWares : PySem.W.nsIn K mainGlobals "NoWares" = some (some (.ref y_NoWares)))
  (xa_NoWares : PySem.W.excIn K y_NoWares znh zl5 = true) (xb_NoWares : PySem.W.findIn K (.ref y_NoWares) "__getattribute__" = some (some (.builtin "BaseException.__getattribute__"))) (xc_NoWares : PySem.W.findIn K (.ref y_NoWares) "__getattr__" = some none) (xd_NoWares : PySem.W.findIn K (.ref y_NoWares) "__class__" = some (some (.builtin "object.__class__")))
  (k_NoWares_NoWares : PySem.W.kitOne K (.ref y_NoWares) (.ref y_NoWares) = some true)
  (v_NoWares : PySem.W.kitOne K (.ref y_NoWares) (.type "ValueError") = some true)
  (s_NoWares_NoWares : zrk K y_NoWares y_NoWares = true)
  : (∃ fd : FuncData, (∀ (s : Shared) (v : Value), BindsTo s fd ⟨[v], []⟩ [("_law_script", v)]) ∧ ∀ base : Heap, K.In base → base.Ns mainGlobals mg → (∀ p ∈ ([(cc15, tt15)] : List (Addr × Addr)), zgj mg base p.1 p.2) → zbi l.prog w K mg base CX0 29 fa fd ["_law_script"] (spT tt15 (zom K))) := by
 have e := hfa.symm.trans (PySem.W.mg_of X G a42)
 cases e
 have F1 := za4 (st := zgx) l1 c1 k1
 have F2 := za4 (st := zb0) l2 c2 k2
 have F3 := za4 (st := zbe) l3 c3 k3
 have F4 := za4 (st := zcp) l4 c4 k4
 have F5 := za4 (st := zdg) l5 c5 k5
 have F6 := za4 (st := zds) l6 c6 k6
 have F7 := za4 (st := zby) l7 c7 k7
 have F8 := za4 (st := zcq) l8 c8 k8
 have F9 := za4 (st := zcn) l9 c9 k9
 have F10 := za4 (st := zb2) l10 c10 k10
 have F11 := za4 (st := zca) l11 c11 k11
 have F12 := za4 (st := zas) l12 c12 k12
 have F13 := za4 (st := za5) l13 c13 k13
 have F14 := za4 (st := zd0) l14 c14 k14
 have F15 := za4 (st := zbp) l15 c15 k15
 have F16 := za4 (st := zck) l16 c16 k16
 have F17 := za4 (st := zb3) l17 c17 k17
 have F18 := za4 (st := zcu) l18 c18 k18
 have F19 := za4 (st := zdy) l19 c19 k19
 have F20 := za4 (st := zbu) l20 c20 k20
 have F21 := za4 (st := zbm) l21 c21 k21
 have F22 := za4 (st := zbx) l22 c22 k22
 have F23 := za4 (st := zcb) l23 c23 k23
 have F24 := za4 (st := zbz) l24 c24 k24
 have F25 := za4 (st := za6) l25 c25 k25
 have F26 := za4 (st := zbc) l26 c26 k26
 have F27 := za4 (st := zbg) l27 c27 k27
 have F28 := za4 (st := zce) l28 c28 k28
 have F29 := za4 (st := zch) l29 c29 k29
 have F30 := za4 (st := zbq) l30 c30 k30
 have F31 := za4 (st := zcd) l31 c31 k31
 have F32 := za4 (st := zcl) l32 c32 k32
 have F33 := za4 (st := zbr) l33 c33 k33
 have F34 := za4 (st := zc2) l34 c34 k34
 have F35 := za4 (st := zbl) l35 c35 k35
 have F36 := za4 (st := zcj) l36 c36 k36
 have F37 := za4 (st := zbb) l37 c37 k37
 have F38 := za4 (st := zbv) l38 c38 k38
 have F39 := za4 (st := zbo) l39 c39 k39
 have F40 := za4 (st := zco) l40 c40 k40
 have F41 := za4 (st := zb9) l41 c41 k41
 have F42 := za4 (st := zew) l42 c42 k42
 have b1 := F1.binds (ps := ["some", "k"]) fun _ _ _ _ _ _ us hl => len2 us hl fun _ _ => rfl
 have b2 := F2.binds (ps := ["some", "k"]) fun _ _ _ _ _ _ us hl => len2 us hl fun _ _ => rfl
 have b3 := F3.binds (ps := ["many", "yes", "no"]) fun _ _ _ _ _ _ us hl => zkj us hl fun _ _ _ => rfl
 have b4 := F4.binds (ps := ["wood"]) fun _ _ _ _ _ _ us hl => zh2 us hl fun _ => rfl
 have b5 := F5.binds (ps := ["wood", "t"]) fun _ _ _ _ _ _ us hl => len2 us hl fun _ _ => rfl
 have b6 := F6.binds (ps := ["tie", "some"]) fun _ _ _ _ _ _ us hl => len2 us hl fun _ _ => rfl
 have b7 := F7.binds (ps := ["bough", "some"]) fun _ _ _ _ _ _ us hl => len2 us hl fun _ _ => rfl
 have b8 := F8.binds (ps := ["kids", "some"]) fun _ _ _ _ _ _ us hl => len2 us hl fun _ _ => rfl
 have b9 := F9.binds (ps := ["wood"]) fun _ _ _ _ _ _ us hl => zh2 us hl fun _ => rfl
 have b10 := F10.binds (ps := ["tie", "yes", "no"]) fun _ _ _ _ _ _ us hl => zkj us hl fun _ _ _ => rfl
 have b11 := F11.binds (ps := ["pairs", "yes", "no"]) fun _ _ _ _ _ _ us hl => zkj us hl fun _ _ _ => rfl
 have b12 := F12.binds (ps := ["bough", "yes", "no"]) fun _ _ _ _ _ _ us hl => zkj us hl fun _ _ _ => rfl
 have b13 := F13.binds (ps := ["wood", "ties", "yes", "no"]) fun _ _ _ _ _ _ us hl => zuh us hl fun _ _ _ _ => rfl
 have b14 := F14.binds (ps := ["wood", "yes", "no"]) fun _ _ _ _ _ _ us hl => zkj us hl fun _ _ _ => rfl
 have b15 := F15.binds (ps := ["wood", "ties", "yes", "no"]) fun _ _ _ _ _ _ us hl => zuh us hl fun _ _ _ _ => rfl
 have b16 := F16.binds (ps := ["wood", "yes", "no"]) fun _ _ _ _ _ _ us hl => zkj us hl fun _ _ _ => rfl
 have b17 := F17.binds (ps := ["wood", "ties", "yes", "no", "leaf_at"]) fun _ _ _ _ _ _ us hl => zwc us hl fun _ _ _ _ _ => rfl
 have b18 := F18.binds (ps := ["yes", "tree"]) fun _ _ _ _ _ _ us hl => len2 us hl fun _ _ => rfl
 have b19 := F19.binds (ps := ["wood"]) fun _ _ _ _ _ _ us hl => zh2 us hl fun _ => rfl
 have b20 := F20.binds (ps := ["wood"]) fun _ _ _ _ _ _ us hl => zh2 us hl fun _ => rfl
 have b21 := F21.binds (ps := ["boughs", "kept"]) fun _ _ _ _ _ _ us hl => len2 us hl fun _ _ => rfl
 have b22 := F22.binds (ps := ["cross", "kept"]) fun _ _ _ _ _ _ us hl => len2 us hl fun _ _ => rfl
 have b23 := F23.binds (ps := ["bough", "sold"]) fun _ _ _ _ _ _ us hl => len2 us hl fun _ _ => rfl
 have b24 := F24.binds (ps := ["sold", "bough", "count"]) fun _ _ _ _ _ _ us hl => zkj us hl fun _ _ _ => rfl
 have b25 := F25.binds (ps := ["many", "boughs", "cross"]) fun _ _ _ _ _ _ us hl => zkj us hl fun _ _ _ => rfl
 have b26 := F26.binds (ps := ["many", "boughs", "cross", "place"]) fun _ _ _ _ _ _ us hl => zuh us hl fun _ _ _ _ => rfl
 have b27 := F27.binds (ps := ["cross", "place"]) fun _ _ _ _ _ _ us hl => len2 us hl fun _ _ => rfl
 have b28 := F28.binds (ps := ["_law_state", "_law_most_here"]) fun _ _ _ _ _ _ us hl => len2 us hl fun _ _ => rfl
 have b29 := F29.binds (ps := ["_law_state", "_law_up", "_law_kids"]) fun _ _ _ _ _ _ us hl => zkj us hl fun _ _ _ => rfl
 have b30 := F30.binds (ps := ["_law_state", "_law_many"]) fun _ _ _ _ _ _ us hl => len2 us hl fun _ _ => rfl
 have b31 := F31.binds (ps := ["_law_state", "_law_many"]) fun _ _ _ _ _ _ us hl => len2 us hl fun _ _ => rfl
 have b32 := F32.binds (ps := ["_law_state", "_law_many"]) fun _ _ _ _ _ _ us hl => len2 us hl fun _ _ => rfl
 have b33 := F33.binds (ps := ["_law_state"]) fun _ _ _ _ _ _ us hl => zh2 us hl fun _ => rfl
 have b34 := F34.binds (ps := ["_law_some", "_law_k"]) fun _ _ _ _ _ _ us hl => len2 us hl fun _ _ => rfl
 have b35 := F35.binds (ps := ["_law_kids", "_law_some"]) fun _ _ _ _ _ _ us hl => len2 us hl fun _ _ => rfl
 have b36 := F36.binds (ps := ["_law_some"]) fun _ _ _ _ _ _ us hl => zh2 us hl fun _ => rfl
 have b37 := F37.binds (ps := ["_law_many", "_law_ties"]) fun _ _ _ _ _ _ us hl => len2 us hl fun _ _ => rfl
 have b38 := F38.binds (ps := ["_law_wood_here"]) fun _ _ _ _ _ _ us hl => zh2 us hl fun _ => rfl
 have b39 := F39.binds (ps := ["_law_wood_here"]) fun _ _ _ _ _ _ us hl => zh2 us hl fun _ => rfl
 have b40 := F40.binds (ps := ["_law_found"]) fun _ _ _ _ _ _ us hl => zh2 us hl fun _ => rfl
 have b41 := F41.binds (ps := ["_law_wood_here"]) fun _ _ _ _ _ _ us hl => zh2 us hl fun _ => rfl
 have b42 := F42.binds (ps := ["_law_script"]) fun _ _ _ _ _ _ us hl => zh2 us hl fun _ => rfl
 have T : Txt K mg ⟨f1, f2, f3, f4, f5, f6, f7, f8, f9, f10, f11, f12, f13, f14, f15, f16, f17, f18, f19, f20, f21, f22, f23, f24, f25, f26, f27, f28, f29, f30, f31, f32, f33, f34, f35, f36, f37, f38, f39, f40, f41, fa, cc15, tt15, y_NoWares⟩ ⟨PySem.W.fnOf "has" "has" (zal zgx) (zai zgx) (zab zgx) .none kV1 dc1 pm1 an1 cd1 ct1, PySem.W.fnOf "with_option" "with_option" (zal zb0) (zai zb0) (zab zb0) .none kV2 dc2 pm2 an2 cd2 ct2, PySem.W.fnOf "open_options" "open_options" (zal zbe) (zai zbe) (zab zbe) .none kV3 dc3 pm3 an3 cd3 ct3, PySem.W.fnOf "many_ties" "many_ties" (zal zcp) (zai zcp) (zab zcp) .none kV4 dc4 pm4 an4 cd4 ct4, PySem.W.fnOf "tie_at" "tie_at" (zal zdg) (zai zdg) (zab zdg) .none kV5 dc5 pm5 an5 cd5 ct5, PySem.W.fnOf "keeps" "keeps" (zal zds) (zai zds) (zab zds) .none kV6 dc6 pm6 an6 cd6 ct6, PySem.W.fnOf "keeps_bough" "keeps_bough" (zal zby) (zai zby) (zab zby) .none kV7 dc7 pm7 an7 cd7 ct7, PySem.W.fnOf "count_in" "count_in" (zal zcq) (zai zcq) (zab zcq) .none kV8 dc8 pm8 an8 cd8 ct8, PySem.W.fnOf "every_tie" "every_tie" (zal zcn) (zai zcn) (zab zcn) .none kV9 dc9 pm9 an9 cd9 ct9, PySem.W.fnOf "sure_broken" "sure_broken" (zal zb2) (zai zb2) (zab zb2) .none kV10 dc10 pm10 an10 cd10 ct10, PySem.W.fnOf "least_sum" "least_sum" (zal zca) (zai zca) (zab zca) .none kV11 dc11 pm11 an11 cd11 ct11, PySem.W.fnOf "sure_broken_bough" "sure_broken_bough" (zal zas) (zai zas) (zab zas) .none kV12 dc12 pm12 an12 cd12 ct12, PySem.W.fnOf "first_sure_broken" "first_sure_broken" (zal za5) (zai za5) (zab za5) .none kV13 dc13 pm13 an13 cd13 ct13, PySem.W.fnOf "cases" "cases" (zal zd0) (zai zd0) (zab zd0) .none kV14 dc14 pm14 an14 cd14 ct14, PySem.W.fnOf "cases_of" "cases_of" (zal zbp) (zai zbp) (zab zbp) .none kV15 dc15 pm15 an15 (.ref cc15) ct15, PySem.W.fnOf "ware_leaf" "ware_leaf" (zal zck) (zai zck) (zab zck) .none kV16 dc16 pm16 an16 cd16 ct16, PySem.W.fnOf "told_tree" "told_tree" (zal zb3) (zai zb3) (zab zb3) .none kV17 dc17 pm17 an17 cd17 ct17, PySem.W.fnOf "wares_in" "wares_in" (zal zcu) (zai zcu) (zab zcu) .none kV18 dc18 pm18 an18 cd18 ct18, PySem.W.fnOf "wares" "wares" (zal zdy) (zai zdy) (zab zdy) .none kV19 dc19 pm19 an19 cd19 ct19, PySem.W.fnOf "folded" "folded" (zal zbu) (zai zbu) (zab zbu) .none kV20 dc20 pm20 an20 cd20 ct20, PySem.W.fnOf "boughs_left" "boughs_left" (zal zbm) (zai zbm) (zab zbm) .none kV21 dc21 pm21 an21 cd21 ct21, PySem.W.fnOf "cross_left" "cross_left" (zal zbx) (zai zbx) (zab zbx) .none kV22 dc22 pm22 an22 cd22 ct22, PySem.W.fnOf "tightened" "tightened" (zal zcb) (zai zcb) (zab zcb) .none kV23 dc23 pm23 an23 cd23 ct23, PySem.W.fnOf "first_with" "first_with" (zal zbz) (zai zbz) (zab zbz) .none kV24 dc24 pm24 an24 cd24 ct24, PySem.W.fnOf "without_needless" "without_needless" (zal za6) (zai za6) (zab za6) .none kV25 dc25 pm25 an25 cd25 ct25, PySem.W.fnOf "first_breaking" "first_breaking" (zal zbc) (zai zbc) (zab zbc) .none kV26 dc26 pm26 an26 cd26 ct26, PySem.W.fnOf "without_place" "without_place" (zal zbg) (zai zbg) (zab zbg) .none kV27 dc27 pm27 an27 cd27 ct27, PySem.W.fnOf "_law_take" "_law_take" (zal zce) (zai zce) (zab zce) .none kV28 dc28 pm28 an28 cd28 ct28, PySem.W.fnOf "_law_bough" "_law_bough" (zal zch) (zai zch) (zab zch) .none kV29 dc29 pm29 an29 cd29 ct29, PySem.W.fnOf "_law_boughs" "_law_boughs" (zal zbq) (zai zbq) (zab zbq) .none kV30 dc30 pm30 an30 cd30 ct30, PySem.W.fnOf "_law_most" "_law_most" (zal zcd) (zai zcd) (zab zcd) .none kV31 dc31 pm31 an31 cd31 ct31, PySem.W.fnOf "_law_cross" "_law_cross" (zal zcl) (zai zcl) (zab zcl) .none kV32 dc32 pm32 an32 cd32 ct32, PySem.W.fnOf "_law_wood" "_law_wood" (zal zbr) (zai zbr) (zab zbr) .none kV33 dc33 pm33 an33 cd33 ct33, PySem.W.fnOf "_law_has" "_law_has" (zal zc2) (zai zc2) (zab zc2) .none kV34 dc34 pm34 an34 cd34 ct34, PySem.W.fnOf "_law_many_of" "_law_many_of" (zal zbl) (zai zbl) (zab zbl) .none kV35 dc35 pm35 an35 cd35 ct35, PySem.W.fnOf "_law_first" "_law_first" (zal zcj) (zai zcj) (zab zcj) .none kV36 dc36 pm36 an36 cd36 ct36, PySem.W.fnOf "_law_keeping" "_law_keeping" (zal zbb) (zai zbb) (zab zbb) .none kV37 dc37 pm37 an37 cd37 ct37, PySem.W.fnOf "_law_tight" "_law_tight" (zal zbv) (zai zbv) (zab zbv) .none kV38 dc38 pm38 an38 cd38 ct38, PySem.W.fnOf "_law_needed" "_law_needed" (zal zbo) (zai zbo) (zab zbo) .none kV39 dc39 pm39 an39 cd39 ct39, PySem.W.fnOf "_law_whole" "_law_whole" (zal zco) (zai zco) (zab zco) .none kV40 dc40 pm40 an40 cd40 ct40, PySem.W.fnOf "_law_folded" "_law_folded" (zal zb9) (zai zb9) (zab zb9) .none kV41 dc41 pm41 an41 cd41 ct41, PySem.W.fnOf "law" "law" (zal zew) (zai zew) (zab zew) .none kV42 dc42 pm42 an42 cd42 ct42⟩ := ⟨PySem.W.mg_none_of X G z1, PySem.W.mg_none_of X G z2, PySem.W.mg_none_of X G z3, PySem.W.mg_none_of X G z4, PySem.W.mg_none_of X G z5, PySem.W.mg_none_of X G z6, PySem.W.mg_none_of X G z7, PySem.W.mg_none_of X G z8, PySem.W.mg_none_of X G z9, PySem.W.mg_none_of X G z10, PySem.W.mg_none_of X G z11, PySem.W.mg_none_of X G z12, PySem.W.mg_none_of X G z13, PySem.W.mg_of X G a1, F1, b1, PySem.W.mg_of X G a2, F2, b2, PySem.W.mg_of X G a3, F3, b3, PySem.W.mg_of X G a4, F4, b4, PySem.W.mg_of X G a5, F5, b5, PySem.W.mg_of X G a6, F6, b6, PySem.W.mg_of X G a7, F7, b7, PySem.W.mg_of X G a8, F8, b8, PySem.W.mg_of X G a9, F9, b9, PySem.W.mg_of X G a10, F10, b10, PySem.W.mg_of X G a11, F11, b11, PySem.W.mg_of X G a12, F12, b12, PySem.W.mg_of X G a13, F13, b13, PySem.W.mg_of X G a14, F14, b14, PySem.W.mg_of X G a15, F15, b15, PySem.W.mg_of X G a16, F16, b16, PySem.W.mg_of X G a17, F17, b17, PySem.W.mg_of X G a18, F18, b18, PySem.W.mg_of X G a19, F19, b19, PySem.W.mg_of X G a20, F20, b20, PySem.W.mg_of X G a21, F21, b21, PySem.W.mg_of X G a22, F22, b22, PySem.W.mg_of X G a23, F23, b23, PySem.W.mg_of X G a24, F24, b24, PySem.W.mg_of X G a25, F25, b25, PySem.W.mg_of X G a26, F26, b26, PySem.W.mg_of X G a27, F27, b27, PySem.W.mg_of X G a28, F28, b28, PySem.W.mg_of X G a29, F29, b29, PySem.W.mg_of X G a30, F30, b30, PySem.W.mg_of X G a31, F31, b31, PySem.W.mg_of X G a32, F32, b32, PySem.W.mg_of X G a33, F33, b33, PySem.W.mg_of X G a34, F34, b34, PySem.W.mg_of X G a35, F35, b35, PySem.W.mg_of X G a36, F36, b36, PySem.W.mg_of X G a37, F37, b37, PySem.W.mg_of X G a38, F38, b38, PySem.W.mg_of X G a39, F39, b39, PySem.W.mg_of X G a40, F40, b40, PySem.W.mg_of X G a41, F41, b41, PySem.W.mg_of X G a42, F42, b42, rfl, PySem.W.mg_of X G g_NoWares, ⟨xa_NoWares, xb_NoWares, xc_NoWares, xd_NoWares⟩, k_NoWares_NoWares, v_NoWares, s_NoWares_NoWares⟩
 exact ⟨PySem.W.fnOf "law" "law" (zal zew) (zai zew) (zab zew) .none kV42 dc42 pm42 an42 cd42 ct42, fun s v => .of_eq rfl, fun base _ _ LL => zu1 T (LL _ List.mem_cons_self)⟩
theorem walk {l : PySem.W.OpenLaw} {q : Program} {loose : List Str} {XP : (Str → Option Value) → Heap → Prop} {YP : World → Heap → Prop} {d : DefRec} {K : Params → PySem.W.Frag} {c15 P15 : Addr} (hn : l.most = some 63) (hdf : d.params.defaults = [])
  (hY : ∀ (w : World) (h : Heap), YP w h → (K w.params).In h)
  (hK0 : ∀ w : World, PySem.W.noTabs (K w.params) = true) (hT : ∀ (w : World) (h : Heap), YP w h → PySem.W.TabsAt [(c15, P15)] h)
(F : ∀ (w : World) (mg : Str → Option Value) (fa : Addr) (h : Heap), (K w.params).In h → h.Ns mainGlobals mg → mg d.name = some (.ref fa) →
   ∃ fd : FuncData, (∀ (s : Shared) (u : Value), BindsTo s fd ⟨[u], []⟩ [("_law_script", u)]) ∧ ∀ base : Heap, (K w.params).In base → base.Ns mainGlobals mg → (∀ p ∈ ([(c15, P15)] : List (Addr × Addr)), zgj mg base p.1 p.2) → zbi l.prog w (K w.params) mg base CX0 29 fa fd ["_law_script"] (spT P15 (zom (K w.params)))) :
  PySem.W.WalkO q loose XP YP l.row.toRowW d [] (fun f vs => PySem.call f vs) :=
 L2.walk_ofT (n := 63) (k := 29) (x := "_law_script") (tabs := fun _ => [(c15, P15)]) (sp := fun w => (spT P15 (zom (K w.params)))) hn (by decide) hdf ⟨rfl, by decide, by decide⟩ hY hK0 hT F (fun _ _ a ns hl hT hS => ⟨hT _ List.mem_cons_self, a, ns, rfl, hS, hl, fun _ => rfl⟩)
end Ow
namespace PySem.W.Fast
def tw14029394361848536698 : Unit := ()
def tw14661932376485227206 : Unit := ()
def tw5486832804897805695 : Unit := ()
def tw12174866702264767684 : Unit := ()
def tw12076408025712333333 : Unit := ()
def tw16464723951748261433 : Unit := ()
def tw3473075376827376474 : Unit := ()
def tw10856874876119224009 : Unit := ()
def tw11993676309359248391 : Unit := ()
def tw4986942598106372369 : Unit := ()
def tw8819266457623359297 : Unit := ()
def tw2073886438582065748 : Unit := ()
def tw5513509148960472095 : Unit := ()
def tw13671615665311825974 : Unit := ()
def tw16624440472871893821 : Unit := ()
def tw5872616280148757120 : Unit := ()
def tw17031356663725099146 : Unit := ()
def tw17591723926702313965 : Unit := ()
def tw16439895956151826274 : Unit := ()
def tw12540936618138519429 : Unit := ()
def tw8563829209458030253 : Unit := ()
def tw8365585994668289053 : Unit := ()
def tw269671137231267316 : Unit := ()
def tw4038700102715151167 : Unit := ()
def tw1044818446435339414 : Unit := ()
def tw6501182871257602063 : Unit := ()
def tw10914469039171556128 : Unit := ()
def tw10292035261661558647 : Unit := ()
def tw2539322498805943224 : Unit := ()
def tw4070208057601853731 : Unit := ()
def tw567933122266102232 : Unit := ()
def tw15758033102900612239 : Unit := ()
def tw2809080774146504737 : Unit := ()
def tw7313529671928658084 : Unit := ()
def tw9410107347495930426 : Unit := ()
def tw4683631823836993045 : Unit := ()
def tw5014788561060274565 : Unit := ()
def tw13212799139991088967 : Unit := ()
def tw13191348276981653308 : Unit := ()
def tw14042811848124790501 : Unit := ()
def tw13245365487237274269 : Unit := ()
def tw2026832226545545710 : Unit := ()
def tw12840315097677672479 : Unit := ()
def tw8554126594529408007 : Unit := ()
def tw3798886554655565737 : Unit := ()
def tw5732120410217076252 : Unit := ()
def tw10302414639519451968 : Unit := ()
def tw2754326721831030718 : Unit := ()
def tw9622391740788206530 : Unit := ()
def tw1005192777304644702 : Unit := ()
def tw9585244275849333140 : Unit := ()
def tw4430184382728208330 : Unit := ()
def tw10613254055061742008 : Unit := ()
def tw6140047721199097557 : Unit := ()
def tw4651795262420855551 : Unit := ()
def tw7427616056531071216 : Unit := ()
def tw10640716943442224668 : Unit := ()
def tw13387408766093695090 : Unit := ()
def tw14183513808352424081 : Unit := ()
def tw10104665482281129302 : Unit := ()
def tw6483825917108053002 : Unit := ()
def tw4322134162627751987 : Unit := ()
def tw8912297699873999531 : Unit := ()
def tw8750217902866857887 : Unit := ()
def tw2516511848249691958 : Unit := ()
def tw5104369097593778936 : Unit := ()
def tw4295840128147271089 : Unit := ()
def tw11065722374498636426 : Unit := ()
def tw5188111495220365423 : Unit := ()
def tw17702783580951646152 : Unit := ()
def tw18418506647191443781 : Unit := ()
def tw8294650730446174658 : Unit := ()
def tw14254146123976223242 : Unit := ()
def tw13926248037415636233 : Unit := ()
def tw12732386463688382666 : Unit := ()
def tw6986646146700606650 : Unit := ()
def tw9729118448274841085 : Unit := ()
def tw1975646667996387756 : Unit := ()
def tw3314140345428285997 : Unit := ()
def tw1468800799637971907 : Unit := ()
def tw1110351647943898437 : Unit := ()
def tw9968236502288550442 : Unit := ()
def tw14517619794581085113 : Unit := ()
def tw10907764398706136947 : Unit := ()
def tw6241080842938351601 : Unit := ()
def tw12678922673197389892 : Unit := ()
def tw13530696299438124853 : Unit := ()
def tw6884370204477719818 : Unit := ()
def tw1072928546414630275 : Unit := ()
def tw7815105951880070534 : Unit := ()
def tw935458431681183466 : Unit := ()
def tw1092136221337807378 : Unit := ()
def tw10743109703269271501 : Unit := ()
def tw13595141977346788415 : Unit := ()
def tw10971406743289575257 : Unit := ()
def tw17281702394809070857 : Unit := ()
def tw14417336028795944592 : Unit := ()
def tw7600559569762294893 : Unit := ()
def tw10435031803577909772 : Unit := ()
def tw17338762897339868148 : Unit := ()
def tw8018397561097157054 : Unit := ()
def tw4773711516053613096 : Unit := ()
def tw6341297761624830361 : Unit := ()
def tw178497194574381232 : Unit := ()
def tw7900877878079056158 : Unit := ()
def tw8700879765841590728 : Unit := ()
def tw6063436764125142501 : Unit := ()
def tw15148467407046393267 : Unit := ()
def tw11531736669907758660 : Unit := ()
def tw5758305444899322253 : Unit := ()
def tw15396950094277657663 : Unit := ()
def tw13517775858974054960 : Unit := ()
def tw1855567283164579531 : Unit := ()
def tw6651817349163946305 : Unit := ()
def tw14011828576105819039 : Unit := ()
def tw5861647187148646061 : Unit := ()
def tw16413223822490234025 : Unit := ()
def tw7147128560881530904 : Unit := ()
def tw17323353855886283877 : Unit := ()
def tw11162408701428190282 : Unit := ()
def tw8522437279919811959 : Unit := ()
def tw9355731882601096872 : Unit := ()
def tw5242510456719190366 : Unit := ()
def tw6442812343762495526 : Unit := ()
def tw17203031730743804174 : Unit := ()
def tw4270277204987285363 : Unit := ()
def tw1753148431557164112 : Unit := ()
def tw12725685037889647415 : Unit := ()
def tw3865348638033764648 : Unit := ()
def tw12780027217061834393 : Unit := ()
def tw8589682431957977542 : Unit := ()
def tw15001352712762956559 : Unit := ()
def tw3247468527599741745 : Unit := ()
def tw9616908677799613492 : Unit := ()
def tw8271781221721347512 : Unit := ()
def tw13341694904108082548 : Unit := ()
def tw10012552809974757176 : Unit := ()
def tw1797233942627506061 : Unit := ()
def tw1968379618364005325 : Unit := ()
def tw10010216761362392247 : Unit := ()
def tw1326254255727806491 : Unit := ()
def tw17088657456022379028 : Unit := ()
def tw7694681276928244094 : Unit := ()
def tw2910236901748694361 : Unit := ()
def tw3972859699648183222 : Unit := ()
def tw9343265937356110260 : Unit := ()
def tw4755777081352166918 : Unit := ()
def tw18295810250398482022 : Unit := ()
def tw15133566798293969046 : Unit := ()
def tw2915265164036427476 : Unit := ()
def tw16312678923610240757 : Unit := ()
def tw17564793229538998561 : Unit := ()
def tw13592008037488892156 : Unit := ()
def tw10823108476627051428 : Unit := ()
def tw16099555725845145727 : Unit := ()
def tw8493791522080010488 : Unit := ()
def tw10415848937190385497 : Unit := ()
def tw4146744868387070164 : Unit := ()
def tw7599421034116787389 : Unit := ()
def tw1012381416664569592 : Unit := ()
def tw10673808961372215830 : Unit := ()
def tw8367002171556625846 : Unit := ()
def tw6261138274809870551 : Unit := ()
def tw8685783611220399666 : Unit := ()
def tw17970039933371568014 : Unit := ()
def tw1042734505688824855 : Unit := ()
def tw4198139147888818958 : Unit := ()
def tw15648370915697124204 : Unit := ()
def tw17140764731667624511 : Unit := ()
def tw1214081035084287245 : Unit := ()
def tw12068253783645015603 : Unit := ()
def tw8337370106535843566 : Unit := ()
def tw17194893454502510270 : Unit := ()
def tw12526389901244316429 : Unit := ()
def tw5465063691770607621 : Unit := ()
def tw6668287670103859289 : Unit := ()
def tw11518774184483983655 : Unit := ()
def tw13417975952336432896 : Unit := ()
def tw11601695271852234629 : Unit := ()
def tw10126399997566740350 : Unit := ()
def tw15208043201973444084 : Unit := ()
def tw4666742435283204724 : Unit := ()
def tw14214147806387241579 : Unit := ()
def tw13989411641561668547 : Unit := ()
def tw10366911923182929899 : Unit := ()
def tw14641585729669786407 : Unit := ()
def tw11907013767959764019 : Unit := ()
def tw140032456290890375 : Unit := ()
def tw13428206051331855155 : Unit := ()
def tw5010661295723398457 : Unit := ()
def tw4822812331565363819 : Unit := ()
def tw12340510310118426522 : Unit := ()
def tw1390939776690919100 : Unit := ()
def tw2517813893803667360 : Unit := ()
def tw13344602305515803982 : Unit := ()
def tw23154375406158672 : Unit := ()
def tw6199381138949963522 : Unit := ()
def tw14081427981836426374 : Unit := ()
def tw3152898013999752375 : Unit := ()
def tw7980847985363753515 : Unit := ()
def tw8842559758230305043 : Unit := ()
def tw17841306711001361118 : Unit := ()
def tw1113631386621674908 : Unit := ()
def tw8851141730647366375 : Unit := ()
def tw5470907653569782958 : Unit := ()
def tw7341405253541280025 : Unit := ()
def tw12910574760666294323 : Unit := ()
def tw6479231861445459803 : Unit := ()
def tw14484388864890889121 : Unit := ()
def tw5371259748679080947 : Unit := ()
def tw17061056670856764514 : Unit := ()
def tw416356620583184668 : Unit := ()
def tw4282370350073200321 : Unit := ()
def tw1408427050630470511 : Unit := ()
def tw13731272402184334521 : Unit := ()
def tw5754735507887877121 : Unit := ()
def tw12030324303519044610 : Unit := ()
def tw7059562228292034764 : Unit := ()
def tw8494054764718955481 : Unit := ()
def tw6158533419012972631 : Unit := ()
def tw1063878263228071745 : Unit := ()
def tw10185993674542176871 : Unit := ()
def tw14438486383126830559 : Unit := ()
def tw3416195677201178863 : Unit := ()
def tw6308231516149592658 : Unit := ()
def tw11468064374170323824 : Unit := ()
def tw14025597828740535550 : Unit := ()
def tw16430794639207153935 : Unit := ()
def tw2892717673780381358 : Unit := ()
def tw11535919306975986589 : Unit := ()
def tw4150752054356770047 : Unit := ()
def tw8430775038434829775 : Unit := ()
def tw12816206442769141953 : Unit := ()
def tw3083879880364085549 : Unit := ()
def tw9956297866716334004 : Unit := ()
def tw15284416551466618523 : Unit := ()
def tw17757625090913415864 : Unit := ()
def tw18286947217085058196 : Unit := ()
def tw1684424635033883114 : Unit := ()
def tw15463555355407102739 : Unit := ()
def tw9812759186078912985 : Unit := ()
def tw6629842560865504320 : Unit := ()
def tw2252344082216304285 : Unit := ()
def tw17402611197088895593 : Unit := ()
def tw12092513072605571616 : Unit := ()
def tw6956118028670901607 : Unit := ()
def tw3152243088157184025 : Unit := ()
def tw7541181954316399426 : Unit := ()
def tw11074123205023784121 : Unit := ()
def tw4969463044494655964 : Unit := ()
def tw14375835260589921030 : Unit := ()
def tw11580815125764972786 : Unit := ()
def tw1096427523431506618 : Unit := ()
def tw34037408965372841 : Unit := ()
def tw7538522217834462487 : Unit := ()
def tw2989475033671979750 : Unit := ()
def tw32297481168978106 : Unit := ()
def tw9731160741866982441 : Unit := ()
def tw13215880607317237535 : Unit := ()
def tw996489855765531350 : Unit := ()
def tw13203754761563141478 : Unit := ()
def tw13261576325000533715 : Unit := ()
def tw15735874796810664230 : Unit := ()
def tw18044466179345923188 : Unit := ()
def tw9028108090442819730 : Unit := ()
def tw8511461360556479486 : Unit := ()
def tw9401784146512760156 : Unit := ()
def tw17411423184217131154 : Unit := ()
def tw14733918312610959043 : Unit := ()
def tw18103364887238984639 : Unit := ()
end PySem.W.Fast
namespace Ow
end Ow
open PySem PySem.W PyProof.Rows
set_option maxRecDepth 100000 in
set_option maxHeartbeats 0 in
theorem PySem.Challenge.cw_optionwood_k71_tight_and_needed_holds : PySem.Challenge.rw_optionwood_k71_tight_and_needed.Holds := by
 w_on; o_law; k_head; (case hw => w_witness2)
 k_fill
 refine' Ow.walk (l := PySem.Challenge.rw_optionwood_k71_tight_and_needed) (c15 := _) (P15 := _) rfl rfl (fun w h Y => PySem.W.km_in_of Y) ?K0 ?hT ?F
 case F =>
  intro w mg fa h KX G hmg
  refine' Ow.all_mk KX G hmg ?a1 ?l1 ?c1 ?k1 ?a2 ?l2 ?c2 ?k2 ?a3 ?l3 ?c3 ?k3 ?a4 ?l4 ?c4 ?k4 ?a5 ?l5 ?c5 ?k5 ?a6 ?l6 ?c6 ?k6 ?a7 ?l7 ?c7 ?k7 ?a8 ?l8 ?c8 ?k8 ?a9 ?l9 ?c9 ?k9 ?a10 ?l10 ?c10 ?k10 ?a11 ?l11 ?c11 ?k11 ?a12 ?l12 ?c12 ?k12 ?a13 ?l13 ?c13 ?k13 ?a14 ?l14 ?c14 ?k14 ?a15 ?l15 ?c15 ?k15 ?m15 ?n15 ?a16 ?l16 ?c16 ?k16 ?a17 ?l17 ?c17 ?k17 ?a18 ?l18 ?c18 ?k18 ?a19 ?l19 ?c19 ?k19 ?a20 ?l20 ?c20 ?k20 ?a21 ?l21 ?c21 ?k21 ?a22 ?l22 ?c22 ?k22 ?a23 ?l23 ?c23 ?k23 ?a24 ?l24 ?c24 ?k24 ?a25 ?l25 ?c25 ?k25 ?a26 ?l26 ?c26 ?k26 ?a27 ?l27 ?c27 ?k27 ?a28 ?l28 ?c28 ?k28 ?a29 ?l29 ?c29 ?k29 ?a30 ?l30 ?c30 ?k30 ?a31 ?l31 ?c31 ?k31 ?a32 ?l32 ?c32 ?k32 ?a33 ?l33 ?c33 ?k33 ?a34 ?l34 ?c34 ?k34 ?a35 ?l35 ?c35 ?k35 ?a36 ?l36 ?c36 ?k36 ?a37 ?l37 ?c37 ?k37 ?a38 ?l38 ?c38 ?k38 ?a39 ?l39 ?c39 ?k39 ?a40 ?l40 ?c40 ?k40 ?a41 ?l41 ?c41 ?k41 ?a42 ?l42 ?c42 ?k42 ?z1 ?z2 ?z3 ?z4 ?z5 ?z6 ?z7 ?z8 ?z9 ?z10 ?z11 ?z12 ?z13 ?g_NoWares ?xa_NoWares ?xb_NoWares ?xc_NoWares ?xd_NoWares ?k_NoWares_NoWares ?v_NoWares ?s_NoWares_NoWares
  (case a1 => k_is)
  (case l1 => k_is)
  (case c1 => k_is)
  (case k1 => k_is)
  (case a2 => k_is)
  (case l2 => k_is)
  (case c2 => k_is)
  (case k2 => k_is)
  (case a3 => k_is)
  (case l3 => k_is)
  (case c3 => k_is)
  (case k3 => k_is)
  (case a4 => k_is)
  (case l4 => k_is)
  (case c4 => k_is)
  (case k4 => k_is)
  (case a5 => k_is)
  (case l5 => k_is)
  (case c5 => k_is)
  (case k5 => k_is)
  (case a6 => k_is)
  (case l6 => k_is)
  (case c6 => k_is)
  (case k6 => k_is)
  (case a7 => k_is)
  (case l7 => k_is)
  (case c7 => k_is)
  (case k7 => k_is)
  (case a8 => k_is)
  (case l8 => k_is)
  (case c8 => k_is)
  (case k8 => k_is)
  (case a9 => k_is)
  (case l9 => k_is)
  (case c9 => k_is)
  (case k9 => k_is)
  (case a10 => k_is)
  (case l10 => k_is)
  (case c10 => k_is)
  (case k10 => k_is)
  (case a11 => k_is)
  (case l11 => k_is)
  (case c11 => k_is)
  (case k11 => k_is)
  (case a12 => k_is)
  (case l12 => k_is)
  (case c12 => k_is)
  (case k12 => k_is)
  (case a13 => k_is)
  (case l13 => k_is)
  (case c13 => k_is)
  (case k13 => k_is)
  (case a14 => k_is)
  (case l14 => k_is)
  (case c14 => k_is)
  (case k14 => k_is)
  (case a15 => k_is)
  (case l15 => k_is)
  (case c15 => k_is)
  (case k15 => k_is)
  (case m15 => k_is)
  (case n15 => exact rfl)
  (case a16 => k_is)
  (case l16 => k_is)
  (case c16 => k_is)
  (case k16 => k_is)
  (case a17 => k_is)
  (case l17 => k_is)
  (case c17 => k_is)
  (case k17 => k_is)
  (case a18 => k_is)
  (case l18 => k_is)
  (case c18 => k_is)
  (case k18 => k_is)
  (case a19 => k_is)
  (case l19 => k_is)
  (case c19 => k_is)
  (case k19 => k_is)
  (case a20 => k_is)
  (case l20 => k_is)
  (case c20 => k_is)
  (case k20 => k_is)
  (case a21 => k_is)
  (case l21 => k_is)
  (case c21 => k_is)
  (case k21 => k_is)
  (case a22 => k_is)
  (case l22 => k_is)
  (case c22 => k_is)
  (case k22 => k_is)
  (case a23 => k_is)
  (case l23 => k_is)
  (case c23 => k_is)
  (case k23 => k_is)
  (case a24 => k_is)
  (case l24 => k_is)
  (case c24 => k_is)
  (case k24 => k_is)
  (case a25 => k_is)
  (case l25 => k_is)
  (case c25 => k_is)
  (case k25 => k_is)
  (case a26 => k_is)
  (case l26 => k_is)
  (case c26 => k_is)
  (case k26 => k_is)
  (case a27 => k_is)
  (case l27 => k_is)
  (case c27 => k_is)
  (case k27 => k_is)
  (case a28 => k_is)
  (case l28 => k_is)
  (case c28 => k_is)
  (case k28 => k_is)
  (case a29 => k_is)
  (case l29 => k_is)
  (case c29 => k_is)
  (case k29 => k_is)
  (case a30 => k_is)
  (case l30 => k_is)
  (case c30 => k_is)
  (case k30 => k_is)
  (case a31 => k_is)
  (case l31 => k_is)
  (case c31 => k_is)
  (case k31 => k_is)
  (case a32 => k_is)
  (case l32 => k_is)
  (case c32 => k_is)
  (case k32 => k_is)
  (case a33 => k_is)
  (case l33 => k_is)
  (case c33 => k_is)
  (case k33 => k_is)
  (case a34 => k_is)
  (case l34 => k_is)
  (case c34 => k_is)
  (case k34 => k_is)
  (case a35 => k_is)
  (case l35 => k_is)
  (case c35 => k_is)
  (case k35 => k_is)
  (case a36 => k_is)
  (case l36 => k_is)
  (case c36 => k_is)
  (case k36 => k_is)
  (case a37 => k_is)
  (case l37 => k_is)
  (case c37 => k_is)
  (case k37 => k_is)
  (case a38 => k_is)
  (case l38 => k_is)
  (case c38 => k_is)
  (case k38 => k_is)
  (case a39 => k_is)
  (case l39 => k_is)
  (case c39 => k_is)
  (case k39 => k_is)
  (case a40 => k_is)
  (case l40 => k_is)
  (case c40 => k_is)
  (case k40 => k_is)
  (case a41 => k_is)
  (case l41 => k_is)
  (case c41 => k_is)
  (case k41 => k_is)
  (case a42 => k_is)
  (case l42 => k_is)
  (case c42 => k_is)
  (case k42 => k_is)
  (case z1 => k_is)
  (case z2 => k_is)
  (case z3 => k_is)
  (case z4 => k_is)
  (case z5 => k_is)
  (case z6 => k_is)
  (case z7 => k_is)
  (case z8 => k_is)
  (case z9 => k_is)
  (case z10 => k_is)
  (case z11 => k_is)
  (case z12 => k_is)
  (case z13 => k_is)
  (case g_NoWares => k_is)
  (case xa_NoWares => first | k_is | kernel_rfl)
  (case xb_NoWares => first | k_is | kernel_rfl)
  (case xc_NoWares => first | k_is | kernel_rfl)
  (case xd_NoWares => first | k_is | kernel_rfl)
  (case k_NoWares_NoWares => first | k_is | kernel_rfl)
  (case v_NoWares => first | k_is | kernel_rfl)
  (case s_NoWares_NoWares => first | k_is | kernel_rfl)
 case K0 => intro w; kernel_rfl
 case hT =>
  intro w h Y q hq
  simp only [List.mem_cons, List.not_mem_nil, or_false] at hq
  subst hq
  exact ⟨PySem.W.codeHd_of_K (PySem.W.km_in_of Y) (by kernel_rfl), PySem.W.km_tabs_of Y _ (by decide)⟩
#print axioms PySem.Challenge.cw_optionwood_k71_tight_and_needed_holds
